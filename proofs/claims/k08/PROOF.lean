import PyProof.Rows.All
import Wide.All
import OpenK.AllK
import Wide.FinOn
import KE.KSuper
import HandS.ForMost
import HandS.ForExc
import HandS.Star
import HandS.ClsMeth
import HandS.ExcInit
import HandS.ExcIs
import HandS.ExcField
import HandS.HotCalls
import HandS.Iter
import HandS.Walk
import KE.GoesEnum
import HandS.DictComp
import HandS.IsInst
import KE.KExcIs
import HandS.Zip
import KE.GoesMore
import HandS.Rev
import HandS.TupAny
import HandS.RaiseMore
import HandS.OwnEq
import HandS.SortOrd
import HandS.SortRule
import HandS.TupSets
import HandS.FStr
import HandS.StrMore
import HandS.Codes
import HandS.More
import PyProof.Rows.StrIntSpec
import KE.DataMinMax
import HandS.Deep
import HandS.TupLe
import PyProof.StrOps2
import HandS.DictTup
import HandS.TupLen
import HandS.Flow
import HandS.Style
import HandS.Property
import HandS.Conv
import PySem.Challenge.RW_withincall_k08_whole_texts_refused
set_option Elab.async false
set_option linter.all false
set_option maxRecDepth 100000
set_option maxHeartbeats 4000000
namespace WC
open PySem PySem.Spec PyProof.Rows L2

/-! cells of a def that closes over the class -/
theorem cf_app : ∀ (names : List (Str × NameKind)) (n : Nat) (acc : List (Str × Addr)), cellsFrom n names acc = cellsFrom n names [] ++ acc
  | [], _, _ => rfl
  | (x, k) :: r, n, acc => by
    unfold cellsFrom
    by_cases hk : (k == NameKind.cell) = true
    · simp only [hk, if_true]
      rw [cf_app r (n + 1) ((x, n) :: acc), cf_app r (n + 1) [(x, n)], List.append_assoc]
      rfl
    · simp only [hk, if_false]
      exact cf_app r n acc
theorem cf_mem : ∀ (names : List (Str × NameKind)) (n : Nat) (x : Str) (c : Addr), (x, c) ∈ cellsFrom n names [] → (x, NameKind.cell) ∈ names
  | [], _, _, _, h => by cases h
  | (y, k) :: r, n, x, c, h => by
    unfold cellsFrom at h
    by_cases hk : (k == NameKind.cell) = true
    · simp only [hk, if_true] at h
      rw [cf_app, List.mem_append] at h
      rcases h with h | h
      · exact List.mem_cons_of_mem _ (cf_mem r _ x c h)
      · have e := List.mem_singleton.mp h
        cases e
        have e2 : k = NameKind.cell := by cases k <;> first | rfl | cases hk
        rw [e2]
        exact List.mem_cons_self
    · simp only [hk, if_false] at h
      exact List.mem_cons_of_mem _ (cf_mem r _ x c h)
theorem store_same {e1 e2 : Env} {x : Str} {v : Value} (h1 : e1.scope = e2.scope) (h2 : e1.locals = e2.locals) (h3 : e1.globals = e2.globals) (h4 : e1.cells.lookup x = e2.cells.lookup x) : storeName e1 x v = storeName e2 x v := by
  obtain ⟨s1, l1, g1, c1⟩ := e1
  obtain ⟨s2, l2, g2, c2⟩ := e2
  dsimp only at h1 h2 h3 h4
  subst h1 h2 h3
  unfold storeName PySem.cellOf
  simp only [h4]
  rfl
theorem forIn_same {β : Type} {α : Type} {f g : α → β → Sem (ForInStep β)} : ∀ (l : List α) (b : β), (∀ a ∈ l, ∀ b, f a b = g a b) → forIn l b f = forIn l b g
  | [], _, _ => rfl
  | a :: l, b, h => by
    rw [List.forIn_cons, List.forIn_cons, h a List.mem_cons_self]
    congr 1
    funext r
    cases r with
    | done b => rfl
    | yield b => exact forIn_same l b fun c hc => h c (List.mem_cons_of_mem _ hc)
end WC

set_option maxHeartbeats 4000000
namespace WC
open PySem PySem.Spec PyProof.Rows L2
section
variable {M : Model} {A : Around} {E : Value → Shared → Prop} {s : Shared}
theorem env_made {scope : Scope} {gl cc : Addr} {binds : List (Str × Value)} {qual : Str} {func : Option Addr} {code : Value} {blt : Addr} {Q : Env → Shared → Prop} (hk : scope.kind = .function)
    (hb : ∀ x ∈ binds, x.1 ≠ ("__class__" : Str) ∧ (scope.names.lookup x.1 = some .local ∨ (scope.names.lookup x.1 = some .cell ∧ ((cellsFrom (s.heap.objs.size + 1) scope.names []).lookup x.1).isSome = true)))
    (hQ : ∀ s', InCallC s s.heap.objs.size (bindL (fun x => scope.names.lookup x) binds fun _ => none) (cellsFrom (s.heap.objs.size + 1) scope.names []) (bindC (fun x => scope.names.lookup x) binds fun _ => none) s' →
      Q (newEnv scope s.heap.objs.size gl (cellsFrom (s.heap.objs.size + 1) scope.names [] ++ [(("__class__" : Str), cc)]) qual func code none blt) s') :
    wpAny M A (newFunctionEnv scope gl [(("__class__" : Str), cc)] binds qual func code none blt) Q E s := by
  have hz : ∀ o : Obj, ({ s with heap := s.heap.push o } : Shared).heap.objs.size = s.heap.objs.size + 1 := fun o => Heap.size_push ..
  have ok := cellsFrom_ok scope.names (s.heap.push { cls := .type "frame", data := .dict #[] }) (s.heap.objs.size + 1) [] ⟨fun _ _ z => (nomatch z), .nil⟩ (by rw [Heap.size_push]; exact Nat.le_refl _)
  rw [Heap.size_push] at ok
  simp only [newFunctionEnv, Option.isSome_none, Bool.false_eq_true, if_false]
  refine wpAny_bind <| wpAny_alloc ?_
  refine wpAny_bind <| wpAny_layCells _ (fun name kind cells => by cases e : kind == NameKind.cell <;> simp [e]) _ _ _ _ ?_
  rw [hz, cf_app]
  have st : ∀ x ∈ binds, ∀ u : PUnit, (do storeName (newEnv scope s.heap.objs.size gl (cellsFrom (s.heap.objs.size + 1) scope.names [] ++ [(("__class__" : Str), cc)]) qual func code none blt) x.1 x.2; pure (ForInStep.yield PUnit.unit) : Sem _) =
      (do storeName (newEnv scope s.heap.objs.size gl (cellsFrom (s.heap.objs.size + 1) scope.names []) qual func code none blt) x.1 x.2; pure (ForInStep.yield PUnit.unit)) := fun x hx _ => by
    have ne := (hb x hx).1
    have hl : List.lookup x.1 [(("__class__" : Str), cc)] = none := by
      have q : (x.1 == ("__class__" : Str)) = false := by simpa using ne
      simp [List.lookup, q]
    have h := store_same (v := x.2) (e1 := newEnv scope s.heap.objs.size gl (cellsFrom (s.heap.objs.size + 1) scope.names [] ++ [(("__class__" : Str), cc)]) qual func code none blt) (e2 := newEnv scope s.heap.objs.size gl (cellsFrom (s.heap.objs.size + 1) scope.names []) qual func code none blt) rfl rfl rfl (by
      show List.lookup x.1 (cellsFrom (s.heap.objs.size + 1) scope.names [] ++ [(("__class__" : Str), cc)]) = List.lookup x.1 (cellsFrom (s.heap.objs.size + 1) scope.names [])
      rw [List.lookup_append, hl]
      cases List.lookup x.1 (cellsFrom (s.heap.objs.size + 1) scope.names []) <;> rfl)
    rw [h]
  refine wpAny_bind ?_
  refine Eq.mpr (congrArg (fun t => wpAny M A t _ E _) (forIn_same binds PUnit.unit fun x hx b => st x hx b)) ?_
  refine wpAny_bindParams (s₀ := s) (env := newEnv scope s.heap.objs.size gl (cellsFrom (s.heap.objs.size + 1) scope.names []) qual func code none blt) _ (fun _ _ _ => rfl) hk binds (fun _ => none) (fun _ => none) _ _
    ⟨⟨⟨_, _, rfl⟩, (Heap.Ns.new s.heap (.type "frame")).keeps (pushCells_keeps _ _), fun b o e => pushCells_keeps _ _ b o (Heap.get?_push_of_some _ e), Nat.le_refl _⟩, fun n c hc => (ok.empty n c (mem_of_lookup hc)).1, ok.apart, fun n c hm => (ok.empty n c hm).2⟩
    (fun x hx => (hb x hx).2) fun s' x => wpAny_pure (hQ s' x)
end
end WC

set_option maxHeartbeats 4000000
namespace WC
open PySem PySem.Spec PyProof.Rows L2
abbrev cls_ : Str := "__class__"
/-- names of a def that says super(): the parameters first; one captured name, the class -/
structure CScope (N ps : List Str) (sc : Scope) : Prop where
  knd : sc.kind = .function
  coR : sc.isCoroutine = false
  gnr : sc.isGenerator = false
  nod : N.Nodup
  pfx : N.take ps.length = ps
  prm : ∀ x ∈ ps, x ≠ cls_ ∧ (sc.names.lookup x = some .local ∨ sc.names.lookup x = some .cell)
  fre : ∀ y ∈ sc.names, y.2 = .free → y.1 = cls_
  frc : sc.names.lookup cls_ = some .free
  nin : cls_ ∉ N
  once : ∀ y ∈ sc.names, y.1 = cls_ → y.2 = .free
abbrev envS (qual : Str) (sc : Scope) (L f : Addr) (cd : Value) (cc : Addr) : Env := PySem.W.envX qual sc L f cd (cellsFrom (L + 1) sc.names [] ++ [(cls_, cc)])
def cxS (CX : CXT) (P : Program) (w : World) (K : PySem.W.Frag) (mg : Str → Option Value) (base : Heap) (N : List Str) (qual : Str) (sc : Scope) (f : Addr) (cd : Value) (cc : Addr) (A : Around) (outer : List Env) (s : Shared) (H : Hp) (E : XK) : Cx :=
  { prog := P, w := w, K := K, mg := mg, base := base, A := A.deeper (envS qual sc s.heap.objs.size f cd cc), N := N, s_0 := s, H_0 := H, env := envS qual sc s.heap.objs.size f cd cc, outer := outer,
    stack := envS qual sc s.heap.objs.size f cd cc :: outer, ex := [], calm := true, fn := fun y => decide (y ≠ cls_), pn := [],
    xe := fun e s' => wpAny (model P w) (A.deeper (envS qual sc s.heap.objs.size f cd cc)) (leaving (envS qual sc s.heap.objs.size f cd cc) e) (fun _ s2 => CX outer H s E e s2) (fun e2 s2 => CX outer H s E e2 s2) s' }
theorem look_app {l : List (Str × Addr)} {x : Str} {cc c : Addr} (h : (l ++ [(cls_, cc)]).lookup x = some c) : l.lookup x = some c ∨ (x = cls_ ∧ c = cc) := by
  rw [List.lookup_append] at h
  cases e : l.lookup x with
  | some d => rw [e] at h; exact .inl h
  | none =>
    rw [e] at h
    have h : List.lookup x [(cls_, cc)] = some c := h
    by_cases q : x = cls_
    · subst q
      have z : List.lookup cls_ [(cls_, cc)] = some cc := by simp [List.lookup]
      rw [z] at h
      exact .inr ⟨rfl, (Option.some.inj h).symm⟩
    · have b : (x == cls_) = false := by simpa using q
      have z : List.lookup x [(cls_, cc)] = none := by simp [List.lookup, b]
      rw [z] at h
      cases h
section
variable {CX : CXT} {P : Program} {w : World} {K : PySem.W.Frag} {mg : Str → Option Value} {base : Heap} {N ps : List Str} {qual : Str} {sc : Scope} {f cc D : Addr} {cd : Value} {A : Around} {outer : List Env} {s s1 : Shared} {H : Hp} {E : XK} {us : List Value} {vs : List V}
theorem inv_startS {kc : Value} {dc : Option Addr} {lc : Array (Option Value)} (S : CScope N ps sc) (hd : A.handled = none) (e0 : Env0 P w K mg base A outer s H) (hl : vs.length = ps.length) (r : Vals vs us) (hcc : K.lookup cc = some ⟨kc, dc, .cell (some (.ref D)), lc⟩)
    (x : InCallC s s.heap.objs.size (bindL (fun x => sc.names.lookup x) (ps.zip us) fun _ => none) (cellsFrom (s.heap.objs.size + 1) sc.names []) (bindC (fun x => sc.names.lookup x) (ps.zip us) fun _ => none) s1) :
    Inv (cxS CX P w K mg base N qual sc f cd cc A outer s H E) [] (start N vs) H s1 := by
  have hN : ps.length ≤ N.length := by
    have z := congrArg List.length S.pfx
    rw [List.length_take] at z
    omega
  obtain ⟨h1, tk, rfl, hk⟩ := x.done
  have bcc : base.get? cc = some ⟨kc, dc, .cell (some (.ref D)), lc⟩ := e0.mod.kin _ _ hcc
  have scc := e0.bs _ _ bcc
  have ltc : cc < s.heap.objs.size := Heap.lt_size scc.1
  have nm : ∀ y c, (cellsFrom (s.heap.objs.size + 1) sc.names []).lookup y = some c → y ≠ cls_ ∧ s.heap.objs.size < c := fun y c h => by
    have m := mem_of_lookup h
    refine ⟨fun z => ?_, x.above y c m⟩
    have z2 := S.once _ (cf_mem _ _ _ _ m) z
    cases z2
  have lkc : (cellsFrom (s.heap.objs.size + 1) sc.names [] ++ [(cls_, cc)]).lookup cls_ = some cc := by
    rw [List.lookup_append]
    cases e : (cellsFrom (s.heap.objs.size + 1) sc.names []).lookup cls_ with
    | some c => exact absurd rfl (nm _ _ e).1
    | none => show List.lookup cls_ [(cls_, cc)] = some cc; simp [List.lookup]
  have lko : ∀ y c, (cellsFrom (s.heap.objs.size + 1) sc.names []).lookup y = some c → (cellsFrom (s.heap.objs.size + 1) sc.names [] ++ [(cls_, cc)]).lookup y = some c := fun y c e => by
    rw [List.lookup_append, e]
    rfl
  have nx : ∀ b : Addr, b ∉ (cxS CX P w K mg base N qual sc f cd cc A outer s H E).ex := fun b z => absurd (show b ∈ ([] : List Addr) from z) (by simp)
  refine
    { ok :=
        { mod := e0.mod, kind := S.knd, glob := rfl, blt := rfl, above := Nat.le_refl _,
          inj := fun y z c g1 g2 => ?_, has := fun y hy => ?_, cab := fun y c g1 g2 => ?_, hd := fun _ => hd, frames := Around.frames_deeper e0.frames, stk := .inr ⟨rfl, rfl⟩, exf := fun b z => absurd z (nx b), bs := e0.bs, bsz := e0.bsz,
          noex := fun b _ _ => nx b, exfs := fun b z => absurd z (nx b), funs := e0.funs, frf := e0.frf },
      os := rfl, bare := e0.bare, base := Un.kept hk, loc := ⟨_, x.toInCall.ns, fun i y v g1 g2 g3 => ?_⟩, cell := fun y c g => ?_, free := e0.hok.fresh (Nat.le_refl _), freeC := fun y c g => ?_,
      pin := fun p hp => absurd (show p ∈ ([] : List (Addr × Obj)) from hp) (by simp), hok := e0.hok.kept hk, len := ?_ }
  · rcases look_app g1 with a | ⟨a, a2⟩
    · rcases look_app g2 with b | ⟨b, b2⟩
      · exact name_of_addr x.apart (mem_of_lookup a) (mem_of_lookup b)
      · exact absurd (Nat.lt_trans ((b2 : c = cc) ▸ (nm _ _ a).2) ltc) (Nat.lt_irrefl _)
    · rcases look_app g2 with b | ⟨b, b2⟩
      · exact absurd (Nat.lt_trans ((a2 : c = cc) ▸ (nm _ _ b).2) ltc) (Nat.lt_irrefl _)
      · rw [a, b]
  · have hy : sc.names.lookup y = some .cell ∨ sc.names.lookup y = some .free := hy
    rcases hy with hy | hy
    · obtain ⟨c, hc⟩ := cell_has (n := s.heap.objs.size + 1) hy
      exact ⟨c, lko _ _ hc⟩
    · have z := S.fre _ (mem_of_lookup hy) rfl
      have z : y = cls_ := z
      rw [z]
      exact ⟨cc, lkc⟩
  · have g1 : y ≠ cls_ := of_decide_eq_true g1
    rcases look_app g2 with a | ⟨a, _⟩
    · exact Nat.le_of_lt (nm _ _ a).2
    · exact absurd a g1
  · have hi : i < vs.length := by
      unfold L2.start at g2
      by_cases hi : i < vs.length
      · exact hi
      · rw [List.getElem?_append_right (by simpa using hi), List.getElem?_replicate] at g2
        split at g2 <;> cases g2
    have ha : vs[i]? = some v := by
      unfold L2.start at g2
      rw [List.getElem?_append_left (by simpa using hi), List.getElem?_map] at g2
      cases e : vs[i]? with
      | none => rw [e] at g2; cases g2
      | some a => rw [e] at g2; cases g2; rfl
    obtain ⟨u, hu, rv⟩ := r.get ha
    have hp : ps[i]? = some y := by
      rw [← S.pfx, List.getElem?_take_of_lt (by omega)]
      exact g1
    have ndP : ps.Nodup := by
      rw [← S.pfx]
      exact S.nod.sublist (List.take_sublist _ _)
    refine ⟨u, rv, ?_⟩
    rcases (S.prm y (List.mem_of_getElem? hp)).2 with k | k
    · exact .inl ⟨k, bindL_get ndP hp hu k⟩
    · obtain ⟨c, e⟩ := cell_has (n := s.heap.objs.size + 1) k
      refine .inr ⟨.inl k, c, lko _ _ e, ?_⟩
      have q := x.cell y c e
      rw [bindC_get ndP hp hu (by rw [k]; decide)] at q
      exact q
  · rcases look_app g with a | ⟨_, a⟩
    · exact ⟨_, x.cell _ _ a⟩
    · subst a
      exact ⟨_, _, hk _ _ scc.1, rfl⟩
  · rcases look_app g with a | ⟨_, a⟩
    · exact e0.hok.fresh (Nat.le_of_lt (nm _ _ a).2)
    · subst a
      exact scc.2
  · unfold L2.start
    show _ = N.length
    rw [List.length_append, List.length_map, List.length_replicate]
    omega
end
end WC

set_option maxHeartbeats 4000000
namespace WC
open PySem PySem.Spec PyProof.Rows L2
/-- a block, run in the activation c -/
structure PX (X : Cx) (c : Code) (st : List Stmt) (t : TS) : Prop where
  run : ∀ (pins : List (Addr × Obj)) (s : Shared) (σ : L2.St) (H : Hp) (D : Ends), Inv X pins σ H s → t D σ H → PySem.wpAt (model X.prog X.w) X.A c (execs st X.env) (SP X pins D) X.xe s
section
variable {X : Cx} {c : Code} {st : Stmt} {rest : List Stmt} {t u : TS}
theorem px_of {st : List Stmt} (h : PSs X st t) : PX X c st t := ⟨fun pins s σ H D I z => wpAt_of_wpAny (h.run pins s σ H D I z)⟩
theorem px_cons (h1 : PS X st t) (h2 : PX X c rest u) : PX X c (st :: rest) (tSeq t u) := by
  refine ⟨fun pins s σ H D I h => ks_wpAt_execs_cons (wpAt_of_wpAny (thn (h1.run pins s σ H { D with nx := u D } I h) fun f s1 q => ?_))⟩
  cases f with
  | next =>
    obtain ⟨σ1, H1, I1, q1⟩ := q
    exact h2.run pins s1 σ1 H1 D I1 q1
  | ret v => exact q
  | brk => exact q
  | cont => exact q
/-- what the written part says for super() in a method of the class at D, called upon an instance of the class at C; g: the def that is met -/
structure SupTxt (P : Program) (K : PySem.W.Frag) (mg : Str → Option Value) (D C g : Addr) (m : Str) : Prop where
  dCls : ∃ cdD, PySem.W.clsIn K D = some cdD
  sub : PySem.W.mroIn K C (.ref D) = some true
  sup : mg "super" = none
  nat : (m == cls_) = false
  top : (P.main.scope.names.lookup ("super" : Str)).isSome = false
  opq : PySem.W.nsIn K cStatics "thirdparty.any" = some none
  met : PySem.W.ks_superIn K C D m = some (some (.ref g))
  typ : PySem.W.typeIn K (.ref g) = some (.type "function")
  fni : PySem.W.fnIn K g = true
/-- what it says of the def that says so: where it stands, its cell, its code -/
structure SelfTxt (P : Program) (K : PySem.W.Frag) (env : Env) (D : Addr) (slf : Str) : Prop where
  kS : env.kindOf "super" = some .globalImplicit
  kC : env.kindOf cls_ = some .free
  kL : env.kindOf slf = some .local
  lc : ∃ cc k d l, env.cells.lookup cls_ = some cc ∧ K.lookup cc = some ⟨k, d, .cell (some (.ref D)), l⟩
  fn : ∃ f oc od fd sl ar, env.func = some f ∧ K.lookup f = some ⟨oc, od, .func fd, sl⟩ ∧ (fd.params.posonlyargs ++ fd.params.args).head? = some ar ∧ ar.arg = slf
  cod : ∃ c oc od vs sl file t, env.code = .ref c ∧ K.lookup c = some ⟨oc, od, .fields vs, sl⟩ ∧ vs[2]? = some (.str file t) ∧ ((P.main.file : Str) == file) = true
/-- super().m(e, ..) -/
def tSup (C : Addr) (i : Nat) (sp : Sp) (E : XK) (t : TA) : TE := fun σ H Q => ∃ x dx fs, σ[i]? = some (some (.ref x)) ∧ H x = some (.ins C dx fs) ∧ t σ H fun vs H1 => sp (.ref x :: vs) H1 Q E
section
variable {CX : CXT} {k i : Nat} {C D g : Addr} {sp : Sp} {E : XK} {e : Expr} {es : List Expr} {m slf : Str} {p0 p1 p2 p3 : Pos} {ta : TA} {body : List Stmt} {pl : Sem Bool}
theorem at_sup {pins : List (Addr × Obj)} {s : Shared} {σ : L2.St} {H : Hp} {Q : VK} (T : SupTxt X.prog X.K X.mg D C g m) (Z : SelfTxt X.prog X.K X.env D slf) (F : FnR X.prog X.w X.K X.mg X.base CX k g sp) (hr : Room k X.A) (hx : Passes CX X E) (hN : X.N[i]? = some slf) (ha : PA X (e :: es) ta)
    (he : eval (.Call (.Attribute (.Call (.Name "super" p0) [] [] p1) m p2) (e :: es) [] p3) X.env = (do
      let ov ← attributeBase (.Call (.Name "super" p0) [] [] p1) m X.env (eval (.Call (.Name "super" p0) [] [] p1) X.env)
      standAt p2.atName
      let (f, first) ← holding [ov] (getMethod ov m pl)
      callWith p3 f first (backTo p3 (starEach (e :: es) X.env)) [])) 
    (hst : starEach (e :: es) X.env = (false, eval e X.env) :: starEach es X.env) (hpl : (backTo p3 (starEach es X.env)).any (·.1) = false)
    (I : Inv X pins σ H s) (h : tSup C i sp E ta σ H Q) : PySem.wpAt (model X.prog X.w) X.A (.func body X.env) (eval (.Call (.Attribute (.Call (.Name "super" p0) [] [] p1) m p2) (e :: es) [] p3) X.env) (EP X pins σ Q) X.xe s := by
  obtain ⟨x, dx, fs, hs, hH, ht⟩ := h
  obtain ⟨f, of1, of2, fd, of3, ar, ef, kf, hd, har⟩ := Z.fn
  obtain ⟨c, oc1, oc2, vs, oc3, file, tf, ec, kc, hvs, hfile⟩ := Z.cod
  obtain ⟨cc, k1, k2, k3, lcc, kcc⟩ := Z.lc
  obtain ⟨cdD, hD⟩ := T.dCls
  have K1 := I.kIn
  obtain ⟨oD, hD1, hD2⟩ : ∃ oD, s.heap.get? D = some oD ∧ oD.data = .cls cdD := by
    unfold PySem.W.clsIn at hD
    split at hD
    · rename_i a b cd' d ho
      cases hD
      exact ⟨_, K1 _ _ ho, rfl⟩
    · cases hD
  obtain ⟨_, O, _, _, _⟩ := ins_get I.hok hH
  have hob := O.1
  refine ks_wpAt_MethodCall ?_ he
  refine ks_wpAt_super_base Z.kS Z.kC T.nat ef (K1 _ _ kf) rfl hd ec (K1 _ _ kc) rfl hvs hfile T.top ?_
  obtain ⟨mb, hb1, hb2⟩ := I.mod.blt
  refine PySem.W.ks_loadName_global I.ok.kind Z.kS (Calls.loadGlobal_builtin (by rw [I.ok.glob]; exact I.mod.glob.keeps I.bk) T.sup (by rw [I.ok.blt]; exact hb1.keeps I.bk) ((hb2 _ (by decide)).trans (show bootBuiltins "super" = some (.type "super") by decide +kernel)) ⟨rfl, ?_⟩)
  refine wpAny_loadName_free I.ok.kind Z.kC lcc ⟨_, K1 _ _ kcc, rfl⟩ ?_
  obtain ⟨mL, hn, hl⟩ := id I.loc
  obtain ⟨u, ru, lu⟩ := hl i slf _ hN hs (.inl Z.kL)
  obtain rfl : u = Value.ref x := ru
  have hm : mL slf = some (.ref x) := by
    rcases lu with ⟨_, q⟩ | ⟨q, _⟩
    · exact q
    · rw [Z.kL] at q
      rcases q with q | q <;> cases q
  rw [har]
  refine wpAny_loadName_local I.ok.kind Z.kL hn hm ?_
  refine ks_wpAny_isType_cls hD1 hD2 ⟨rfl, ?_⟩
  refine ks_wpAny_call_super hD1 hD2 hob rfl (fun c e => by cases e) (PySem.W.looks_mroIn K1 T.sub) fun h1 e1 k1 => ?_
  have I1 : Inv X pins σ H { s with heap := h1, toks := s.toks } := I.kept (t' := s.toks) k1
  have K2 := I1.kIn
  have K2 : X.K.In h1 := K2
  cases hC : PySem.W.clsIn X.K C with
  | none =>
    have z := T.met
    unfold PySem.W.ks_superIn at z
    rw [hC] at z
    cases z
  | some cd =>
    have z := T.met
    unfold PySem.W.ks_superIn at z
    rw [hC] at z
    obtain ⟨og, hog, hogc⟩ : ∃ og, h1.get? g = some og ∧ og.cls = .type "function" := by
      have y : (X.K.lookup g).map (·.cls) = some (.type "function") := T.typ
      cases q : X.K.lookup g with
      | none => rw [q] at y; cases y
      | some og =>
        rw [q] at y
        exact ⟨og, K2 _ _ q, Option.some.inj y⟩
    have hxC : x ≠ C := by
      rintro rfl
      unfold PySem.W.clsIn at hC
      split at hC
      · rename_i a b cd' d ho
        have e := K1 _ _ ho
        rw [hob] at e
        cases e
      · cases hC
    refine ks_wpAny_getMethod_super e1 (PySem.W.looks_opaque K2 T.opq) (l₀ := cd.mro) (fun A Q E s k q => wpAny_bind ((PySem.W.looks_clsIn K2 hC) A _ E s k (wpAny_pure q))) rfl K2 z hog hogc hxC T.nat ?_
    have I2 := ClX.met_new (C := x) (g := g) I1
    refine ClX.callwith_cm (C := x) (g := g) I2 (ClX.base_none I1 (Nat.le_refl _)) T.fni (thn (ha.run p3 _ _ σ H _ I2 ht) fun us s3 ⟨vs3, H3, I3, rv, q3⟩ => ⟨⟨ClX.pin_at I3, I3.kIn⟩, ?_⟩) hst hpl
    exact ClX.run_cm F hr hx I3 rv q3
end
end
end WC

set_option maxHeartbeats 4000000
namespace WC
open PySem PySem.Spec PyProof.Rows L2
section
variable {X : Cx} {CX : CXT} {k i : Nat} {C D g : Addr} {sp : Sp} {E : XK} {e : Expr} {es : List Expr} {m slf : Str} {p0 p1 p2 p3 p4 : Pos} {ta : TA} {body rest : List Stmt} {pl : Sem Bool} {u : TS}
/-- super().m(e, ..) as a statement -/
theorem px_sup (T : SupTxt X.prog X.K X.mg D C g m) (Z : SelfTxt X.prog X.K X.env D slf) (F : FnR X.prog X.w X.K X.mg X.base CX k g sp) (hr : Room k X.A) (hx : Passes CX X E) (hN : X.N[i]? = some slf) (ha : PA X (e :: es) ta) (hrest : PX X (.func body X.env) rest u)
    (he : eval (.Call (.Attribute (.Call (.Name "super" p0) [] [] p1) m p2) (e :: es) [] p3) X.env = (do
      let ov ← attributeBase (.Call (.Name "super" p0) [] [] p1) m X.env (eval (.Call (.Name "super" p0) [] [] p1) X.env)
      standAt p2.atName
      let (f, first) ← holding [ov] (getMethod ov m pl)
      callWith p3 f first (backTo p3 (starEach (e :: es) X.env)) []) := by rfl)
    (hst : starEach (e :: es) X.env = (false, eval e X.env) :: starEach es X.env := by rfl) (hpl : (backTo p3 (starEach es X.env)).any (·.1) = false := by rfl)
    (hs : swapsWith (.Call (.Attribute (.Call (.Name "super" p0) [] [] p1) m p2) (e :: es) [] p3) none p4.line X.env = pure false := by rfl) :
    PX X (.func body X.env) (.Expr (.Call (.Attribute (.Call (.Name "super" p0) [] [] p1) m p2) (e :: es) [] p3) p4 :: rest) (tSeq (tDrop (tSup C i sp E ta)) u) := by
  refine ⟨fun pins s σ H D0 I h => ks_wpAt_execs_cons (ks_wpAt_Expr_any (PySem.wpAt_mono (at_sup T Z F hr hx hN ha he hst hpl I h) (fun v s1 q => ?_) fun _ _ q => q) I.quiet hs)⟩
  obtain ⟨v1, H1, I1, r1, q1⟩ := q
  exact hrest.run pins s1 σ H1 D0 I1 q1
end
section
variable {CX : CXT} {P : Program} {w : World} {K : PySem.W.Frag} {mg : Str → Option Value} {base : Heap} {k : Nat} {f cc D : Addr} {name qual : Str} {params : Arguments} {body : List Stmt} {sc : Scope} {dV kV doc pm cdv ct oc kc : Value} {an od dc : Option Addr}
  {osl lc : Array (Option Value)} {N ps : List Str} {sp : Sp}
theorem run_bndS {A : Around} {outer : List Env} {s : Shared} {H : Hp} {args : Args} {Q : VK} {E : XK} {G : List V → Hp → Prop} (lk : K.lookup f = some ⟨oc, od, .func (PySem.W.fnX name qual params body sc [(cls_, cc)] dV kV doc pm an cdv ct), osl⟩) (hcd : PySem.W.codeIn K cdv qual = true)
    (hcc : K.lookup cc = some ⟨kc, dc, .cell (some (.ref D)), lc⟩) (S : CScope N ps sc) (hr : Room (k + 1) A) (e0 : Env0 P w K mg base A outer s H)
    (hb : StX.Bnd CX P w K mg base (PySem.W.fnX name qual params body sc [(cls_, cc)] dV kV doc pm an cdv ct) args ps A outer s H E G)
    (hbody : ∀ (s2 : Shared) (H2 : Hp) (vs : List V), G vs H2 → Room k (A.deeper (envS qual sc s2.heap.objs.size f cdv cc)) →
      ∃ t, PX (cxS CX P w K mg base N qual sc f cdv cc A outer s2 H2 E) (.func body (envS qual sc s2.heap.objs.size f cdv cc)) body t ∧ t { nx := fun _ H' => Q .non H', rt := Q } (L2.start N vs) H2) :
    codeAny (model P w) A (.call (.ref f) args) (CR CX outer P w H s Q E) s := by
  have KX : K.In s.heap := e0.mod.kin.keeps fun b o e => (e0.bs b o e).1
  refine codeAny_call_function hr.depth (KX _ _ lk) rfl S.coR S.gnr rfl (PySem.W.codeRec_of KX hcd) ?_
  refine hb _ _ _ fun s2 H2 vs us e2 un ho hx r hl g => ?_
  have lim : s2.heap.NoLimit := e0.mod.nolimit.keeps fun b o e => (e2.bs b o e).1
  refine env_made S.knd (fun y hy => ⟨(S.prm _ (List.of_mem_zip hy).1).1, ?_⟩) fun s1 x => ⟨lim.keeps x.toInCall.keep, ks_codeAny_funcAt ?_⟩
  · rcases (S.prm _ (List.of_mem_zip hy).1).2 with q | q
    · exact .inl q
    · exact .inr ⟨q, PySem.W.cellsFrom_some _ _ _ (.inl q)⟩
  obtain ⟨t, ht, hq⟩ := hbody s2 H2 vs g (hr.deeper _)
  have I : Inv (cxS CX P w K mg base N qual sc f cdv cc A outer s2 H2 E) [] (L2.start N vs) H2 s1 := inv_startS S hr.hd e2 hl r hcc x
  refine PySem.wpAt_mono (ht.run [] s1 _ _ _ I hq) (fun fl s3 hs => ?_) fun e s3 hs => ?_
  · have fin : ∀ {σ3 : L2.St} {H3 : Hp} {v3 : V} {u3 : Value}, Inv (cxS CX P w K mg base N qual sc f cdv cc A outer s2 H2 E) [] σ3 H3 s3 → RelV v3 u3 → Q v3 H3 → CE outer P w H s Q u3 s3 :=
      fun {σ3 H3 v3 u3} J rv q => ⟨v3, H3, J.os.trans ho, J.bare, un.trans J.base, J.hok, rv, q⟩
    cases fl with
    | ret u =>
      obtain ⟨v3, σ3, H3, J, rv, q⟩ := hs
      exact fin J rv q
    | next =>
      obtain ⟨σ3, H3, J, q⟩ := hs
      exact fin (v3 := V.non) (u3 := Value.none) J rfl q
    | brk =>
      obtain ⟨_, _, _, q⟩ := hs
      exact q.elim
    | cont =>
      obtain ⟨_, _, _, q⟩ := hs
      exact q.elim
  · exact wpAny_mono hs (fun _ s4 z => hx e s4 z) fun e2 s4 z => hx e2 s4 z
end
end WC

set_option maxHeartbeats 4000000
namespace WC
open PySem PySem.Spec PyProof.Rows L2
/-- def f(a, .., *pv, k = d, ..): how it binds positional values, the keywords left out (kv: the values of the keywords ks) -/
def BindStar (K : PySem.W.Frag) (fd : FuncData) (ps ks : List Str) (kv : List Value) (pv : Str) : Prop :=
  ∀ (u1 u2 : List Value), u1.length = ps.length → ∀ (M : Model) (A : Around) (Q : List (Str × Value) → Shared → Prop) (E : Value → Shared → Prop) (s : Shared), K.In s.heap →
    wpAny M A (newTuple u2 >>= fun t => pure ((ps ++ ks).zip (u1 ++ kv) ++ [(pv, t)])) Q E s → wpAny M A (bindArgs fd ⟨u1 ++ u2, []⟩) Q E s
theorem BindStar.of_eq {K : PySem.W.Frag} {fd : FuncData} {ps : List Str} {pv : Str} (h : ∀ u1 u2 : List Value, u1.length = ps.length → bindArgs fd ⟨u1 ++ u2, []⟩ = (newTuple u2 >>= fun t => pure (ps.zip u1 ++ [(pv, t)]))) : BindStar K fd ps [] [] pv := fun u1 u2 hl M A Q E s _ z => by
  rw [h u1 u2 hl]
  rw [List.append_nil, List.append_nil] at z
  exact z
/-- one keyword -/
theorem BindStar.of_kw {K : PySem.W.Frag} {fd : FuncData} {ps : List Str} {k1 pv : Str} {v : Value} {D : Addr} (hD : PySem.W.nsIn K D k1 = some (some v))
    (h : ∀ u1 u2 : List Value, u1.length = ps.length → ∃ (β γ : Type) (f1 : Option Value → Sem β) (f2 : β → Sem γ) (f3 : γ → Sem (List (Str × Value))) (a : β), bindArgs fd ⟨u1 ++ u2, []⟩ = ((nsGet D k1 >>= f1) >>= f2) >>= f3 ∧ f1 (some v) = pure a ∧
      (f2 a >>= f3) = (newTuple u2 >>= fun t => pure ((ps ++ [k1]).zip (u1 ++ [v]) ++ [(pv, t)]))) : BindStar K fd ps [k1] [v] pv := fun u1 u2 hl M A Q E s X z => by
  obtain ⟨β, γ, f1, f2, f3, a, e1, e2, e3⟩ := h u1 u2 hl
  rw [e1, bind_assoc, bind_assoc]
  refine wpAny_bind ((PySem.W.looks_nsIn X hD).here ?_)
  rw [e2, pure_bind, e3]
  exact z
section
variable {CX : CXT} {P : Program} {w : World} {K : PySem.W.Frag} {mg : Str → Option Value} {base : Heap} {k : Nat} {f cc D : Addr} {name qual : Str} {params : Arguments} {body : List Stmt} {sc : Scope} {dV kV doc pm cdv ct oc kc : Value} {an od dc : Option Addr}
  {osl lc : Array (Option Value)} {N ps ks : List Str} {sp : Sp} {pv : Str} {kvV : List V} {kv : List Value}
theorem bnd_star {fd : FuncData} {A : Around} {outer : List Env} {s : Shared} {H : Hp} {E : XK} {ws rest : List V} {us : List Value} (hCX : StX.CXUp CX) (hb : BindStar K fd ps ks kv pv) (hkv : Vals kvV kv) (hks : kv.length = ks.length) (e0 : Env0 P w K mg base A outer s H)
    (r : Vals (ws ++ rest) us) (hl : ws.length = ps.length) (hz : rest.length ≤ sizeLine) :
    StX.Bnd CX P w K mg base fd ⟨us, []⟩ (ps ++ ks ++ [pv]) A outer s H E (fun xs H2 => ∃ p, H p = none ∧ xs = ws ++ kvV ++ [V.ref p] ∧ H2 = upd H p (.tup rest)) := by
  intro A2 Ex Q2 h
  obtain ⟨u1, u2, eu, r1, r2⟩ := StX.vals_split r
  subst eu
  have hl1 : u1.length = ps.length := r1.length ▸ hl
  have hl2 : u2.length ≤ sizeLine := r2.length ▸ hz
  have hn : H s.heap.objs.size = none := e0.hok.fresh (Nat.le_refl _)
  refine hb u1 u2 hl1 _ _ _ _ _ (e0.mod.kin.keeps fun b o e => (e0.bs b o e).1) (wpAny_bind (wpAny_newTuple (wpAny_pure ?_) hl2))
  have new : ObjOk P w (upd H s.heap.objs.size (.tup rest)) (s.heap.push ({ cls := .type "tuple", data := .seq u2.toArray } : Obj)) s.heap.objs.size (.tup rest) := ⟨hz, u2, r2, _, Heap.get?_push_size _ rfl, rfl, _, rfl⟩
  have un := StX.un_laid (fs := frs outer) (s := s) (o := ({ cls := .type "tuple", data := .seq u2.toArray } : Obj)) (u := .tup rest) hn
  have z := h _ _ (ws ++ kvV ++ [V.ref s.heap.objs.size]) (u1 ++ kv ++ [Value.ref s.heap.objs.size]) (StX.env0_laid e0 new) un rfl (fun e s2 => hCX outer s H _ _ E e s2 un (fun b o q => Heap.get?_push_of_some _ q) rfl)
    ((r1.append hkv).append (.cons rfl .nil)) (by simp only [List.length_append, hl, hkv.length, hks, List.length_cons, List.length_nil]) ⟨_, hn, rfl, rfl⟩
  have q : (ps ++ ks).length = (u1 ++ kv).length := by rw [List.length_append, List.length_append, hl1, hks]
  rw [List.zip_append q] at z
  exact z
/-- the rule: a def with *pv that says super() -/
theorem fn_starS (lk : K.lookup f = some ⟨oc, od, .func (PySem.W.fnX name qual params body sc [(cls_, cc)] dV kV doc pm an cdv ct), osl⟩) (hcd : PySem.W.codeIn K cdv qual = true)
    (hcc : K.lookup cc = some ⟨kc, dc, .cell (some (.ref D)), lc⟩) (S : CScope N (ps ++ ks ++ [pv]) sc) (hCX : StX.CXUp CX) (hb : BindStar K (PySem.W.fnX name qual params body sc [(cls_, cc)] dV kV doc pm an cdv ct) ps ks kv pv) (hkv : Vals kvV kv) (hks : kv.length = ks.length)
    (hbody : ∀ (A : Around) (outer : List Env) (s : Shared) (H : Hp) (vs : List V) (Q : VK) (E : XK), Room k (A.deeper (envS qual sc s.heap.objs.size f cdv cc)) → sp vs H Q E →
      ∃ t, PX (cxS CX P w K mg base N qual sc f cdv cc A outer s H E) (.func body (envS qual sc s.heap.objs.size f cdv cc)) body t ∧ t { nx := fun _ H' => Q .non H', rt := Q } (L2.start N vs) H) :
    FnR P w K mg base CX (k + 1) f (fun vs H Q E => ∃ ws rest, vs = ws ++ rest ∧ ws.length = ps.length ∧ rest.length ≤ sizeLine ∧ ∀ p, H p = none → sp (ws ++ kvV ++ [V.ref p]) (upd H p (.tup rest)) Q E) := by
  intro A outer s H us vs Q E hr e0 r hsp
  obtain ⟨ws, rest, ev, hl, hz, hq⟩ := hsp
  subst ev
  refine run_bndS lk hcd hcc S hr e0 (bnd_star hCX hb hkv hks e0 r hl hz) fun s2 H2 xs ⟨p, hp, ex, eH⟩ hr2 => ?_
  subst ex eH
  exact hbody A outer s2 _ _ Q E hr2 (hq p hp)
/-- the same without super() -/
theorem fn_starP (lk : K.lookup f = some ⟨oc, od, .func (PySem.W.fnOf name qual params body sc dV kV doc pm an cdv ct), osl⟩) (hcd : PySem.W.codeIn K cdv qual = true)
    (S : FnScope N (ps ++ ks ++ [pv]) sc) (hCX : StX.CXUp CX) (hb : BindStar K (PySem.W.fnOf name qual params body sc dV kV doc pm an cdv ct) ps ks kv pv) (hkv : Vals kvV kv) (hks : kv.length = ks.length)
    (hbody : ∀ (A : Around) (outer : List Env) (s : Shared) (H : Hp) (vs : List V) (Q : VK) (E : XK), Room k (A.deeper (envOfC qual sc s.heap.objs.size f cdv)) → sp vs H Q E →
      ∃ t, PSs (cxOf CX P w K mg base N qual sc f cdv A outer s H E) body t ∧ t { nx := fun _ H' => Q .non H', rt := Q } (L2.start N vs) H) :
    FnR P w K mg base CX (k + 1) f (fun vs H Q E => ∃ ws rest, vs = ws ++ rest ∧ ws.length = ps.length ∧ rest.length ≤ sizeLine ∧ ∀ p, H p = none → sp (ws ++ kvV ++ [V.ref p]) (upd H p (.tup rest)) Q E) := by
  intro A outer s H us vs Q E hr e0 r hsp
  obtain ⟨ws, rest, ev, hl, hz, hq⟩ := hsp
  subst ev
  refine StX.run_bnd lk hcd S hr e0 (bnd_star hCX hb hkv hks e0 r hl hz) fun s2 H2 xs ⟨p, hp, ex, eH⟩ hr2 => ?_
  subst ex eH
  exact hbody A outer s2 _ _ Q E hr2 (hq p hp)
end
end WC

set_option maxHeartbeats 4000000
namespace WC
open PySem PySem.Spec PyProof.Rows L2
/-! calls: a def of the module by its name; a class by its name, or held by a local name; a function kept in a class -/
/-- the def that the module's name x holds keeps sp -/
structure DefR (P : Program) (w : World) (K : PySem.W.Frag) (mg : Str → Option Value) (base : Heap) (x : Str) (k : Nat) (sp : Sp) : Prop where
  ex : ∃ f, mg x = some (.ref f) ∧ PySem.W.keepIn K (.ref f) = true ∧ FnR P w K mg base (L2.CX P w) k f sp
/-- the class that stands at C is made by sp -/
structure ClsR (P : Program) (w : World) (K : PySem.W.Frag) (mg : Str → Option Value) (base : Heap) (C : Addr) (k : Nat) (sp : Sp) : Prop where
  ex : ∃ f, Mk K C f ∧ FnR P w K mg base (L2.CX P w) k f sp
def tCallR (sp : Sp) (E : XK) (t : TA) : TE := fun σ H Q => t σ H fun vs H1 => sp vs H1 Q E
def tMakeL (i : Nat) (C : Addr) (sp : Sp) (E : XK) (t : TA) : TE := fun σ H Q => σ[i]? = some (some (.ref C)) ∧ StX.tMakeR C sp E t σ H Q
section
variable {X : Cx} {j k i : Nat} {C : Addr} {sp : Sp} {E : XK} {x m : Str} {e o : Expr} {es : List Expr} {t : TA} {ta : TE} {p pos apos : Pos}
theorem pe_cd (D : DefR X.prog X.w X.K X.mg X.base x k sp) (hr : Room j X.A) (hx : Passes (L2.CX X.prog X.w) X E) (ha : PA X (e :: es) t) (hle : k ≤ j := by decide) (hg : Gl X x := by rfl) (hdb : (x == ("__debug__" : Str)) = false := by decide)
    (he : starEach (e :: es) X.env = (false, eval e X.env) :: starEach es X.env := by rfl) (hpl : (backTo pos (starEach es X.env)).any (·.1) = false := by rfl) : PE X (.Call (.Name x p) (e :: es) [] pos) (tCallR sp E t) := by
  obtain ⟨f, hm, hk, F⟩ := D.ex
  refine ⟨fun pins s σ H Q I h => wpAny_Call_Name_kw (ld_glob I hg hm ?_ hdb)⟩
  exact PySem.W.callWith_K (h₀ := X.base) I.ok.mod.kin hk (thn (ha.run pos pins s σ H _ I h) fun us s1 ⟨vs, H1, I1, r, q⟩ => ⟨I1.kIn, wpAny_call (run_fnR F (hr.mono hle) hx I1 r q)⟩) he hpl
theorem pe_cc (D : ClsR X.prog X.w X.K X.mg X.base C k sp) (hm : X.mg x = some (.ref C)) (hr : Room j X.A) (hx : Passes (L2.CX X.prog X.w) X E) (ha : PA X (e :: es) t) (hle : k + 1 ≤ j := by decide) (hg : Gl X x := by rfl) (hdb : (x == ("__debug__" : Str)) = false := by decide)
    (he : starEach (e :: es) X.env = (false, eval e X.env) :: starEach es X.env := by rfl) (hpl : (backTo pos (starEach es X.env)).any (·.1) = false := by rfl) : PE X (.Call (.Name x p) (e :: es) [] pos) (StX.tMakeR C sp E t) := by
  obtain ⟨f, M, F⟩ := D.ex
  exact StX.pe_makeR M F (hr.mono hle) hg hm hx ha hdb he hpl
/-- .. with *e among the arguments -/
theorem pe_ccs (D : ClsR X.prog X.w X.K X.mg X.base C k sp) (hm : X.mg x = some (.ref C)) (hr : Room j X.A) (hx : Passes (L2.CX X.prog X.w) X E) (ha : PA X (e :: es) t) (hle : k + 1 ≤ j := by decide) (hg : Gl X x := by rfl) (hdb : (x == ("__debug__" : Str)) = false := by decide)
    (he : starEach (e :: es) X.env = (false, eval e X.env) :: starEach es X.env := by rfl) (hst : (backTo pos (starEach es X.env)).any (·.1) = true := by rfl) : PE X (.Call (.Name x p) (e :: es) [] pos) (StX.tMakeR C sp E t) := by
  obtain ⟨f, M, F⟩ := D.ex
  refine ⟨fun pins s σ H Q I h => wpAny_Call_Name_kw (ld_glob I hg hm ?_ hdb)⟩
  exact PySem.W.callWith_S2 (h₀ := X.base) I.ok.mod.kin M.kp (thn (ha.run pos pins s σ H _ I h) fun us s1 ⟨vs, H1, I1, r, q⟩ => ⟨I1.kIn, StX.run_makeR M F (hr.mono hle) hx I1 r q⟩) he hst
/-- .. the class held by a local name -/
theorem pe_cls (D : ClsR X.prog X.w X.K X.mg X.base C k sp) (hN : X.N[i]? = some x) (hv : Vis X.env.scope x) (hr : Room j X.A) (hx : Passes (L2.CX X.prog X.w) X E) (ha : PA X (e :: es) t) (hle : k + 1 ≤ j := by decide) (hdb : (x == ("__debug__" : Str)) = false := by decide)
    (hcd : (x == ("__classdict__" : Str)) = false := by decide)
    (he : starEach (e :: es) X.env = (false, eval e X.env) :: starEach es X.env := by rfl) (hst : (backTo pos (starEach es X.env)).any (·.1) = true := by rfl) : PE X (.Call (.Name x p) (e :: es) [] pos) (tMakeL i C sp E t) := by
  obtain ⟨f, M, F⟩ := D.ex
  refine ⟨fun pins s σ H Q I h => ?_⟩
  obtain ⟨hs, ht⟩ := h
  refine wpAny_Call_Name_kw (thn ((pe_var (pos := p) hN hv hdb hcd).run pins s σ H (fun v H1 => v = .ref C ∧ H1 = H) I ⟨_, hs, rfl, rfl⟩) fun u s1 ⟨v, H1, I1, r1, ev, eH⟩ => ?_)
  subst ev eH
  cases r1
  exact PySem.W.callWith_S2 (h₀ := X.base) I.ok.mod.kin M.kp (thn (ha.run pos pins s1 σ _ _ I1 ht) fun us s2 ⟨vs, H2, I2, r, q⟩ => ⟨I2.kIn, StX.run_makeR M F (hr.mono hle) hx I2 r q⟩) he hst
/-- C.m is a staticmethod: its record at p, its def at g -/
structure SMet (K : PySem.W.Frag) (C : Addr) (mc : Value) (m : Str) (p g : Addr) : Prop where
  rd : PySem.W.readsIn K C mc = true
  ga : PySem.W.specialIn K (.ref C) "__getattribute__" = some (some (.builtin "type.__getattribute__"))
  at_ : PySem.W.findCls K (.ref C) mc m = some (.get (.builtin "staticmethod.__get__") (.ref p) .none (.ref C))
  rc : ∃ l, PySem.W.recIn K p "staticmethod" = some (.ref g :: l)
  kp : PySem.W.keepIn K (.ref g) = true
/-- the function that is kept as C.m keeps sp -/
structure StaR (P : Program) (w : World) (K : PySem.W.Frag) (mg : Str → Option Value) (base : Heap) (C : Addr) (m : Str) (k : Nat) (sp : Sp) : Prop where
  ex : ∃ mc p g, SMet K C mc m p g ∧ FnR P w K mg base (L2.CX P w) k g sp
def tSta (C : Addr) (sp : Sp) (E : XK) (ta : TE) (t : TA) : TE := fun σ H Q => ta σ H fun y H1 => y = .ref C ∧ t σ H1 fun vs H2 => sp vs H2 Q E
theorem pe_sta {pl : Sem Bool} (D : StaR X.prog X.w X.K X.mg X.base C m k sp) (ho : PE X o ta) (hr : Room j X.A) (hx : Passes (L2.CX X.prog X.w) X E) (ha : PA X (e :: es) t) (hle : k ≤ j := by decide)
    (hst : starEach (e :: es) X.env = (false, eval e X.env) :: starEach es X.env := by rfl) (hpl : (backTo pos (starEach es X.env)).any (·.1) = false := by rfl)
    (ht : eval (.Call (.Attribute o m apos) (e :: es) [] pos) X.env = (do
      let ov ← eval o X.env
      standAt apos.atName
      let (f, first) ← holding [ov] (getMethod ov m pl)
      callWith pos f first (backTo pos (starEach (e :: es) X.env)) (backToKw pos (keywordEach [] X.env))) := by rfl) : PE X (.Call (.Attribute o m apos) (e :: es) [] pos) (tSta C sp E ta t) := by
  obtain ⟨mc, p, g, S, F⟩ := D.ex
  obtain ⟨l, hl⟩ := S.rc
  refine ⟨fun pins s σ H Q I h => PySem.W.methodCall_KW (pl := pl) (thn (ho.run pins s σ H _ I h) fun u s1 ⟨y, H1, I1, ry, ey, q⟩ => ?_) ht⟩
  subst ey
  obtain rfl : u = Value.ref C := ry
  refine PySem.W.method_cls I1.kIn S.ga (PySem.W.cls_bind I1.kIn S.rd S.at_ (wpAny_call (PySem.W.sm_get (s := { s1 with toks := s1.toks + 1 }) I1.kIn hl (PySem.W.handed_on rfl ?_))))
  have I2 := I1.tok (s1.toks + 1)
  exact PySem.W.callWith_K (h₀ := X.base) I.ok.mod.kin S.kp (thn (ha.run pos pins _ σ H1 _ I2 q) fun us s2 ⟨vs, H2, I3, r, q2⟩ => ⟨I3.kIn, wpAny_call (run_fnR F (hr.mono hle) hx I3 r q2)⟩) hst hpl
end
/-- what leaves a def's body is what the def lets out -/
theorem psE {P : Program} {w : World} {K : PySem.W.Frag} {mg : Str → Option Value} {base : Heap} {N : List Str} {qual : Str} {sc : Scope} {f : Addr} {cd : Value} {A : Around} {outer : List Env} {s : Shared} {H : Hp} {E : XK} :
    Passes (L2.CX P w) (cxOf (L2.CX P w) P w K mg base N qual sc f cd A outer s H E) E := passes_call (takes_of rfl rfl rfl rfl) fun _ _ _ _ z => z
theorem psS {P : Program} {w : World} {K : PySem.W.Frag} {mg : Str → Option Value} {base : Heap} {N : List Str} {qual : Str} {sc : Scope} {f cc : Addr} {cd : Value} {A : Around} {outer : List Env} {s : Shared} {H : Hp} {E : XK} :
    Passes (L2.CX P w) (cxS (L2.CX P w) P w K mg base N qual sc f cd cc A outer s H E) E := passes_call (takes_of rfl rfl rfl rfl) fun _ _ _ _ z => z
end WC

set_option maxHeartbeats 4000000
namespace WC
open PySem PySem.Spec PyProof.Rows L2
/-! own exceptions with fields -/
/-- what __init__ keeps: the fields fl of its arguments -/
def spX (C : Addr) (n : Nat) (fl : List V → List (Str × V)) : Sp := fun vs H Q _ => ∃ (a : Addr) (ws : List V), vs = .ref a :: ws ∧ ws.length = n ∧ H a = some (exo a C none) ∧
  ∀ d, H d = none → d ≠ a → Q .non (upd (upd H d (exd d (fl ws))) a (exo a C (some d)))
structure ExcR (P : Program) (w : World) (K : PySem.W.Frag) (mg : Str → Option Value) (base : Heap) (x : Str) (C : Addr) (k n : Nat) (fl : List V → List (Str × V)) : Prop where
  txt : OexC K C
  gC : mg x = some (.ref C)
  ini : ∃ f fd ps, PySem.W.findIn K (.ref C) "__init__" = some (some (.ref f)) ∧ PySem.W.typeIn K (.ref f) = some (.type "function") ∧ Binds K fd ps [] ∧ FnOk P w K mg base (L2.CX P w) k f fd ps (spX C n fl)
section
variable {X : Cx} {x : Str} {C : Addr} {k j n : Nat} {fl : List V → List (Str × V)} {e : Expr} {es : List Expr} {ta : TA} {p pos : Pos}
theorem pmk_x (T : ExcR X.prog X.w X.K X.mg X.base x C k n fl) (hr : Room j X.A) (ha : PA X (e :: es) ta) (hle : k + 1 ≤ j := by decide) (hg : Gl X x := by rfl) (hdb : (x == ("__debug__" : Str)) = false := by decide)
    (he : starEach (e :: es) X.env = (false, eval e X.env) :: starEach es X.env := by rfl) (hpl : (backTo pos (starEach es X.env)).any (·.1) = false := by rfl) : PMk X (.Call (.Name x p) (e :: es) [] pos) (tMkO C (spX C n fl) [] ta) := by
  obtain ⟨f, fd, ps, i1, i2, i3, F⟩ := T.ini
  exact pmk_oex (dvs := []) (ds := []) T.txt i1 i2 F (hr.mono hle) i3 .nil passL hg T.gC ha hdb he hpl
end
theorem heap_x {H : Hp} {a d : Addr} {u v w : HO} (ha : H a = none) (hd : d ≠ a) : upd (del (upd (upd (upd H a u) d v) a w) a) d v = upd H d v := by
  funext b
  by_cases e : b = d
  · rw [e, upd_same, upd_same]
  · rw [upd_ne e, upd_ne e]
    by_cases e2 : b = a
    · rw [e2, del_same, ha]
    · rw [del_ne e2, upd_ne e2, upd_ne e, upd_ne e2]
/-- the making: its arguments are as many as the fields want; d is the error's own dict, new -/
theorem x_use {H1 : Hp} {C : Addr} {n : Nat} {fl : List V → List (Str × V)} {vs : List V} {Q : XK} (hl : vs.length = n) (hn : n ≤ 1000) (h : ∀ d, H1 d = none → Q (.ref C) (some d) (upd H1 d (.xd (fl vs)))) :
    vs.length ≤ 1000 ∧ ∀ a, H1 a = none → spX C n fl (.ref a :: (vs ++ [])) (upd H1 a (exo a C none)) (fun v H2 => v = .non ∧ ∃ (d : Addr) (fs : List (Str × V)), H2 a = some (exo a C (some d)) ∧ H2 d = some (exd d fs) ∧ H1 d = none ∧ Q (.ref C) (some d) (upd (del H2 a) d (.xd fs))) (fun _ _ _ => False) := by
  refine ⟨by omega, fun a ha => ⟨a, vs, by rw [List.append_nil], hl, upd_same, fun d hd hne => ⟨rfl, d, fl vs, upd_same, by rw [upd_ne hne, upd_same], ?_, ?_⟩⟩⟩
  · rw [upd_ne hne] at hd
    exact hd
  · rw [upd_ne hne] at hd
    have q : upd (del (upd (upd (upd H1 a (exo a C none)) d (exd d (fl vs))) a (exo a C (some d))) a) d (.xd (fl vs)) = upd H1 d (.xd (fl vs)) := by
      funext b
      by_cases e : b = d
      · rw [e, upd_same, upd_same]
      · rw [upd_ne e, upd_ne e]
        by_cases e2 : b = a
        · rw [e2, del_same, ha]
        · rw [del_ne e2, upd_ne e2, upd_ne e, upd_ne e2]
    rw [q]
    exact h d hd
end WC

set_option maxHeartbeats 4000000
namespace WC
open PySem PySem.Spec PyProof.Rows L2
/-! enumerate(t), t a tuple -/
set_option maxHeartbeats 1000000 in
theorem new_enum {v : Value} {o : Obj} {Hh : Heap → Prop} (B : Begins v o Hh) :
    Meets (Builtin.«enumerate.__new__» ⟨[.type "enumerate", v], []⟩) (fun _ R s => Hh s.heap ∧
      R (.ok (.ret (.ref (s.heap.push o).objs.size))) { s with heap := (s.heap.push o).push { cls := .type "enumerate", data := .fields #[.none, .bool false, .ref s.heap.objs.size, rawInt 0, .none, .none] } }) :=
  .of_wp fun prog w A R s h => by
    obtain ⟨hp, g, d, tk, os⟩ := s
    obtain ⟨h1, h⟩ := h
    have hsub := sub_enumerate
    have q1 : ∀ {A2 : Around} {E : Value → Shared → Prop} {Q : Value → Shared → Prop}, Q (.ref hp.objs.size) ⟨hp.push o, g, d, tk, os⟩ → wpAny (model prog w) A2 (pyIter v) Q E ⟨hp, g, d, tk, os⟩ := fun q => B.iter prog w _ _ ⟨hp, g, d, tk, os⟩ _ h1 q
    wp_walk using q1
    refine wpAny_stack_any fun st => wpAny_pure ?_
    split
    · rename_i c _ _ _ _ _
      cases (c == Value.type "enumerate") <;> (wp_walk using q1; exact ⟨_, rfl, h⟩)
    · wp_walk using q1
      exact ⟨_, rfl, h⟩
section
variable {prog : Program} {w : World} {A : Around} {E : Value → Shared → Prop} {s : Shared}
theorem enum1_begins {v : Value} {o : Obj} {Hh : Heap → Prop} {Q : Value → Shared → Prop} (B : Begins v o Hh) (h1 : Hh s.heap)
    (h : ∀ h2, IsEnum h2 (s.heap.objs.size + 1) s.heap.objs.size 0 .none → h2.get? s.heap.objs.size = some o → (∀ b u, s.heap.get? b = some u → h2.get? b = some u) → Q (.ref (s.heap.objs.size + 1)) { s with heap := h2 }) :
    wpAny (model prog w) A (call (.type "enumerate") [v]) Q E s := by
  refine callType_new F.called_enumerate (by decide) (F.typeCall_enumerate_1 _) (F.newCall_enumerate_1 _) (fun obj => F.args_object_init_2 obj _) F.entry_enumerate_new (new_enum B) ⟨h1, ?_⟩
  have hz : (s.heap.push o).objs.size = s.heap.objs.size + 1 := Heap.size_push ..
  show _ ∧ _
  rw [hz]
  have he : IsEnum ((s.heap.push o).push { cls := .type "enumerate", data := .fields #[.none, .bool false, .ref s.heap.objs.size, rawInt 0, .none, .none] }) (s.heap.objs.size + 1) s.heap.objs.size 0 .none := by
    have z := Heap.get?_push_size (s.heap.push o) (o := { cls := .type "enumerate", data := .fields #[.none, .bool false, .ref s.heap.objs.size, rawInt 0, .none, .none] }) rfl
    rw [hz] at z
    exact z
  exact ⟨⟨_, he, rfl⟩, h _ he (Heap.get?_push_of_some _ (Heap.get?_push_size _ B.free)) fun b u x => Heap.get?_push_of_some _ (Heap.get?_push_of_some _ x)⟩
end
def ItT (K : PySem.W.Frag) (a : Addr) : It :=
  { go := fun i H => ∃ (xs : List V) (x : V), SqT K H a xs ∧ xs[i]? = some x
    yld := fun i H v H2 => ∃ T x, v = .ref T ∧ H T = none ∧ H2 = upd H T (.tup [.int (i : Nat), x]) ∧ ∀ xs, SqT K H a xs → xs[i]? = some x
    stop := fun i H => ∃ xs : List V, SqT K H a xs ∧ xs.length ≤ i }
theorem turn_et {P : Program} {w : World} {K : PySem.W.Frag} {elts : List Expr} {kk : Nat} {tpos : Pos} (a e it : Addr) :
    Turn P w K (.Tuple elts kk tpos) (ItT K a) [e, it] e (fun i h => (∃ old, IsEnum h e it ((i : Nat) : Int) old) ∧ h.IsTupleIter it a i ∧ e ≠ it) where
  mem := by simp
  obj := fun i h st b hb => by
    obtain ⟨⟨old, he⟩, ⟨o, ho, hc, hd⟩, _⟩ := st
    have q : b = e ∨ b = it := by simpa using hb
    rcases q with z | z
    · refine ⟨_, z ▸ he, fun v q => ?_⟩
      have q : Data.fields _ = Data.cell v := q
      cases q
    · exact ⟨o, z ▸ ho, fun v q => by rw [hd] at q; cases q⟩
  keep := fun i h h2 st k => by
    obtain ⟨⟨old, he⟩, st2, st3⟩ := st
    exact ⟨⟨old, k e (by simp) _ he⟩, st2.at fun o q => k it (by simp) o q, st3⟩
  item := by
    intro X hP hw hK hc i pins s σ H E I hf st hg
    subst hP hw hK
    obtain ⟨⟨old, he⟩, hit, hne⟩ := st
    obtain ⟨xs, x, hq, hx⟩ := hg
    obtain ⟨its, rv, pt, hz⟩ := I.tuple hq
    have pt : s.heap.IsTuple a its.toArray := pt
    have hel : e < s.heap.objs.size := Heap.lt_size he
    have hil : it < s.heap.objs.size := by obtain ⟨_, q, _⟩ := hit; exact Heap.lt_size q
    have nai : a ≠ it := fun z => by
      obtain ⟨o1, q1, c1, _⟩ := pt
      obtain ⟨o2, q2, c2, _⟩ := hit
      rw [z, q2] at q1
      cases q1
      rw [c1] at c2
      injection c2 with c2
      exact absurd c2 (by decide)
    have nae : e ≠ a := fun z => by
      obtain ⟨o1, q1, c1, _⟩ := pt
      have he : s.heap.get? e = some _ := he
      rw [← z, he] at q1
      cases q1
      injection c1 with c1
      exact absurd c1 (by decide)
    have hlt : i < its.toArray.size := by
      have := (List.getElem?_eq_some_iff.mp hx).1
      rw [rv.length] at this
      simpa using this
    refine wpAny_pyNext_enum_itemD (Draws.tuple (A := X.A.in1) (I.ok.hd hc) it a nai its.toArray) he ⟨hit, pt⟩ hlt hne (by simp [nae, hne]) fun u h2 tk hu ho hst hT hsz hk => ?_
    have hu2 : its[i]? = some u := by simpa using hu
    obtain ⟨u2, hu3, ru⟩ := rv.get hx
    rw [hu2] at hu3
    cases hu3
    refine ⟨_, rfl, wpAny_letOwnedTupleGo_enum (s := { s with heap := h2, toks := tk + 1 }) ho fun h3 he3 sb => ?_⟩
    have hT2 : h3.get? s.heap.objs.size = some { cls := .type "tuple", data := .seq #[.int i tk, u] } := (sb.2 _ (Nat.ne_of_gt hel)).trans hT
    have new : ObjOk X.prog X.w (upd H s.heap.objs.size (.tup [.int (i : Nat), x])) h3 s.heap.objs.size (.tup [.int (i : Nat), x]) := ⟨by show 2 ≤ sizeLine; decide, [.int i tk, u], .cons ⟨_, rfl⟩ (.cons ru .nil), ⟨_, hT2, rfl, _, rfl⟩⟩
    have I1 : Inv X pins σ (upd H s.heap.objs.size (.tup [.int (i : Nat), x])) { s with heap := h3, toks := tk + 1 } :=
      I.turnedNew (ch := [e, it]) (fun b ob hb q => (sb.2 b (fun z => hb (by simp [z]))).trans (hk b ob (fun z => hb (by simp [z])) (fun z => hb (by simp [z])) q)) hf (Nat.le_refl _) new
    refine ⟨.ref s.heap.objs.size, _, I1, rfl, ⟨_, x, rfl, I.hok.fresh (Nat.le_refl _), rfl, fun ys hy => by rw [I.tuple_inj hy hq]; exact hx⟩, ⟨⟨u, ?_⟩, hst.1.at fun o q => (sb.2 it (Ne.symm hne)).trans q, hne⟩, fun b hb => ?_⟩
    · have e1 : ((i + 1 : Nat) : Int) = (i : Int) + 1 := by omega
      rw [e1]
      exact he3
    · have q : b = e ∨ b = it := by simpa using hb
      have hb2 : b < s.heap.objs.size := by rcases q with z | z <;> rw [z] <;> assumption
      rw [upd_ne (Nat.ne_of_lt hb2)]
      exact (hf b hb).1
  done := by
    intro X hP hw hK hc i pins s σ H E I hf st hg
    subst hP hw hK
    obtain ⟨⟨old, he⟩, hit, hne⟩ := st
    obtain ⟨xs, hq, hx⟩ := hg
    obtain ⟨its, rv, pt, hz⟩ := I.tuple hq
    have pt : s.heap.IsTuple a its.toArray := pt
    obtain ⟨f0, f1, f2, f3, f4, f5⟩ := hf it (by simp)
    have nai : a ≠ it := fun z => by
      obtain ⟨o1, q1, c1, _⟩ := pt
      obtain ⟨o2, q2, c2, _⟩ := hit
      rw [z, q2] at q1
      cases q1
      rw [c1] at c2
      injection c2 with c2
      exact absurd c2 (by decide)
    have hl := rv.length
    have D := Draws.tuple (prog := X.prog) (w := X.w) (A := X.A.in1) (I.ok.hd hc) it a nai its.toArray
    have hn : its.toArray.size ≤ i := by simp; omega
    unfold pyNext
    refine wpAny_bind (wpAny_attempt (wpAny_callSpecial?_slot (name := Str.ofString "__next__") ⟨_, he, rfl⟩ F.slot_enumerate_next (wpAny_call_entry F.slot_enumerate_next ⟨_, he, rfl⟩ F.entry_enumerate_next ?_ (F.args_enumerate_next_1 _))))
    show wpAny _ _ (field (.ref e) 2 >>= _) _ _ _
    refine wpAny_bind (wpAny_field he rfl (x := .ref it) rfl ?_)
    refine wpAny_bind (wpAny_nextOf_tuple_end (show X.A.in1.handled = none from I.ok.hd hc) hit pt (by simp; omega) fun h2 x q1 q2 => ?_)
    obtain ⟨o, ho, hcl⟩ := q2
    refine wpAny_bind (wpAny_isInstance (T := "StopIteration") (b := true) ⟨o, ho, hcl⟩ isSubtype_stop ?_)
    exact wpAny_pure ⟨rfl, I.turned (t' := s.toks) (fun b o hb q => q1 b o hb q) f0 f1 f3 f4 f5⟩
  self := fun A i s Q E st h => let ⟨⟨_, he⟩, _⟩ := st; wpAny_pyIter_enum he h
def iET (K : PySem.W.Frag) (ta : TA) : TI := fun σ H R => ta σ H fun vs H1 => ∃ a xs, vs = [.ref a] ∧ SqT K H1 a xs ∧ R (ItT K a) H1
theorem pi_et {X : Cx} {e : Expr} {ta : TA} {p pos tpos : Pos} {elts : List Expr} {kk : Nat} (hm : X.mg "enumerate" = none) (ha : PA X [e] ta) (hg : Gl X "enumerate" := by rfl) (hs : starEach [e] X.env = [(false, eval e X.env)] := by rfl) :
    PI X (.Tuple elts kk tpos) (.Call (.Name "enumerate" p) [e] [] pos) (iET X.K ta) := by
  refine ⟨fun pins s σ H R I h => Call_ (ld_blt I hg hm boot_enumerate (PyProof.Rows.callWith_type1 (thn (ha.run pos pins s σ H _ I h) fun us s1 ⟨vs, H1, I1, r1, a, xs, ex, hq, q⟩ => ?_) hs rfl))⟩
  subst ex
  cases r1 with
  | cons r rr =>
    cases rr
    cases r
    obtain ⟨its, rv, pt, hz⟩ := I1.tuple hq
    have pt : s1.heap.IsTuple a its.toArray := pt
    refine enum1_begins (begins_tuple a its.toArray) pt fun h2 he hit hk => wpAny_pyIter_enum he ?_
    have I2 : Inv X pins σ H1 { s1 with heap := h2 } := I1.kept (t' := s1.toks) hk
    refine ⟨s1.heap.objs.size + 1, [s1.heap.objs.size + 1, s1.heap.objs.size], _, _, H1, rfl, I2, turn_et a (s1.heap.objs.size + 1) s1.heap.objs.size, ⟨⟨.none, he⟩, ⟨_, hit, rfl, rfl⟩, Nat.succ_ne_self _⟩, fun b hb => ?_, q⟩
    have q : b = s1.heap.objs.size + 1 ∨ b = s1.heap.objs.size := by simpa using hb
    have hle : s1.heap.objs.size ≤ b := by rcases q with z | z <;> rw [z] <;> first | exact Nat.le_add_right _ _ | exact Nat.le_refl _
    exact I1.fpOk hle (I1.hok.fresh hle)
theorem walk_et {K : PySem.W.Frag} {a : Addr} {xs : List V} : Walk (ItT K a) xs.length (fun H => SqT K H a xs) (YPair (fun i => some (.int (i : Nat))) (fun i => xs[i]?)) := by
  refine ⟨fun i _ hi q => ⟨xs, xs[i], q, by simp [hi]⟩, fun _ q => ⟨xs, q, Nat.le_refl _⟩, fun i H v H2 _ q y => ?_⟩
  obtain ⟨T, x, h1, h2, h3, h4⟩ := y
  exact ⟨T, .int (i : Nat), x, h1, h2, h3, rfl, h4 xs q⟩
end WC

set_option maxHeartbeats 4000000
namespace WC
open PySem PySem.Spec PyProof.Rows L2
/-! data -/
theorem pr_at {α β : Type} {F : α → β → Prop} : ∀ {l : List α} {r : List β}, Paired F l r → ∀ {i : Nat} {b : β}, r[i]? = some b → ∃ a, l[i]? = some a ∧ F a b
  | _, _, .nil, i, b, h => by simp at h
  | _, _, .cons p q, 0, b, h => by
    have e := Option.some.inj h
    subst e
    exact ⟨_, rfl, p⟩
  | _, _, .cons p q, i + 1, b, h => pr_at (i := i) q (by simpa using h)
theorem pr_to {α β : Type} {F : α → β → Prop} : ∀ {l : List α} {r : List β}, Paired F l r → ∀ {i : Nat} {a : α}, l[i]? = some a → ∃ b, r[i]? = some b ∧ F a b
  | _, _, .nil, i, b, h => by simp at h
  | _, _, .cons p q, 0, b, h => by
    have e := Option.some.inj h
    subst e
    exact ⟨_, rfl, p⟩
  | _, _, .cons p q, i + 1, b, h => pr_to (i := i) q (by simpa using h)
theorem pr_snoc {α β : Type} {F : α → β → Prop} : ∀ {l : List α} {r : List β} {a : α} {b : β}, Paired F l r → F a b → Paired F (l ++ [a]) (r ++ [b])
  | _, _, _, _, .nil, h => .cons h .nil
  | _, _, _, _, .cons p q, h => .cons p (pr_snoc q h)
theorem take_snoc {α : Type} : ∀ {l : List α} {i : Nat} {x : α}, l[i]? = some x → l.take (i + 1) = l.take i ++ [x]
  | [], _, _, h => by simp at h
  | a :: l, 0, x, h => by
    have e := Option.some.inj h
    subst e
    rfl
  | a :: l, i + 1, x, h => by
    have q := take_snoc (l := l) (i := i) (x := x) (by simpa using h)
    show a :: l.take (i + 1) = a :: l.take i ++ [x]
    rw [q]
    rfl
/-- a channel, a tuple of three ints -/
abbrev Tri := Int × Int × Int
def TriA (H : Hp) (c : Tri) (v : V) : Prop := ∃ t, v = .ref t ∧ H t = some (.tup [.int c.1, .int c.2.1, .int c.2.2])
theorem TriA.same {H H2 : Hp} {c : Tri} {v : V} (s : Same H H2) (h : TriA H c v) : TriA H2 c v := let ⟨t, e, q⟩ := h; ⟨t, e, s _ _ q⟩
theorem tris_same {H H2 : Hp} {cs : List Tri} {vs : List V} (s : Same H H2) (h : Paired (TriA H) cs vs) : Paired (TriA H2) cs vs := Paired.mapP h fun _ _ z => z.same s
/-- the places where es has j, below m -/
def occ (es : List Int) (j : Int) (m : Nat) : List Int := ((List.range m).filter fun k => decide (es[k]? = some j)).map fun (k : Nat) => (k : Int)
theorem occ_zero (es : List Int) (j : Int) : occ es j 0 = [] := rfl
theorem occ_hit {es : List Int} {j : Int} {m : Nat} (h : es[m]? = some j) : occ es j (m + 1) = occ es j m ++ [(m : Int)] := by
  unfold occ
  rw [List.range_succ, List.filter_append, List.map_append]
  congr 1
  simp [h]
theorem occ_miss {es : List Int} {j e : Int} {m : Nat} (h : es[m]? = some e) (ne : e ≠ j) : occ es j (m + 1) = occ es j m := by
  unfold occ
  rw [List.range_succ, List.filter_append, List.map_append]
  simp [h, ne]
theorem occ_len (es : List Int) (j : Int) (m : Nat) : (occ es j m).length ≤ m := by
  unfold occ
  rw [List.length_map]
  exact Nat.le_trans (List.length_filter_le _ _) (by simp)
/-- at r: a tuple of n tuples, the j-th one the places of j in es -/
def RowsA (H : Hp) (r : Addr) (n : Nat) (es : List Int) : Prop := ∃ ts : List V, H r = some (.tup ts) ∧ ts.length = n ∧ ∀ (j : Nat) v, ts[j]? = some v → ∃ t, v = .ref t ∧ H t = some (.tup ((occ es (j : Int) es.length).map V.int))
theorem RowsA.same {H H2 : Hp} {r : Addr} {n : Nat} {es : List Int} (s : Same H H2) (h : RowsA H r n es) : RowsA H2 r n es := by
  obtain ⟨ts, h1, h2, h3⟩ := h
  exact ⟨ts, s _ _ h1, h2, fun j v e => let ⟨t, e1, e2⟩ := h3 j v e; ⟨t, e1, s _ _ e2⟩⟩
theorem _root_.L2.Same.new {H : Hp} {p : Addr} {o : HO} (h : H p = none) : Same H (upd H p o) := fun a u e => by
  rw [upd_ne (ne_of_none e h)]
  exact e
theorem _root_.L2.Same.newer {H H1 : Hp} {p : Addr} {o : HO} (s : Same H H1) (h : H p = none) : Same H (upd H1 p o) := fun a u e => by
  rw [upd_ne (ne_of_none e h)]
  exact s _ _ e
theorem line_of {n : Nat} (h : n ≤ 100000) : n ≤ sizeLine := Nat.le_trans h (by decide)
theorem line_lt {n : Nat} (h : n < 100000) : n < sizeLine := Nat.lt_of_lt_of_le h (by decide)
end WC
namespace WC
open PySem PySem.Spec PyProof.Rows L2
theorem bt_tuple : bootBuiltins "tuple" = some (.type "tuple") := by decide +kernel
theorem bt_list : bootBuiltins "list" = some (.type "list") := by decide +kernel
theorem bt_int : bootBuiltins "int" = some (.type "int") := by decide +kernel
theorem bt_str : bootBuiltins "str" = some (.type "str") := by decide +kernel
theorem bt_isi : bootBuiltins "isinstance" = some (.builtin "isinstance") := by decide +kernel
theorem bt_len : bootBuiltins "len" = some (.builtin "len") := by decide +kernel
theorem bt_sorted : bootBuiltins "sorted" = some (.builtin "sorted") := by decide +kernel
theorem bt_sum : bootBuiltins "sum" = some (.builtin "sum") := by decide +kernel
theorem bt_all : bootBuiltins "all" = some (.builtin "all") := by decide +kernel
theorem bt_max : bootBuiltins "max" = some (.builtin "max") := by decide +kernel
theorem bt_min : bootBuiltins "min" = some (.builtin "min") := by decide +kernel
/-- readings that name the written part (within a comprehension's block) -/
def rTupOf (K : PySem.W.Frag) : List V → Hp → VK → Prop := fun xs H Q => ∃ p ys, xs = [.ref p] ∧ ((SqL K H p ys ∧ ∀ l, H l = none → Q (.ref l) (upd H l (.tup ys))) ∨ (SqT K H p ys ∧ Q (.ref p) H))
theorem c_tup {X : Cx} {K : PySem.W.Frag} (h : X.K = K := by rfl) : CallR X (.type "tuple") (rTupOf K) := by
  subst h
  exact call_tuple_of
theorem i_tup {X : Cx} {K : PySem.W.Frag} (h : X.K = K := by rfl) : IxR X (rIxT K) := by
  subst h
  exact ix_tup
theorem i_lst {X : Cx} {K : PySem.W.Frag} (h : X.K = K := by rfl) : IxR X (rIxL K) := by
  subst h
  exact ix_list
end WC
namespace WC
open PySem PySem.Spec PyProof.Rows L2
theorem yes {σ : L2.St} {H : Hp} {A B : Bool → Hp → Prop} (h : A true H) : tYes σ H (fun b H3 => if b = true then A b H3 else B b H3) := by
  show (if true = true then A true H else B true H)
  rw [if_pos rfl]
  exact h
end WC
namespace WC
open PySem PySem.Spec PyProof.Rows L2
/-- [c[j] for c in t], t a tuple of channels -/
theorem comp_sel {K : PySem.W.Frag} {wi : TI} {H : Hp} {σ : L2.St} {tc : Addr} {cs : List Tri} {vs : List V} {s : Nat} {j : Int} {Q : VK} (g : Tri → Int) (hg : ∀ c : Tri, atI [V.int c.1, V.int c.2.1, V.int c.2.2] j = some (V.int (g c))) (hw : ∀ R : It → Hp → Prop, R (Itt K tc) H → wi σ H R)
    (h1 : H tc = some (.tup vs)) (hp : Paired (TriA H) cs vs) (hlen : cs.length ≤ 1000) (hs1 : ∀ v, wipe ((wipe σ [s]).set s (some v)) [s] = wipe σ [s]) (hs2 : ∀ v, ((wipe σ [s]).set s (some v))[s]? = some (some v))
    (k : ∀ D H2, Same H H2 → H D = none → H2 D = some (.lst ((cs.map g).map V.int)) → Q (.ref D) H2) : tLc wi (gName s) tYes (tOp (rIxT K) (tVar s) (tC (.int j))) [s] σ H Q := by
  refine hw _ fun D hD => lc_tup (K := K) (a := tc) (xs := vs) (fun i H2 => Same H H2 ∧ H2 D = some (.lst (((cs.take i).map g).map V.int))) ⟨Same.new hD, by rw [upd_same]; rfl⟩ (fun i H2 _ q => SqT.of (q.1 _ _ h1)) ?_ ?_
  · rintro i x H2 hx ⟨s2, hd⟩
    obtain ⟨c, hc, t, rfl, ht⟩ := pr_at hp hx
    have hi : i < cs.length := (List.getElem?_eq_some_iff.mp hc).1
    refine ⟨hs1 _, yes ⟨_, hs2 _, t, _, _, _, rfl, rfl, SqT.of (s2 _ _ ht), hg c, _, hd, ?_, Same.newer s2 hD, ?_⟩⟩
    · rw [List.length_map, List.length_map, List.length_take]
      exact line_lt (by omega)
    · rw [upd_same, take_snoc hc, List.map_append, List.map_append]
      rfl
  · rintro H2 ⟨s2, hd⟩
    rw [← hp.length, List.take_length] at hd
    exact k D H2 s2 hD hd
end WC

set_option maxHeartbeats 4000000
namespace WC
open PySem PySem.Spec PyProof.Rows L2
/-- {k: v for .. in a list that stays} -/
theorem dc_lst {K : PySem.W.Frag} {a : Addr} {xs : List V} {g : TG} {tt : TT} {tk tv : TE} {vs : List Nat} {σ : L2.St} {H1 : Hp} {D : Addr} {Qd : Hp → Prop} (Pv : Nat → Hp → Prop) (h0 : Pv 0 (upd H1 D (.dK []))) (hl : ∀ i H, i ≤ xs.length → Pv i H → SqL K H a xs)
    (hs : ∀ i x H, xs[i]? = some x → Pv i H → g x (wipe σ vs) H fun s2 H2 => wipe s2 vs = wipe σ vs ∧ tt s2 H2 fun b H3 =>
      if b = true then tk s2 H3 fun y H4 => tv s2 H4 fun z H5 => ∃ kvs k, y = kV k ∧ H5 D = some (.dK kvs) ∧ kvs.length < sizeLine ∧ Pv (i + 1) (upd H5 D (.dK (putK kvs k z))) else Pv (i + 1) H3) (hd : ∀ H, Pv xs.length H → Qd H) :
    ∃ W : Nat → Nat → Hp → Prop, (∃ m, W 0 m (upd H1 D (.dK []))) ∧ ∀ i m H, W i m H →
      ((Itl K a).stop i H ∧ Qd H) ∨ ((Itl K a).go i H ∧ ∃ Nx : Hp → Prop, (∀ H2, Nx H2 → ∃ m2, m2 < m ∧ W (i + 1) m2 H2) ∧ ∀ x H2, (Itl K a).yld i H x H2 → g x (wipe σ vs) H2 fun s2 H3 => wipe s2 vs = wipe σ vs ∧ tt s2 H3 fun b H4 =>
        if b = true then tk s2 H4 fun y H5 => tv s2 H5 fun z H6 => ∃ kvs k, y = kV k ∧ H6 D = some (.dK kvs) ∧ kvs.length < sizeLine ∧ Nx (upd H6 D (.dK (putK kvs k z))) else Nx H4) := by
  have w : Walk (Itl K a) xs.length (fun H => SqL K H a xs) (YAt xs) := walk_list
  refine ⟨fun i m H => m = xs.length - i ∧ i ≤ xs.length ∧ Pv i H, ⟨_, rfl, Nat.zero_le _, h0⟩, fun i m H ⟨em, hi, p⟩ => ?_⟩
  have q := hl i H hi p
  rcases Nat.lt_or_ge i xs.length with hlt | hge
  · refine .inr ⟨w.goes i H hlt q, Pv (i + 1), fun H2 p2 => ⟨xs.length - (i + 1), by omega, rfl, hlt, p2⟩, fun x H2 y => ?_⟩
    obtain ⟨e, y2⟩ := w.yields i H x H2 hlt q y
    subst e
    exact hs i x _ y2 p
  · have e : i = xs.length := by omega
    subst e
    exact .inl ⟨w.stops H q, hd H p⟩
/-- (a, b, ..) as a target within a comprehension's block -/
theorem pg_tupK {X : Cx} {K : PySem.W.Frag} {es : List Expr} {k n : Nat} {pos : Pos} {t : TGs} (hc : X.calm = true) (h : PGs X es t) (hK : X.K = K := by rfl) (hn : (assignEach es X.env).length = n := by rfl) (hst : (assignEach es X.env).findIdx? (·.1) = none := by rfl) :
    PG X (.Tuple es k pos) (gTup K n t) := by
  subst hK
  exact pg_tup hc h hn hst
theorem pk_len {κ : Type} [DecidableEq κ] (c : List (κ × V)) (k : κ) (x : V) : (putK c k x).length ≤ c.length + 1 := by
  unfold putK
  split
  · rw [List.length_map]
    omega
  · rw [List.length_append]
    exact Nat.le_refl _
/-- no circle: the stages can be ranked -/
def Acyc (cs : List Tri) : Prop := ∃ r : Int → Nat, ∀ c ∈ cs, r c.1 < r c.2.1
theorem least_of {α : Type} (f : α → Nat) : ∀ {l : List α}, l ≠ [] → ∃ a ∈ l, ∀ b ∈ l, f a ≤ f b
  | [a], _ => ⟨a, by simp, fun b hb => by simp at hb; rw [hb]; exact Nat.le_refl _⟩
  | a :: b :: l, _ => by
    obtain ⟨c, hc, h⟩ := least_of f (l := b :: l) (by simp)
    by_cases q : f a ≤ f c
    · refine ⟨a, by simp, fun d hd => ?_⟩
      rcases List.mem_cons.mp hd with e | hd
      · rw [e]; exact Nat.le_refl _
      · exact Nat.le_trans q (h d hd)
    · refine ⟨c, List.mem_cons_of_mem _ hc, fun d hd => ?_⟩
      rcases List.mem_cons.mp hd with e | hd
      · rw [e]; omega
      · exact h d hd
theorem Acyc.first {cs : List Tri} (h : Acyc cs) (ne : cs ≠ []) : ∃ c ∈ cs, ∀ d ∈ cs, d.2.1 ≠ c.1 := by
  obtain ⟨r, hr⟩ := h
  obtain ⟨c, hc, hm⟩ := least_of (fun c : Tri => r c.1) ne
  refine ⟨c, hc, fun d hd e => ?_⟩
  have h1 := hr d hd
  have h2 := hm d hd
  have h2 : r c.1 ≤ r d.1 := h2
  rw [e] at h1
  omega
theorem Acyc.sub {cs ds : List Tri} (h : Acyc cs) (s : ∀ c ∈ ds, c ∈ cs) : Acyc ds := let ⟨r, hr⟩ := h; ⟨r, fun c hc => hr c (s c hc)⟩
end WC

set_option maxHeartbeats 4000000
namespace WC
open PySem PySem.Spec PyProof.Rows L2
/-- a method that says super(), as the written part has it: its cell at cc holds the class at D -/
structure SFun (P : Program) (K : PySem.W.Frag) (x qual : Str) (st : Stmt) (f cc D : Addr) (kV : Value) : Prop where
  ex : ∃ (oc : Value) (od : Option Addr) (doc pm : Value) (an : Option Addr) (cda : Addr) (ct : Value) (osl : Array (Option Value)) (kc : Value) (dc : Option Addr) (lc : Array (Option Value)) (oc1 : Value) (oc2 : Option Addr) (vs : Array Value) (oc3 : Array (Option Value)) (file : Str) (tf : Tok),
    K.lookup f = some ⟨oc, od, .func (PySem.W.fnX x qual (defArgs st) (defBody st) (defScope st) [(cls_, cc)] .none kV doc pm an (.ref cda) ct), osl⟩ ∧ PySem.W.codeIn K (.ref cda) qual = true ∧ K.lookup cc = some ⟨kc, dc, .cell (some (.ref D)), lc⟩ ∧
    K.lookup cda = some ⟨oc1, oc2, .fields vs, oc3⟩ ∧ vs[2]? = some (.str file tf) ∧ ((P.main.file : Str) == file) = true
theorem look_cls {N ps : List Str} {sc : Scope} (S : CScope N ps sc) (n : Nat) (cc : Addr) : (cellsFrom n sc.names [] ++ [(cls_, cc)]).lookup cls_ = some cc := by
  rw [List.lookup_append]
  cases e : (cellsFrom n sc.names []).lookup cls_ with
  | some c =>
    have z := S.once _ (cf_mem _ _ _ _ (mem_of_lookup e)) rfl
    cases z
  | none => show List.lookup cls_ [(cls_, cc)] = some cc; simp [List.lookup]
section
variable {P : Program} {w : World} {K : PySem.W.Frag} {mg : Str → Option Value} {base : Heap} {k : Nat} {f cc D : Addr} {x qual : Str} {st : Stmt} {kV : Value} {N ps ks : List Str} {sp : Sp} {pv : Str} {kvV : List V} {kv : List Value}
/-- the rule for such a def with *pv and keywords ks that are left out -/
theorem SFun.star (F : SFun P K x qual st f cc D kV) (S : CScope N (ps ++ ks ++ [pv]) (defScope st)) (hkv : Vals kvV kv) (hks : kv.length = ks.length)
    (hb : ∀ (doc pm : Value) (an : Option Addr) (cdv ct : Value), BindStar K (PySem.W.fnX x qual (defArgs st) (defBody st) (defScope st) [(cls_, cc)] .none kV doc pm an cdv ct) ps ks kv pv)
    (hp : ∃ ar : Arg, ((defArgs st).posonlyargs ++ (defArgs st).args).head? = some ar ∧ ar.arg = ("self" : Str)) (h1 : (defScope st).names.lookup ("super" : Str) = some .globalImplicit) (h2 : (defScope st).names.lookup ("self" : Str) = some .local)
    (hbody : ∀ (cdv : Value) (A : Around) (outer : List Env) (s : Shared) (H : Hp) (vs : List V) (Q : VK) (E : XK), Room k (A.deeper (envS qual (defScope st) s.heap.objs.size f cdv cc)) → SelfTxt P K (envS qual (defScope st) s.heap.objs.size f cdv cc) D "self" → sp vs H Q E →
      ∃ t, PX (cxS (L2.CX P w) P w K mg base N qual (defScope st) f cdv cc A outer s H E) (.func (defBody st) (envS qual (defScope st) s.heap.objs.size f cdv cc)) (defBody st) t ∧ t { nx := fun _ H' => Q .non H', rt := Q } (L2.start N vs) H) :
    FnR P w K mg base (L2.CX P w) (k + 1) f (fun vs H Q E => ∃ ws rest, vs = ws ++ rest ∧ ws.length = ps.length ∧ rest.length ≤ sizeLine ∧ ∀ p, H p = none → sp (ws ++ kvV ++ [V.ref p]) (upd H p (.tup rest)) Q E) := by
  obtain ⟨oc, od, doc, pm, an, cda, ct, osl, kc, dc, lc, oc1, oc2, cvs, oc3, file, tf, lk, hcd, hcc, hca, hvs, hfile⟩ := F.ex
  obtain ⟨ar, har, hs⟩ := hp
  refine fn_starS lk hcd hcc S StX.cxUp (hb doc pm an (.ref cda) ct) hkv hks fun A outer s H vs Q E hr hsp => hbody (.ref cda) A outer s H vs Q E hr ?_ hsp
  exact ⟨h1, S.frc, h2, ⟨cc, kc, dc, lc, look_cls S _ _, hcc⟩, ⟨f, oc, od, _, osl, ar, rfl, lk, har, hs⟩, ⟨cda, oc1, oc2, cvs, oc3, file, tf, rfl, hca, hvs, hfile⟩⟩
end
end WC

set_option maxHeartbeats 4000000
namespace WC
open PySem PySem.Spec PyProof.Rows L2
theorem sorted_one {α : Type} {f : α → Int} : ∀ {l r : List α}, l.Perm r → l.Pairwise (fun a b => f a ≤ f b) → r.Pairwise (fun a b => f a < f b) → l = r
  | [], r, p, _, _ => (List.nil_perm.mp p).symm
  | a :: l, [], p, _, _ => absurd (p.length_eq) (by simp)
  | a :: l, b :: r, p, h1, h2 => by
    have e : a = b := by
      rcases List.mem_cons.mp (p.mem_iff.mp (List.mem_cons_self (a := a))) with e | m
      · exact e
      · have q1 := (List.pairwise_cons.mp h2).1 a m
        rcases List.mem_cons.mp (p.mem_iff.mpr (List.mem_cons_self (a := b))) with e | m2
        · exact e.symm
        · have q2 := (List.pairwise_cons.mp h1).1 b m2
          omega
    subst e
    rw [sorted_one ((List.perm_cons a).mp p) (List.pairwise_cons.mp h1).2 (List.pairwise_cons.mp h2).2]
def rowOf (ns : List Int) : List Tri := ns.mapIdx fun k c => ((k : Int), (k : Int) + 1, c)
def ringOf (ns : List Int) : List Tri := ns.mapIdx fun k c => ((k : Int), ((k : Int) + 1) % (ns.length : Int), c)
theorem rowOf_at {ns : List Int} {i : Nat} {c : Int} (h : ns[i]? = some c) : (rowOf ns)[i]? = some ((i : Int), (i : Int) + 1, c) := by
  unfold rowOf
  rw [List.getElem?_mapIdx, h]
  rfl
theorem ringOf_at {ns : List Int} {i : Nat} {c : Int} (h : ns[i]? = some c) : (ringOf ns)[i]? = some ((i : Int), ((i : Int) + 1) % (ns.length : Int), c) := by
  unfold ringOf
  rw [List.getElem?_mapIdx, h]
  rfl
theorem rowOf_len (ns : List Int) : (rowOf ns).length = ns.length := List.length_mapIdx
theorem ringOf_len (ns : List Int) : (ringOf ns).length = ns.length := List.length_mapIdx
theorem rowOf_mem {ns : List Int} {t : Tri} (h : t ∈ rowOf ns) : ∃ (i : Nat) (c : Int), ns[i]? = some c ∧ t = ((i : Int), (i : Int) + 1, c) := by
  obtain ⟨i, hi⟩ := List.mem_iff_getElem?.mp h
  have hl := (List.getElem?_eq_some_iff.mp hi).1
  rw [rowOf_len] at hl
  have q : ns[i]? = some ns[i] := by simp [hl]
  rw [rowOf_at q] at hi
  exact ⟨i, _, q, (Option.some.inj hi).symm⟩
theorem ringOf_mem {ns : List Int} {t : Tri} (h : t ∈ ringOf ns) : ∃ (i : Nat) (c : Int), ns[i]? = some c ∧ t = ((i : Int), ((i : Int) + 1) % (ns.length : Int), c) := by
  obtain ⟨i, hi⟩ := List.mem_iff_getElem?.mp h
  have hl := (List.getElem?_eq_some_iff.mp hi).1
  rw [ringOf_len] at hl
  have q : ns[i]? = some ns[i] := by simp [hl]
  rw [ringOf_at q] at hi
  exact ⟨i, _, q, (Option.some.inj hi).symm⟩
/-- channels by rising producers -/
def Inc (cs : List Tri) : Prop := cs.Pairwise fun a b => a.1 < b.1
theorem rowOf_inc (ns : List Int) : Inc (rowOf ns) := by
  unfold Inc
  rw [List.pairwise_iff_getElem]
  intro i j hi hj hij
  simp only [rowOf, List.getElem_mapIdx]
  omega
theorem ringOf_inc (ns : List Int) : Inc (ringOf ns) := by
  unfold Inc
  rw [List.pairwise_iff_getElem]
  intro i j hi hj hij
  simp only [ringOf, List.getElem_mapIdx]
  omega
theorem nodup_of_inc {α : Type} {cs : List α} {f : α → Int} {g : α → Int × Int} (hg : ∀ a, (g a).1 = f a) (h : cs.Pairwise fun a b => f a < f b) : (cs.map g).Nodup := by
  rw [List.Nodup, List.pairwise_map]
  refine h.imp fun {a b} z e => ?_
  have q := congrArg Prod.fst e
  rw [hg, hg] at q
  omega
end WC

set_option maxHeartbeats 4000000
namespace WC
open PySem PySem.Spec PyProof.Rows L2
abbrev Lk := Int × Int
def PairA (H : Hp) (c : Lk) (v : V) : Prop := ∃ t, v = .ref t ∧ H t = some (.tup [.int c.1, .int c.2])
theorem pairs_same {H H2 : Hp} {cs : List Lk} {vs : List V} (s : Same H H2) (h : Paired (PairA H) cs vs) : Paired (PairA H2) cs vs := Paired.mapP h fun _ _ ⟨t, e, q⟩ => ⟨t, e, s _ _ q⟩
/-- b is a or lies behind links from a -/
inductive Reach (ls : List Lk) (a : Int) : Int → Prop
  | refl : Reach ls a a
  | step {y z : Int} : Reach ls a y → (y, z) ∈ ls → Reach ls a z
theorem nodup_le : ∀ (n : Nat) (l : List Int), l.Nodup → (∀ x ∈ l, 0 ≤ x ∧ x < n) → l.length ≤ n
  | 0, l, _, h => by
    cases l with
    | nil => exact Nat.le_refl _
    | cons a l =>
      have := h a List.mem_cons_self
      omega
  | n + 1, l, nd, h => by
    by_cases m : (n : Int) ∈ l
    · have q := nodup_le n (l.erase (n : Int)) (nd.erase _) fun x hx => by
        obtain ⟨h1, h2⟩ := (nd.mem_erase_iff).mp hx
        have := h x h2
        omega
      rw [List.length_erase_of_mem m] at q
      omega
    · have q := nodup_le n l nd fun x hx => by
        have := h x hx
        have : x ≠ n := fun e => m (e ▸ hx)
        omega
      omega
/-- the search: found so far, still waiting -/
structure Srch (ls : List Lk) (a : Int) (n : Nat) (F W : List Int) : Prop where
  nd : F.Nodup
  rng : ∀ x ∈ F, 0 ≤ x ∧ x < n
  fst : a ∈ F
  sub : ∀ x ∈ W, x ∈ F
  rch : ∀ x ∈ F, Reach ls a x
  clo : ∀ x ∈ F, x ∈ W ∨ ∀ z, (x, z) ∈ ls → z ∈ F
  wl : W.length ≤ F.length
theorem Srch.all {ls : List Lk} {a : Int} {n : Nat} {F : List Int} (h : Srch ls a n F []) : ∀ x, x ∈ F ↔ Reach ls a x := fun x => by
  constructor
  · exact h.rch x
  · intro r
    induction r with
    | refl => exact h.fst
    | step r m ih =>
      rcases h.clo _ ih with q | q
      · cases q
      · exact q _ m
/-- while the links of y are gone through: those of the first m links are seen -/
structure Mid (ls : List Lk) (a : Int) (n : Nat) (y : Int) (m : Nat) (F W : List Int) : Prop where
  nd : F.Nodup
  rng : ∀ x ∈ F, 0 ≤ x ∧ x < n
  fst : a ∈ F
  sub : ∀ x ∈ W, x ∈ F
  rch : ∀ x ∈ F, Reach ls a x
  yF : y ∈ F
  clo : ∀ x ∈ F, x ∈ W ∨ x = y ∨ ∀ z, (x, z) ∈ ls → z ∈ F
  sn : ∀ z, (y, z) ∈ ls.take m → z ∈ F
  wl : W.length ≤ F.length
theorem Srch.mid {ls : List Lk} {a : Int} {n : Nat} {F W : List Int} {y : Int} (h : Srch ls a n F (W ++ [y])) : Mid ls a n y 0 F W :=
  ⟨h.nd, h.rng, h.fst, fun x hx => h.sub x (List.mem_append_left _ hx), h.rch, h.sub y (by simp), fun x hx => by
    rcases h.clo x hx with q | q
    · rcases List.mem_append.mp q with q | q
      · exact .inl q
      · exact .inr (.inl (List.mem_singleton.mp q))
    · exact .inr (.inr q), fun z hz => by simp at hz, by have q := h.wl; rw [List.length_append] at q; omega⟩
theorem Mid.srch {ls : List Lk} {a : Int} {n : Nat} {F W : List Int} {y : Int} (h : Mid ls a n y ls.length F W) : Srch ls a n F W :=
  ⟨h.nd, h.rng, h.fst, h.sub, h.rch, fun x hx => by
    rcases h.clo x hx with q | q | q
    · exact .inl q
    · exact .inr fun z hz => h.sn z (by rw [List.take_length, ← q]; exact hz)
    · exact .inr q, h.wl⟩
theorem Mid.skip {ls : List Lk} {a : Int} {n : Nat} {F W : List Int} {y : Int} {m : Nat} {c : Lk} (h : Mid ls a n y m F W) (hc : ls[m]? = some c) (hz : c.1 = y → c.2 ∈ F) : Mid ls a n y (m + 1) F W :=
  ⟨h.nd, h.rng, h.fst, h.sub, h.rch, h.yF, h.clo, fun z hm => by
    rw [take_snoc hc] at hm
    rcases List.mem_append.mp hm with q | q
    · exact h.sn z q
    · have e := List.mem_singleton.mp q
      have e1 : c.1 = y := by rw [← e]
      have e2 : c.2 = z := by rw [← e]
      rw [← e2]
      exact hz e1, h.wl⟩
theorem Mid.add {ls : List Lk} {a : Int} {n : Nat} {F W : List Int} {y : Int} {m : Nat} {c : Lk} (h : Mid ls a n y m F W) (hc : ls[m]? = some c) (h1 : c.1 = y) (h2 : c.2 ∉ F) (h3 : 0 ≤ c.2 ∧ c.2 < n) : Mid ls a n y (m + 1) (F ++ [c.2]) (W ++ [c.2]) := by
  have hm : (y, c.2) ∈ ls := by
    have q := List.mem_of_getElem? hc
    rw [← h1]
    exact q
  refine ⟨?_, fun x hx => ?_, List.mem_append_left _ h.fst, fun x hx => ?_, fun x hx => ?_, List.mem_append_left _ h.yF, fun x hx => ?_, fun z hz => ?_, by have q := h.wl; rw [List.length_append, List.length_append]; simp only [List.length_cons, List.length_nil]; omega⟩
  · rw [List.nodup_append]
    exact ⟨h.nd, by simp, fun p hp q hq e => h2 (by rw [← List.mem_singleton.mp hq, ← e]; exact hp)⟩
  · rcases List.mem_append.mp hx with q | q
    · exact h.rng x q
    · rw [List.mem_singleton.mp q]; exact h3
  · rcases List.mem_append.mp hx with q | q
    · exact List.mem_append_left _ (h.sub x q)
    · exact List.mem_append_right _ q
  · rcases List.mem_append.mp hx with q | q
    · exact h.rch x q
    · rw [List.mem_singleton.mp q]; exact .step (h.rch y h.yF) hm
  · rcases List.mem_append.mp hx with q | q
    · rcases h.clo x q with r | r | r
      · exact .inl (List.mem_append_left _ r)
      · exact .inr (.inl r)
      · exact .inr (.inr fun z hz => List.mem_append_left _ (r z hz))
    · exact .inl (List.mem_append_right _ q)
  · rw [take_snoc hc] at hz
    rcases List.mem_append.mp hz with q | q
    · exact List.mem_append_left _ (h.sn z q)
    · have e := List.mem_singleton.mp q
      have e2 : c.2 = z := by rw [← e]
      rw [e2]
      exact List.mem_append_right _ (by simp)
end WC

set_option maxHeartbeats 4000000
namespace WC
open PySem PySem.Spec PyProof.Rows L2
/-- a value that has no address -/
def plainV : V → Bool
  | .int _ => true
  | .bl _ => true
  | .non => true
  | .str _ => true
  | _ => false
/-- x is True, x is False, x a plain value -/
theorem op_isB {X : Cx} : OpR X (compareOp .Is) (fun x y H Q => ∃ k : Bool, y = .bl k ∧ plainV x = true ∧ Q (.bl (decide (x = .bl k))) H) := by
  intro pins s σ H x y v u Q I rx ry h
  obtain ⟨k, rfl, hp, q⟩ := h
  obtain rfl : u = Value.bool k := ry
  have fin : ∀ b, decide (x = V.bl k) = b → EP X pins σ Q (.bool b) s := fun b e => ⟨.bl b, H, I, rfl, by rw [← e]; exact q⟩
  cases x with
  | int i =>
    obtain ⟨t, rfl⟩ := rx
    exact wpAny_pure (fin false (by simp))
  | bl b =>
    obtain rfl : v = Value.bool b := rx
    by_cases e : b = k
    · subst e
      exact wpAny_is_self rfl (fin true (by simp))
    · exact wpAny_is_other rfl (fun z => e (Value.bool.inj z)) (fin false (by simp [e]))
  | non =>
    obtain rfl : v = Value.none := rx
    exact wpAny_pure (fin false (by simp))
  | str z =>
    obtain ⟨t, rfl⟩ := rx
    exact wpAny_pure (fin false (by simp))
  | ref a => cases hp
  | byt b => cases hp
  | flt b => cases hp
  | ty n => cases hp
/-- all but what stands at b is as it was -/
def SameB (b : Addr) (H H2 : Hp) : Prop := ∀ c o, H c = some o → c ≠ b → H2 c = some o
theorem SameB.refl (b : Addr) (H : Hp) : SameB b H H := fun _ _ e _ => e
theorem SameB.trans {b : Addr} {H H1 H2 : Hp} (s : SameB b H H1) (t : SameB b H1 H2) : SameB b H H2 := fun c o e n => t c o (s c o e n) n
theorem SameB.of {b : Addr} {H H1 : Hp} (s : Same H H1) : SameB b H H1 := fun c o e _ => s c o e
theorem SameB.upd {b : Addr} {H H1 : Hp} {o : HO} (s : SameB b H H1) : SameB b H (upd H1 b o) := fun c u e n => by
  rw [upd_ne n]
  exact s c u e n
theorem SameB.put {b p : Addr} {H H1 : Hp} {o : HO} (s : SameB b H H1) (hp : H p = none) : SameB b H (L2.upd H1 p o) := fun c u e n => by
  rw [upd_ne (ne_of_none e hp)]
  exact s c u e n
/-- the bag of draws -/
def BagAt (H : Hp) (b : Addr) : Prop := ∃ x f : Int, H b = some (.lst [.int x, .int f])
theorem BagAt.same {H H2 : Hp} {b : Addr} (h : BagAt H b) (s : Same H H2) : BagAt H2 b := let ⟨x, f, e⟩ := h; ⟨x, f, s _ _ e⟩
theorem SameB.free {b p : Addr} {H H2 : Hp} (s : SameB b H H2) (hb : BagAt H2 b) (hp : H2 p = none) : H p = none := by
  cases e : H p with
  | none => rfl
  | some o =>
    by_cases n : p = b
    · obtain ⟨x, f, q⟩ := hb
      rw [n, q] at hp
      cases hp
    · rw [s p o e n] at hp
      cases hp
end WC

set_option maxHeartbeats 4000000
namespace WC
open PySem PySem.Spec PyProof.Rows L2
/-! a def that lets nothing out, called wherever: also while an exception is handled -/
def cxQ (CX : CXT) (P : Program) (w : World) (K : PySem.W.Frag) (mg : Str → Option Value) (base : Heap) (N : List Str) (qual : Str) (sc : Scope) (f : Addr) (cd : Value) (A : Around) (outer : List Env) (s : Shared) (H : Hp) : Cx :=
  { cxOf CX P w K mg base N qual sc f cd A outer s H E0 with calm := false, xe := fun _ _ => False }
structure FnQ (P : Program) (w : World) (K : PySem.W.Frag) (mg : Str → Option Value) (base : Heap) (k : Nat) (f : Addr) (fd : FuncData) (ps : List Str) (sp : Sp) : Prop where
  len : ∀ vs H Q E, sp vs H Q E → vs.length = ps.length
  run : ∀ (A : Around) (outer : List Env) (s : Shared) (H : Hp) (args : Args) (us : List Value) (vs : List V) (Q : VK), L2H.RoomH k A → Env0 P w K mg base A outer s H → BindsTo s fd args (ps.zip us) → Vals vs us → sp vs H Q E0 →
    codeAny (model P w) A (.call (.ref f) args) (fun r s' => match r with | .ok (.ret u) => CE outer P w H s Q u s' | _ => False) s
theorem inv_startQ {CX : CXT} {P : Program} {w : World} {K : PySem.W.Frag} {mg : Str → Option Value} {base : Heap} {N ps : List Str} {qual : Str} {scope : Scope} {f : Addr} {cd : Value} {A : Around} {outer : List Env} {s s1 : Shared} {H : Hp} {us : List Value} {vs : List V}
    (S : FnScope N ps scope) (e0 : Env0 P w K mg base A outer s H) (hl : vs.length = ps.length) (r : Vals vs us)
    (x : InCallC s s.heap.objs.size (bindL (envOfC qual scope s.heap.objs.size f cd).kindOf (ps.zip us) fun _ => none) (cellsFrom (s.heap.objs.size + 1) scope.names []) (bindC (envOfC qual scope s.heap.objs.size f cd).kindOf (ps.zip us) fun _ => none) s1) :
    Inv (cxQ CX P w K mg base N qual scope f cd A outer s H) [] (L2.start N vs) H s1 := by
  have hpl : ps.length ≤ N.length := by have := congrArg List.length S.pre; rw [List.length_take] at this; omega
  obtain ⟨h1, tk, rfl, hk⟩ := x.done
  have noA : ∀ b : Addr, b ∉ (cxQ CX P w K mg base N qual scope f cd A outer s H).ex := fun b z => absurd (show b ∈ ([] : List Addr) from z) (by simp)
  refine ⟨⟨e0.mod, S.kind, rfl, rfl, Nat.le_refl _, fun y z c h1 h2 => ?_, fun y hy => ?_, fun y c _ h => ?_, (fun z => Bool.noConfusion (show false = true from z)), Around.frames_deeper e0.frames, .inr ⟨rfl, rfl⟩, fun b z => absurd z (noA b), e0.bs, e0.bsz, fun b _ _ => noA b, fun b z => absurd z (noA b), e0.funs, e0.frf⟩,
    rfl, e0.bare, Un.kept hk, ⟨_, x.toInCall.ns, fun i y v h1 h2 h3 => ?_⟩, fun y c h => ⟨_, x.cell y c h⟩, e0.hok.fresh (Nat.le_refl _), fun y c h => ?_, fun q hq => ?_, e0.hok.kept hk, ?_⟩
  · exact name_of_addr x.apart (PySem.mem_of_lookup h1) (PySem.mem_of_lookup h2)
  · have hy : scope.names.lookup y = some .cell ∨ scope.names.lookup y = some .free := hy
    rcases hy with hy | hy
    · exact cell_has hy
    · exact absurd rfl (S.nofree _ (PySem.mem_of_lookup hy))
  · exact Nat.le_of_lt (x.above y c (PySem.mem_of_lookup h))
  · have hi : i < vs.length := by
      unfold L2.start at h2
      by_cases hi : i < vs.length
      · exact hi
      · rw [List.getElem?_append_right (by simpa using hi)] at h2
        rw [List.getElem?_replicate] at h2
        split at h2 <;> cases h2
    have ha : vs[i]? = some v := by
      unfold L2.start at h2
      rw [List.getElem?_append_left (by simpa using hi), List.getElem?_map] at h2
      cases e : vs[i]? with
      | none => rw [e] at h2; cases h2
      | some a => rw [e] at h2; cases h2; rfl
    obtain ⟨u, hu, rv⟩ := r.get ha
    have hp : ps[i]? = some y := by
      rw [← S.pre, List.getElem?_take_of_lt (by omega)]; exact h1
    have ndP : ps.Nodup := by rw [← S.pre]; exact S.nd.sublist (List.take_sublist _ _)
    refine ⟨u, rv, ?_⟩
    rcases S.par y (List.mem_of_getElem? hp) with k | k
    · exact .inl ⟨k, bindL_get ndP hp hu k⟩
    · obtain ⟨c, e⟩ := cell_has (n := s.heap.objs.size + 1) k
      refine .inr ⟨.inl k, c, e, ?_⟩
      have q := x.cell y c e
      rw [bindC_get ndP hp hu (by show scope.names.lookup y ≠ _; rw [k]; decide)] at q
      exact q
  · exact e0.hok.fresh (Nat.le_of_lt (x.above y c (PySem.mem_of_lookup h)))
  · exact absurd (show q ∈ ([] : List (Addr × Obj)) from hq) (by simp)
  · unfold L2.start
    show _ = N.length
    rw [List.length_append, List.length_map, List.length_replicate]
    omega
theorem fn_ofQ {CX : CXT} {P : Program} {w : World} {K : PySem.W.Frag} {mg : Str → Option Value} {base : Heap} {k : Nat} {f : Addr} {name qual : Str} {params : Arguments} {body : List Stmt} {scope : Scope} {dV kV doc pm cdv ct oc : Value} {an od : Option Addr}
    {osl : Array (Option Value)} {N ps : List Str} {sp : Sp} (lk : K.lookup f = some ⟨oc, od, .func (PySem.W.fnOf name qual params body scope dV kV doc pm an cdv ct), osl⟩) (hcd : PySem.W.codeIn K cdv qual = true) (S : FnScope N ps scope)
    (len : ∀ vs H Q E, sp vs H Q E → vs.length = ps.length)
    (hbody : ∀ (A : Around) (outer : List Env) (s : Shared) (H : Hp) (vs : List V) (Q : VK), L2H.RoomH k (A.deeper (envOfC qual scope s.heap.objs.size f cdv)) → sp vs H Q E0 →
      ∃ t, PSs (cxQ CX P w K mg base N qual scope f cdv A outer s H) body t ∧ t { nx := fun _ H' => Q .non H', rt := Q } (L2.start N vs) H) :
    FnQ P w K mg base (k + 1) f (PySem.W.fnOf name qual params body scope dV kV doc pm an cdv ct) ps sp := by
  refine ⟨len, fun A outer s H args us vs Q hr e0 hb r hsp => ?_⟩
  have hl := len _ _ _ _ hsp
  have KX : K.In s.heap := e0.mod.kin.keeps fun b o e => (e0.bs b o e).1
  have lim : s.heap.NoLimit := e0.mod.nolimit.keeps fun b o e => (e0.bs b o e).1
  have hkind : ∀ y ∈ ps.zip us, scope.names.lookup y.1 = some .local ∨ (scope.names.lookup y.1 = some .cell ∧ ((cellsFrom (s.heap.objs.size + 1) scope.names []).lookup y.1).isSome = true) := fun ⟨n, v⟩ hy => by
    rcases S.par n (List.of_mem_zip hy).1 with q | q
    · exact .inl q
    · exact .inr ⟨q, PySem.W.cellsFrom_some _ _ _ (.inl q)⟩
  refine codeAny_call_function hr.depth (KX _ _ lk) rfl S.co S.gen rfl (PySem.W.codeRec_of KX hcd) (hb _ _ _ _ ?_)
  refine wpAny_newFunctionEnv_cells S.kind hkind fun env he s1 x => ?_
  subst he
  refine ⟨lim.keeps x.toInCall.keep, codeAny_func ?_⟩
  obtain ⟨t, ht, hq⟩ := hbody A outer s H vs Q (hr.deeper _) hsp
  have I : Inv (cxQ CX P w K mg base N qual scope f cdv A outer s H) [] (L2.start N vs) H s1 := inv_startQ S e0 hl r x
  refine wpAny_mono (ht.run [] s1 (L2.start N vs) H _ I hq) (fun fl s' hs => ?_) fun e s' hs => False.elim hs
  have fin : ∀ {σ' : L2.St} {H' : Hp} {v : V} {u : Value}, Inv (cxQ CX P w K mg base N qual scope f cdv A outer s H) [] σ' H' s' → RelV v u → Q v H' → CE outer P w H s Q u s' :=
    fun {σ' H' v u} J rv q => ⟨v, H', J.os, J.bare, J.base, J.hok, rv, q⟩
  cases fl with
  | ret u =>
    obtain ⟨v, σ', H', J, rv, q⟩ := hs
    exact fin J rv q
  | next =>
    obtain ⟨σ', H', J, q⟩ := hs
    exact fin (v := V.non) (u := Value.none) J rfl q
  | brk =>
    obtain ⟨_, _, _, q⟩ := hs
    exact False.elim q
  | cont =>
    obtain ⟨_, _, _, q⟩ := hs
    exact False.elim q
section
variable {X : Cx} {CX : CXT} {k : Nat} {f C : Addr} {fd : FuncData} {ps : List Str} {sp : Sp} {x m : Str} {q pos apos : Pos} {e o : Expr} {es : List Expr} {ta : TE} {t : TA}
theorem run_fnQ {pins : List (Addr × Obj)} {σ : L2.St} {H : Hp} {s : Shared} {Q : VK} {us : List Value} {vs : List V} (F : FnQ X.prog X.w X.K X.mg X.base k f fd ps sp) (hr : L2H.RoomH k X.A) (hb : Binds X.K fd ps [])
    (I : Inv X pins σ H s) (r : Vals vs us) (h : sp vs H Q E0) : wpAny (model X.prog X.w) X.A (call (.ref f) us) (EP X pins σ Q) X.xe s := by
  have hl : us.length = ps.length := by rw [← r.length]; exact F.len _ _ _ _ h
  have b := hb s us I.kIn (by rw [List.append_nil]; exact hl)
  rw [List.append_nil] at b
  refine wpAny_call (codeAny_mono (F.run X.A X.stack s H ⟨us, []⟩ us vs Q hr I.env0 b r h) fun r s' hq => ?_)
  cases r with
  | error e => exact False.elim hq
  | ok fl =>
    cases fl with
    | ret u => exact I.after hq
    | next => exact False.elim hq
    | brk => exact False.elim hq
    | cont => exact False.elim hq
end
/-- the def that the module's name x holds keeps sp, wherever it is called -/
structure DefQ (P : Program) (w : World) (K : PySem.W.Frag) (mg : Str → Option Value) (base : Heap) (x : Str) (k : Nat) (sp : Sp) : Prop where
  ex : ∃ f fd ps, mg x = some (.ref f) ∧ PySem.W.keepIn K (.ref f) = true ∧ Binds K fd ps [] ∧ FnQ P w K mg base k f fd ps sp
def tCallQ (sp : Sp) (t : TA) : TE := fun σ H Q => t σ H fun vs H1 => sp vs H1 Q E0
theorem pe_cq {X : Cx} {j k : Nat} {sp : Sp} {x : Str} {e : Expr} {es : List Expr} {t : TA} {p pos : Pos} (D : DefQ X.prog X.w X.K X.mg X.base x k sp) (hr : L2H.RoomH j X.A) (ha : PA X (e :: es) t) (hle : k ≤ j := by decide) (hg : Gl X x := by rfl) (hdb : (x == ("__debug__" : Str)) = false := by decide)
    (he : starEach (e :: es) X.env = (false, eval e X.env) :: starEach es X.env := by rfl) (hpl : (backTo pos (starEach es X.env)).any (·.1) = false := by rfl) : PE X (.Call (.Name x p) (e :: es) [] pos) (tCallQ sp t) := by
  obtain ⟨f, fd, ps, hm, hk, hb, F⟩ := D.ex
  refine ⟨fun pins s σ H Q I h => wpAny_Call_Name_kw (ld_glob I hg hm ?_ hdb)⟩
  exact PySem.W.callWith_K (h₀ := X.base) I.ok.mod.kin hk (thn (ha.run pos pins s σ H _ I h) fun us s1 ⟨vs, H1, I1, r, q⟩ => ⟨I1.kIn, run_fnQ F (hr.mono hle) hb I1 r q⟩) he hpl
end WC

set_option maxHeartbeats 4000000
namespace WC
open PySem PySem.Spec PyProof.Rows L2
/-! channels kept in a dict by their pair -/
abbrev pairOf2 (c : Tri) : Int × Int := (c.1, c.2.1)
def entK (c : Tri) : List Key := [Sum.inl c.1, Sum.inl c.2.1]
def ent (c : Tri) : List Key × V := (entK c, .int c.2.2)
theorem entK_inj {a c : Tri} : entK a = entK c ↔ pairOf2 a = pairOf2 c := by
  unfold entK pairOf2
  simp
theorem put_ent (ms : List Tri) (c : Tri) : ∃ ms2 : List Tri, putK (ms.map ent) (entK c) (.int c.2.2) = ms2.map ent ∧ (∀ p : Tri → Prop, (∀ m ∈ ms, p m) → p c → ∀ m ∈ ms2, p m) ∧ ((ms.map pairOf2).Nodup → (ms2.map pairOf2).Nodup) ∧ ms2.length ≤ ms.length + 1 := by
  unfold putK
  by_cases h : ((ms.map ent).any fun kv => decide (kv.1 = entK c)) = true
  · rw [if_pos h]
    refine ⟨ms.map fun m => if entK m = entK c then c else m, ?_, fun p h1 h2 m hm => ?_, fun nd => ?_, by rw [List.length_map]; omega⟩
    · rw [List.map_map, List.map_map]
      refine List.map_congr_left fun m _ => ?_
      show (if entK m = entK c then (entK m, V.int c.2.2) else ent m) = ent (if entK m = entK c then c else m)
      by_cases e : entK m = entK c
      · rw [if_pos e, if_pos e, e]
        rfl
      · rw [if_neg e, if_neg e]
    · obtain ⟨m0, hm0, e⟩ := List.mem_map.mp hm
      by_cases e2 : entK m0 = entK c
      · rw [if_pos e2] at e
        rw [← e]; exact h2
      · rw [if_neg e2] at e
        rw [← e]; exact h1 m0 hm0
    · have q : (ms.map fun m => if entK m = entK c then c else m).map pairOf2 = ms.map pairOf2 := by
        rw [List.map_map]
        refine List.map_congr_left fun m _ => ?_
        show pairOf2 (if entK m = entK c then c else m) = pairOf2 m
        by_cases e : entK m = entK c
        · rw [if_pos e]
          exact (entK_inj.mp e).symm
        · rw [if_neg e]
      rw [q]
      exact nd
  · rw [if_neg h]
    refine ⟨ms ++ [c], by rw [List.map_append]; rfl, fun p h1 h2 m hm => ?_, fun nd => ?_, by rw [List.length_append]; exact Nat.le_refl _⟩
    · rcases List.mem_append.mp hm with q | q
      · exact h1 m q
      · rw [List.mem_singleton.mp q]; exact h2
    · rw [List.map_append, List.nodup_append]
      refine ⟨nd, by simp, fun x hx y hy e => h ?_⟩
      obtain ⟨m, hm, e1⟩ := List.mem_map.mp hx
      have e2 : y = pairOf2 c := by simpa using hy
      rw [List.any_eq_true]
      exact ⟨ent m, List.mem_map_of_mem hm, decide_eq_true (entK_inj.mpr (e1.trans (e.trans e2)))⟩
theorem val_ent : ∀ {ms : List Tri} {c : Tri}, (ms.map pairOf2).Nodup → c ∈ ms → valV (ms.map ent) (entK c) = some (.int c.2.2)
  | [], _, _, h => by cases h
  | m :: ms, c, nd, h => by
    rw [List.map_cons, List.nodup_cons] at nd
    rw [List.map_cons]
    by_cases e : entK m = entK c
    · rw [valV_pos (p := ent m) e]
      rcases List.mem_cons.mp h with q | q
      · rw [q]; rfl
      · exact absurd (List.mem_map.mpr ⟨c, q, (entK_inj.mp e).symm⟩) nd.1
    · rw [valV_neg (p := ent m) e]
      rcases List.mem_cons.mp h with q | q
      · rw [q] at e; exact absurd rfl e
      · exact val_ent nd.2 q
theorem seq_mid {a b : TS} {D : Ends} {σ : L2.St} {H : Hp} (Pv : L2.St → Hp → Prop) (h1 : ∀ N : L2.St → Hp → Prop, (∀ σ H, Pv σ H → N σ H) → a { D with nx := N } σ H) (h2 : ∀ σ H, Pv σ H → b D σ H) : tSeq a b D σ H := h1 _ h2
/-- a channel from an earlier stage of ts to a later one -/
def LkOk (ts : List Int) (c : Tri) : Prop := (∃ i j : Nat, i < j ∧ ts[i]? = some c.1 ∧ ts[j]? = some c.2.1) ∧ 1 ≤ c.2.2 ∧ c.2.2 ≤ 999
theorem acyc_of {ts : List Int} {ms : List Tri} (nd : ts.Nodup) (h : ∀ c ∈ ms, LkOk ts c) : Acyc ms := by
  refine ⟨fun x => ts.idxOf x, fun c hc => ?_⟩
  obtain ⟨⟨i, j, hij, h1, h2⟩, _⟩ := h c hc
  have at_ : ∀ {k : Nat} {x : Int}, ts[k]? = some x → ts.idxOf x = k := fun {k x} e => by
    obtain ⟨hk, e2⟩ := List.getElem?_eq_some_iff.mp e
    have hx : ts.idxOf x < ts.length := List.idxOf_lt_length_of_mem (e2 ▸ List.getElem_mem hk)
    have e3 : ts[ts.idxOf x]? = some x := by rw [List.getElem?_eq_getElem hx, List.getElem_idxOf hx]
    exact (List.getElem?_inj hx nd).mp (e3.trans e.symm)
  show ts.idxOf c.1 < ts.idxOf c.2.1
  rw [at_ h1, at_ h2]
  exact hij
end WC

set_option maxHeartbeats 4000000
namespace WC
open PySem PySem.Spec PyProof.Rows L2
/-! all that lies behind a, by going over the links n times -/
abbrev On (bs : List Bool) (k : Int) : Prop := bs[k.toNat]? = some true
def Shut (ls : List Lk) (a : Int) (bs : List Bool) : Prop := ∀ y z, (y, z) ∈ ls → y = a ∨ On bs y → On bs z
structure Wlk (ls : List Lk) (a : Int) (n : Nat) (bs : List Bool) : Prop where
  len : bs.length = n
  snd : ∀ k : Nat, bs[k]? = some true → Reach ls a k
theorem set_same {bs : List Bool} {k : Nat} (h : bs[k]? = some true) : bs.set k true = bs := by
  apply List.ext_getElem?
  intro i
  rw [List.getElem?_set]
  by_cases e : k = i
  · subst e
    rw [if_pos rfl, if_pos (List.getElem?_eq_some_iff.mp h).1, h]
  · rw [if_neg e]
theorem count_set : ∀ {bs : List Bool} {k : Nat}, bs[k]? = some false → (bs.set k true).count true = bs.count true + 1
  | [], k, h => by simp at h
  | a :: bs, 0, h => by
    have e : a = false := by simpa using h
    subst e
    simp
  | a :: bs, k + 1, h => by
    have h : bs[k]? = some false := by simpa using h
    rw [List.set_cons_succ, List.count_cons, List.count_cons, count_set h]
    omega
structure WMid (ls : List Lk) (a : Int) (n : Nat) (m : Nat) (bs0 bs : List Bool) : Prop where
  w : Wlk ls a n bs
  up : ∀ k : Int, On bs0 k → On bs k
  dn : ∀ y z, (y, z) ∈ ls.take m → y = a ∨ On bs0 y → On bs z
  sh : Shut ls a bs0 → bs = bs0
  ct : bs = bs0 ∨ bs0.count true < bs.count true
theorem WMid.start {ls : List Lk} {a : Int} {n : Nat} {bs : List Bool} (w : Wlk ls a n bs) : WMid ls a n 0 bs bs := ⟨w, fun _ h => h, fun y z h => by simp at h, fun _ => rfl, .inl rfl⟩
theorem WMid.hit {ls : List Lk} {a : Int} {n m : Nat} {bs0 bs : List Bool} {y z : Int} (h : WMid ls a n m bs0 bs) (hc : ls[m]? = some (y, z)) (hy : 0 ≤ y) (hz : 0 ≤ z ∧ z < n) (c : y = a ∨ On bs y) : WMid ls a n (m + 1) bs0 (bs.set z.toNat true) := by
  have hm : (y, z) ∈ ls := List.mem_of_getElem? hc
  have zl : z.toNat < bs.length := by rw [h.w.len]; omega
  have at1 : ∀ {k : Int}, On bs k → On (bs.set z.toNat true) k := fun {k} e => by
    show (bs.set z.toNat true)[k.toNat]? = some true
    rw [List.getElem?_set]
    by_cases q : z.toNat = k.toNat
    · rw [if_pos q, if_pos zl]
    · rw [if_neg q]; exact e
  have atz : On (bs.set z.toNat true) z := by
    show (bs.set z.toNat true)[z.toNat]? = some true
    rw [List.getElem?_set, if_pos rfl, if_pos zl]
  refine ⟨⟨by rw [List.length_set]; exact h.w.len, fun k e => ?_⟩, fun k e => at1 (h.up k e), fun y2 z2 e c2 => ?_, fun s => ?_, ?_⟩
  · rw [List.getElem?_set] at e
    by_cases q : z.toNat = k
    · have ek : (k : Int) = z := by omega
      rw [ek]
      refine .step ?_ hm
      rcases c with c | c
      · rw [c]; exact .refl
      · have := h.w.snd y.toNat c
        have e3 : ((y.toNat : Nat) : Int) = y := by omega
        rw [e3] at this
        exact this
    · rw [if_neg q] at e
      exact h.w.snd k e
  · rw [take_snoc hc] at e
    rcases List.mem_append.mp e with e | e
    · exact at1 (h.dn y2 z2 e c2)
    · have e := List.mem_singleton.mp e
      cases e
      exact atz
  · have e0 := h.sh s
    rw [e0] at c
    have z0 : On bs0 z := s y z hm c
    rw [e0]
    exact set_same z0
  · cases hb : bs[z.toNat]? with
    | none => rw [List.getElem?_eq_none_iff] at hb; omega
    | some v =>
      cases v with
      | true => rw [set_same hb]; exact h.ct
      | false =>
        refine .inr ?_
        rw [count_set hb]
        rcases h.ct with e | e
        · rw [e]; omega
        · omega
theorem WMid.miss {ls : List Lk} {a : Int} {n m : Nat} {bs0 bs : List Bool} {y z : Int} (h : WMid ls a n m bs0 bs) (hc : ls[m]? = some (y, z)) (c : ¬ (y = a ∨ On bs y)) : WMid ls a n (m + 1) bs0 bs :=
  ⟨h.w, h.up, fun y2 z2 e c2 => by
    rw [take_snoc hc] at e
    rcases List.mem_append.mp e with e | e
    · exact h.dn y2 z2 e c2
    · have e := List.mem_singleton.mp e
      cases e
      exact absurd (c2.imp id (h.up _)) c, h.sh, h.ct⟩
theorem WMid.fin {ls : List Lk} {a : Int} {n t : Nat} {bs0 bs : List Bool} (h : WMid ls a n ls.length bs0 bs) (q : Shut ls a bs0 ∨ t ≤ bs0.count true) : Shut ls a bs ∨ t + 1 ≤ bs.count true := by
  rcases h.ct with e | e
  · refine .inl fun y z hm c => ?_
    rw [e] at c
    exact h.dn y z (by rw [List.take_length]; exact hm) c
  · rcases q with q | q
    · have := h.sh q
      rw [this] at e
      omega
    · exact .inr (by omega)
theorem all_on {bs : List Bool} {n : Nat} (hl : bs.length = n) (h : n ≤ bs.count true) {k : Nat} (hk : k < n) : bs[k]? = some true := by
  have e : bs.count true = bs.length := Nat.le_antisymm List.count_le_length (by omega)
  have q := List.count_eq_length.mp e
  have hk2 : k < bs.length := by omega
  have := q (bs[k]) (List.getElem_mem hk2)
  rw [List.getElem?_eq_getElem hk2, ← this]
theorem Wlk.shut {ls : List Lk} {a : Int} {n : Nat} {bs : List Bool} (h : Wlk ls a n bs) (r : ∀ y z, (y, z) ∈ ls → 0 ≤ z ∧ z < n) (q : Shut ls a bs ∨ n ≤ bs.count true) : Shut ls a bs := by
  rcases q with q | q
  · exact q
  · intro y z hm _
    obtain ⟨z0, z1⟩ := r y z hm
    exact all_on h.len q (by omega)
theorem Wlk.all {ls : List Lk} {a : Int} {n : Nat} {bs : List Bool} (h : Wlk ls a n bs) (r : ∀ y z, (y, z) ∈ ls → 0 ≤ z ∧ z < n) (q : Shut ls a bs ∨ n ≤ bs.count true) : ∀ z, Reach ls a z → z = a ∨ On bs z := by
  have s := h.shut r q
  intro z hr
  induction hr with
  | refl => exact .inl rfl
  | step r m ih => exact .inr (s _ _ m ih)
end WC

set_option maxHeartbeats 4000000
namespace WC
open PySem PySem.Spec PyProof.Rows L2
/-! a caught exception with fields: its classes; a method called in a try -/
theorem inst_x {X : Cx} {a D dd : Addr} {oe : Obj} {cls : Value} {d : Option Addr} {pn pins : List (Addr × Obj)} {σ : L2.St} {H : Hp} {s : Shared} {fs : List (Str × V)} (hz : Zc cls d oe) (hf : ∃ vs, oe.data = .fields vs) (I : Inv (X.suite a ((a, oe) :: pn)) pins σ H s) (ec : cls = .ref D) (ed : d = some dd) (ea : H dd = some (.xd fs)) :
    ∃ od, PySem.W.InstAt s.heap a oe D (some od) := by
  subst ec ed
  obtain ⟨ha, _⟩ := I.pin (a, oe) (List.mem_append_left _ List.mem_cons_self)
  obtain ⟨vs, hd⟩ := hf
  have hx : ObjOk X.prog X.w H s.heap dd (.xd fs) := I.hok dd _ ea
  obtain ⟨mA, hns, hr⟩ := hx
  obtain ⟨od, ho, hl⟩ := lookIn_ns hns
  exact ⟨od, ha, hz.1, by unfold PySem.W.notCls; rw [hd] <;> rfl, by rw [hz.2]; exact ho⟩
theorem exc_is {K : PySem.W.Frag} {D : Addr} (C : ExcC K D) : (PySem.W.clsIn K D).isSome = true := by
  obtain ⟨cd, hc, _⟩ := PySem.W.any_some C.hd
  rw [hc]
  rfl
def rIsX (K : PySem.W.Frag) (D a : Addr) (cls : Value) (d : Option Addr) : List V → Hp → VK → Prop := fun xs H Q => ∃ (c : V) (cv : Value) (b : Bool) (dd : Addr) (fs : List (Str × V)), xs = [.ref a, c] ∧ ClsV c cv ∧ PySem.W.kitOne K (.ref D) cv = some b ∧ cls = .ref D ∧ d = some dd ∧ H dd = some (.xd fs) ∧ Q (.bl b) H
def rIsXT (K : PySem.W.Frag) (D a : Addr) (cls : Value) (d : Option Addr) : List V → Hp → VK → Prop := fun xs H Q => ∃ (tp : Addr) (cs : List V) (cvs : List Value) (b : Bool) (dd : Addr) (fs : List (Str × V)), xs = [.ref a, .ref tp] ∧ H tp = some (.tup cs) ∧ Paired ClsV cs cvs ∧ PySem.W.kitAny K (.ref D) cvs = some b ∧ cls = .ref D ∧ d = some dd ∧ H dd = some (.xd fs) ∧ Q (.bl b) H
section
variable {X : Cx} {a D : Addr} {oe : Obj} {cls : Value} {d : Option Addr} {pn : List (Addr × Obj)}
theorem call_isX (C : ExcC X.K D) (hz : Zc cls d oe) (hf : ∃ vs, oe.data = .fields vs) : CallR (X.suite a ((a, oe) :: pn)) (.builtin "isinstance") (rIsX X.K D a cls d) := by
  intro pins s σ H xs us Q I r h
  obtain ⟨c, cv, b, dd, fs, rfl, hcv, e, ec, ed, ea, q⟩ := h
  obtain ⟨u1, u2, rfl, r1, r2⟩ := vals2 r
  have e2 := hcv.eq r2
  subst e2
  obtain rfl : u1 = Value.ref a := r1
  obtain ⟨od, J⟩ := inst_x hz hf I ec ed ea
  exact PySem.W.kia_one (PySem.W.kitx_exc (exc_is C) C.hg C.hk C.hs C.ha C.hn C.ht C.hm) I.kIn J e (fun z => nomatch z) fun tk => ⟨.bl b, H, I.kept (t' := tk) fun _ _ z => z, rfl, q⟩
theorem call_isXT (C : ExcC X.K D) (hz : Zc cls d oe) (hf : ∃ vs, oe.data = .fields vs) : CallR (X.suite a ((a, oe) :: pn)) (.builtin "isinstance") (rIsXT X.K D a cls d) := by
  intro pins s σ H xs us Q I r h
  obtain ⟨tp, cs, cvs, b, dd, fs, rfl, hT, k, e, ec, ed, ea, q⟩ := h
  obtain ⟨u1, u2, rfl, r1, r2⟩ := vals2 r
  obtain rfl : u1 = Value.ref a := r1
  cases (show u2 = Value.ref tp from r2)
  obtain ⟨od, J⟩ := inst_x hz hf I ec ed ea
  obtain ⟨_, its, rv, o, h1, h2, n, h3⟩ := (show ObjOk X.prog X.w H s.heap tp (.tup cs) from I.hok tp _ hT)
  have e3 := ClsV.all k rv
  subst e3
  obtain ⟨oc, od2, dt, sl⟩ := o
  simp only at h2 h3
  subst h2 h3
  exact PySem.W.kia_tup (PySem.W.kitx_exc (exc_is C) C.hg C.hk C.hs C.ha C.hn C.ht C.hm) I.kIn J h1 e (fun z => nomatch z) fun tk => ⟨.bl b, H, I.kept (t' := tk) fun _ _ z => z, rfl, q⟩
end
/-- the method m that is found at C keeps sp -/
structure MetR (P : Program) (w : World) (K : PySem.W.Frag) (mg : Str → Option Value) (base : Heap) (C : Addr) (m : Str) (k : Nat) (sp : Sp) : Prop where
  ex : ∃ f fd ps, Cls K C ∧ Meth K C m f ∧ Binds K fd ps [] ∧ FnOk P w K mg base (L2.CX P w) k f fd ps sp
def tMtS (C : Addr) (m : Str) (sp : Sp) (E : L2.St → XK) (ta : TE) (t : TA) : TE := fun σ H Q => ta σ H fun x H1 => ∃ a dx fs, x = .ref a ∧ H1 a = some (.ins C dx fs) ∧ fs.lookup m = none ∧ t σ H1 fun vs H2 => sp (x :: vs) H2 Q (E σ)
theorem pe_mtS {X : Cx} {C : Addr} {m : Str} {j k : Nat} {sp : Sp} {W : WX} {o e : Expr} {es : List Expr} {ta : TE} {t : TA} {pos apos : Pos} {pl : Sem Bool} (D : MetR X.prog X.w X.K X.mg X.base C m k sp) (ho : PE X o ta) (hr : Room j X.A) (tk : Takes X W) (ha : PA X (e :: es) t) (hle : k ≤ j := by decide)
    (hst : starEach (e :: es) X.env = (false, eval e X.env) :: starEach es X.env := by rfl) (hpl : (backTo pos (starEach es X.env)).any (·.1) = false := by rfl)
    (ht : eval (.Call (.Attribute o m apos) (e :: es) [] pos) X.env = (do
      let ov ← eval o X.env
      standAt apos.atName
      let (f, first) ← holding [ov] (getMethod ov m pl)
      callWith pos f first (backTo pos (starEach (e :: es) X.env)) (backToKw pos (keywordEach [] X.env))) := by rfl) : PE X (.Call (.Attribute o m apos) (e :: es) [] pos) (tMtS C m sp (WE W) ta t) := by
  obtain ⟨f, fd, ps, c, hm, hb, F⟩ := D.ex
  refine ⟨fun pins s σ H Q I h => ?_⟩
  refine PySem.W.methodCall_KW (pl := pl) (thn (ho.run pins s σ H _ I h) fun u s1 ⟨x, H1, I1, rx, a, dx, fs, ex, ea, l, q⟩ => ?_) ht
  subst ex
  obtain rfl : u = Value.ref a := rx
  refine getmeth_ok I1 ea c hm l ?_
  refine PySem.W.callWith_K (first := [.ref a]) (h₀ := X.base) I.ok.mod.kin hm.kp (thn (ha.run pos pins s1 σ H1 _ I1 q) fun us s2 ⟨vs, H2, I2, r, q2⟩ => ⟨I2.kIn, ?_⟩) hst hpl
  exact run_fnS (E := WE W) (us := .ref a :: us) (vs := .ref a :: vs) F (hr.mono hle) hb (passAt tk σ) I2 (.cons rfl r) q2
end WC

set_option maxHeartbeats 4000000
namespace WC
open PySem PySem.Spec PyProof.Rows L2 ClX
/-! a classmethod called with thirty arguments or more -/
section
variable {X : Cx} {CX : CXT} {k : Nat} {C p g : Addr} {mc : Value} {sp : Sp} {E : XK} {o e : Expr} {es : List Expr} {f m : Str} {pos apos : Pos} {ta : TE} {t : TA}
theorem pe_cmethL (he : PE X o ta) (r : CRead X.K C mc) (c : CMet X.K C mc m p g) (F : FnR X.prog X.w X.K X.mg X.base CX k g sp) (hr : Room k X.A) (hx : Passes CX X E) (ha : PA X (e :: es) t)
    (hst : starEach (e :: es) X.env = (false, eval e X.env) :: starEach es X.env := by rfl) (hpl : (backTo pos (starEach es X.env)).any (·.1) = false := by rfl)
    (ht : eval (.Call (.Attribute o m apos) (e :: es) [] pos) X.env = (do
      let ov ← eval o X.env
      standAt apos.atName
      let (f, first) ← holding [ov] (do pure (← getAttr ov m true, ([] : List Value)))
      callWith pos f first (backTo pos (starEach (e :: es) X.env)) (backToKw pos (keywordEach [] X.env))) := by rfl) :
    PE X (.Call (.Attribute o m apos) (e :: es) [] pos) (tCMeth C sp E ta t) := by
  refine ⟨fun pins s σ H Q I h => ?_⟩
  show wpAny _ _ (eval (.Call (.Attribute o m apos) (e :: es) [] pos) X.env) _ _ _
  rw [ht]
  refine wpAny_bind (thn (he.run pins s σ H _ I h) fun u s1 ⟨x, H1, I1, rx, ex, q⟩ => ?_)
  subst ex
  obtain rfl : u = Value.ref C := rx
  refine wpAny_bind (wpAny_standAt (wpAny_bind (wpAny_holding (wpAny_bind (getcmet_ok I1 r c fun s2 I2 => wpAny_pure ?_)))))
  show wpAny _ _ (callWith pos (.ref s1.heap.objs.size) [] (backTo pos (starEach (e :: es) X.env)) []) _ _ _
  refine callwith_cm I2 (base_none I1 (Nat.le_refl _)) c.fi (thn (ha.run pos _ s2 σ H1 _ I2 q) fun us s3 ⟨vs, H2, I3, rv, q2⟩ => ⟨⟨pin_at I3, I3.kIn⟩, ?_⟩) hst hpl
  exact run_cm F hr hx I3 rv q2
end
end WC

set_option maxHeartbeats 4000000
namespace WC
open PySem PySem.Spec PyProof.Rows L2
/-! an own exception made outside a raise, and its field -/
def tNewO (C : Addr) (sp : Sp) (ta : TA) : TE := fun σ H Q => ta σ H fun vs H1 => vs.length ≤ 1000 ∧ ∀ a, H1 a = none → sp (.ref a :: vs) (upd H1 a (exo a C none)) (fun v H2 => v = .non ∧ Q (.ref a) H2) (fun _ _ _ => False)
section
variable {X : Cx} {x : Str} {C : Addr} {k j n : Nat} {fl : List V → List (Str × V)} {e : Expr} {es : List Expr} {ta : TA} {p pos : Pos}
theorem pe_oex {CX : CXT} {fI : Addr} {fd : FuncData} {ps : List Str} {sp : Sp} (T : OexC X.K C) (iC : PySem.W.findIn X.K (.ref C) "__init__" = some (some (.ref fI))) (tI : PySem.W.typeIn X.K (.ref fI) = some (.type "function"))
    (F1 : FnOk X.prog X.w X.K X.mg X.base CX k fI fd ps sp) (hr : Room (k + 1) X.A) (hb : Binds X.K fd ps []) (hx : Passes CX X (fun _ _ _ => False)) (hg : Gl X x) (hm : X.mg x = some (.ref C)) (ha : PA X (e :: es) ta)
    (hdb : (x == ("__debug__" : Str)) = false := by decide) (he : starEach (e :: es) X.env = (false, eval e X.env) :: starEach es X.env := by rfl) (hpl : (backTo pos (starEach es X.env)).any (·.1) = false := by rfl) :
    PE X (.Call (.Name x p) (e :: es) [] pos) (tNewO C sp ta) := by
  refine ⟨fun pins s σ H Q I h => ?_⟩
  obtain ⟨nm, q, N, bs, bm, sn, sub, ab, col, dd, k0, k1, k2, k3, k5, hC, hbm⟩ := T.cls
  refine wpAny_Call_Name_kw (ld_glob I hg hm ?_ hdb)
  refine PySem.W.callWith_K (h₀ := X.base) I.ok.mod.kin T.kC (thn (ha.run pos pins s σ H _ I h) fun us s1 ⟨vs, H1, I1, r1, hz, q1⟩ => ⟨I1.kIn, ?_⟩) he hpl
  show wpAny _ _ (call (.ref C) us) _ _ _
  obtain ⟨hp, g, dr, tk, os⟩ := s1
  have hsz : hp.objs.size ≤ hp.objs.size + 1 := Nat.le_succ _
  have hn : H1 (hp.objs.size + 1) = none := I1.hok.fresh hsz
  have hq := q1 (hp.objs.size + 1) hn
  have kk : ∀ b o, hp.get? b = some o → ((hp.push (PySem.W.kdv_tup us)).push (PySem.HandSPX.excO C hp.objs.size)).get? b = some o := fun b o e => Heap.get?_push_of_some _ (Heap.get?_push_of_some _ e)
  have hget : ((hp.push (PySem.W.kdv_tup us)).push (PySem.HandSPX.excO C hp.objs.size)).get? (hp.objs.size + 1) = some (PySem.HandSPX.excO C hp.objs.size) := by heap_get
  have I2 : Inv X pins σ (upd H1 (hp.objs.size + 1) (exo (hp.objs.size + 1) C none)) ⟨(hp.push (PySem.W.kdv_tup us)).push (PySem.HandSPX.excO C hp.objs.size), g, dr, tk, os⟩ :=
    I1.laid (t' := tk) (a := hp.objs.size + 1) (o := exo (hp.objs.size + 1) C none) (h' := (hp.push (PySem.W.kdv_tup us)).push (PySem.HandSPX.excO C hp.objs.size)) kk hsz (exo_ok hget)
  have r2 : Vals (V.ref (hp.objs.size + 1) :: vs) (Value.ref (hp.objs.size + 1) :: us) := .cons rfl r1
  have hl : (Value.ref (hp.objs.size + 1) :: us).length = ps.length := by
    have e := r2.length
    rw [F1.len _ _ _ _ hq] at e
    exact e.symm
  have hus : us.length ≤ sizeLine := by
    rw [← Paired.length r1, sizeLine_eq]
    omega
  have bnd := hb _ (Value.ref (hp.objs.size + 1) :: us) I2.kIn (by rw [List.append_nil]; exact hl)
  rw [List.append_nil] at bnd
  refine wpAny_call (PySem.HandSPX.call_own F.excBase_ValueError (fun Y => PySem.HandSPX.refsVE_contains Y bm hbm) (I1.kIn _ _ hC) (PySem.W.looks_findIn I1.kIn iC) (fun self => PySem.W.bind_fn I1.kIn self tI) hus
    (codeAny_mono (F1.run _ X.stack _ _ ⟨Value.ref (hp.objs.size + 1) :: us, []⟩ (Value.ref (hp.objs.size + 1) :: us) _ _ (fun _ _ _ => False) (hr.make C us []) (I2.env0.make C us []) bnd r2 hq) fun r s' hq' => ?_))
  cases r with
  | error er => exact hx pins σ _ _ er s' I2 hq'
  | ok fl =>
    cases fl with
    | ret u =>
      obtain ⟨v, H2, J, rv, ev, q2⟩ := I2.after hq'
      subst ev
      exact ⟨rv, .ref (hp.objs.size + 1), H2, J, rfl, q2⟩
    | next => exact False.elim hq'
    | brk => exact False.elim hq'
    | cont => exact False.elim hq'
theorem pe_newx (T : ExcR X.prog X.w X.K X.mg X.base x C k n fl) (hr : Room j X.A) (ha : PA X (e :: es) ta) (hle : k + 1 ≤ j := by decide) (hg : Gl X x := by rfl) (hdb : (x == ("__debug__" : Str)) = false := by decide)
    (he : starEach (e :: es) X.env = (false, eval e X.env) :: starEach es X.env := by rfl) (hpl : (backTo pos (starEach es X.env)).any (·.1) = false := by rfl) : PE X (.Call (.Name x p) (e :: es) [] pos) (tNewO C (spX C n fl) ta) := by
  obtain ⟨f, fd, ps, i1, i2, i3, F⟩ := T.ini
  exact pe_oex T.txt i1 i2 F (hr.mono hle) i3 passL hg T.gC ha hdb he hpl
def tXo (C : Addr) (f : Str) (te : TE) : TE := fun σ H Q => te σ H fun x H1 => ∃ (a d : Addr) (fs : List (Str × V)) (v : V), x = .ref a ∧ H1 a = some (exo a C (some d)) ∧ H1 d = some (exd d fs) ∧ fs.lookup f = some v ∧ Q v H1
theorem pe_xo {te : TE} {f : Str} (T : XfC X.K C) (hno : PySem.W.findIn X.K (.ref C) f = some none) (he : PE X e te) (hb : attributeBase e f X.env (eval e X.env) = eval e X.env := by rfl) : PE X (.Attribute e f pos) (tXo C f te) := by
  refine ⟨fun pins s σ H Q I h => ?_⟩
  refine attr_of hb (thn (he.run pins s σ H _ I h) fun u s1 hh => ?_)
  obtain ⟨x, H1, I1, rx, a, d, fs, v, ex, ea, ed, l, q⟩ := hh
  subst ex
  obtain rfl : u = Value.ref a := rx
  obtain ⟨⟨t1, ho⟩, _⟩ := (show ObjOk X.prog X.w H1 s1.heap a (exo a C (some d)) from I1.hok a _ ea)
  obtain ⟨⟨mA, hns, hr⟩, _⟩ := (show ObjOk X.prog X.w H1 s1.heap d (exd d fs) from I1.hok d _ ed)
  obtain ⟨od, hd, hl⟩ := lookIn_ns hns
  obtain ⟨u, hu, ru⟩ := RelO.some_of (v := v) (o := mA f) (by rw [← l]; exact hr f)
  have J : PySem.W.InstAt s1.heap a _ C (some od) := ⟨ho, rfl, rfl, hd⟩
  exact PySem.HandSPX.exc_get I1.kIn J T.ga T.gg T.exC (PySem.W.findObj_own T.hdC hno rfl (by rw [hl, hu])) (handed_of ru) ⟨v, H1, I1.tok _, ru, q⟩
end
end WC

set_option maxHeartbeats 4000000
namespace WC
open PySem PySem.Spec PyProof.Rows L2
/-! zip(x, y), each a list or a tuple -/
def SqX (K : PySem.W.Frag) (H : Hp) (k : Bool) (a : Addr) (xs : List V) : Prop := match k with
  | true => SqT K H a xs
  | false => SqL K H a xs
def IsX (h : Heap) (k : Bool) (l : Addr) (items : Array Value) : Prop := match k with
  | true => h.IsTuple l items
  | false => h.IsList l items
def ItX (h : Heap) (k : Bool) (it l : Addr) (i : Nat) : Prop := match k with
  | true => h.IsTupleIter it l i
  | false => h.IsListIter it l i
theorem begX (k : Bool) (l : Addr) (items : Array Value) : ∃ o, Begins (.ref l) o (fun h => IsX h k l items) ∧ ∀ h it, h.get? it = some o → ItX h k it l 0 := by
  cases k with
  | true => exact ⟨_, begins_tuple l items, fun h it e => ⟨_, e, rfl, rfl⟩⟩
  | false => exact ⟨_, begins_list l items, fun h it e => ⟨_, e, rfl, rfl⟩⟩
theorem drX {prog : Program} {w : World} {A : Around} (hh : A.handled = none) (k : Bool) (it l : Addr) (hne : l ≠ it) (items : Array Value) : Draws prog w A it [it, l] items.size (fun i v => items[i]? = some v) (fun i h => ItX h k it l i ∧ IsX h k l items) := by
  cases k with
  | true => exact Draws.tuple hh it l hne items
  | false => exact Draws.list hh it l hne items
theorem itx_at {h h2 : Heap} {k : Bool} {it l : Addr} {i : Nat} (x : ItX h k it l i) (e : ∀ o, h.get? it = some o → h2.get? it = some o) : ItX h2 k it l i := by
  cases k with
  | true => exact Heap.IsTupleIter.at x e
  | false => exact Heap.IsListIter.at x e
theorem itx_obj {h : Heap} {k : Bool} {it l : Addr} {i : Nat} (x : ItX h k it l i) : ∃ o, h.get? it = some o ∧ (∀ v, o.data ≠ .cell v) ∧ ∃ vs, o.data = .fields vs := by
  cases k with
  | true =>
    obtain ⟨o, e, _, d⟩ := x
    refine ⟨o, e, ?_, _, d⟩
    intro v q
    rw [d] at q
    cases q
  | false =>
    obtain ⟨o, e, _, d⟩ := x
    refine ⟨o, e, ?_, _, d⟩
    intro v q
    rw [d] at q
    cases q
theorem isx_ne {h : Heap} {k k2 : Bool} {a b it : Addr} {i : Nat} {items : Array Value} (x : IsX h k a items) (y : ItX h k2 it b i) : a ≠ it := fun z => by
  obtain ⟨o2, e2, _, vs, d2⟩ := itx_obj y
  cases k with
  | true =>
    obtain ⟨o1, q1, c1, _, d1⟩ := x
    rw [z, e2] at q1
    cases q1
    rw [d1] at d2
    cases d2
  | false =>
    obtain ⟨o1, q1, c1, _, d1⟩ := x
    rw [z, e2] at q1
    cases q1
    rw [d1] at d2
    cases d2
theorem sqx_is {X : Cx} {pins : List (Addr × Obj)} {σ : L2.St} {H : Hp} {s : Shared} {k : Bool} {a : Addr} {xs : List V} (I : Inv X pins σ H s) (q : SqX X.K H k a xs) : ∃ its : List Value, Vals xs its ∧ IsX s.heap k a its.toArray := by
  cases k with
  | true =>
    obtain ⟨its, rv, p, _⟩ := I.tuple q
    exact ⟨its, rv, p⟩
  | false =>
    obtain ⟨its, rv, p, _⟩ := I.list q
    exact ⟨its, rv, p.isList⟩
theorem sqx_inj {X : Cx} {pins : List (Addr × Obj)} {σ : L2.St} {H : Hp} {s : Shared} {k : Bool} {a : Addr} {xs ys : List V} (I : Inv X pins σ H s) (q : SqX X.K H k a xs) (r : SqX X.K H k a ys) : xs = ys := by
  cases k with
  | true => exact I.tuple_inj q r
  | false => exact I.list_inj q r
def ItzM (K : PySem.W.Frag) (k1 k2 : Bool) (a b : Addr) : It :=
  ⟨fun i H => ∃ (xs ys : List V) (x y : V), SqX K H k1 a xs ∧ SqX K H k2 b ys ∧ xs[i]? = some x ∧ ys[i]? = some y,
    fun i H v H' => ∃ T x y, v = .ref T ∧ H T = none ∧ H' = upd H T (.tup [x, y]) ∧ (∀ xs, SqX K H k1 a xs → xs[i]? = some x) ∧ ∀ ys, SqX K H k2 b ys → ys[i]? = some y,
    fun i H => ∃ xs ys : List V, SqX K H k1 a xs ∧ SqX K H k2 b ys ∧ i ≤ xs.length ∧ i ≤ ys.length ∧ (xs.length = i ∨ ys.length = i)⟩
structure ZpM (z TI TO i1 i2 a b : Addr) : Prop where
  s : ZipSep2 z TI TO i1 i2 [i1, a] [i2, b]
  n1 : a ≠ i1
  n2 : b ≠ i2
theorem turn_zipM {P : Program} {w : World} {K : PySem.W.Frag} {elts : List Expr} {kk : Nat} {tpos : Pos} {k1 k2 : Bool} {a b z TI TO i1 i2 : Addr} (D : ZpM z TI TO i1 i2 a b) :
    Turn P w K (.Tuple elts kk tpos) (ItzM K k1 k2 a b) [z, TI, TO, i1, i2] z (fun i h => IsZip h z TI TO .none ∧ IsTupOf2 h TI (.ref i1) (.ref i2) ∧ (∃ x y, IsTupOf2 h TO x y) ∧ ItX h k1 i1 a i ∧ ItX h k2 i2 b i) where
  mem := by simp
  obj := fun i h st c hc => by
    obtain ⟨hz, hTI, ⟨x, y, hTO⟩, h1, h2⟩ := st
    obtain ⟨o1, e1, d1, _⟩ := itx_obj h1
    obtain ⟨o2, e2, d2, _⟩ := itx_obj h2
    have e' : c = z ∨ c = TI ∨ c = TO ∨ c = i1 ∨ c = i2 := by simpa using hc
    rcases e' with q | q | q | q | q
    · rw [q]; exact ⟨_, hz, fun v q => nomatch q⟩
    · rw [q]; exact ⟨_, hTI, fun v q => nomatch q⟩
    · rw [q]; exact ⟨_, hTO, fun v q => nomatch q⟩
    · rw [q]; exact ⟨o1, e1, d1⟩
    · rw [q]; exact ⟨o2, e2, d2⟩
  keep := fun i h h' st k => by
    obtain ⟨hz, hTI, ⟨x, y, hTO⟩, h1, h2⟩ := st
    exact ⟨k z (by simp) _ hz, k TI (by simp) _ hTI, ⟨x, y, k TO (by simp) _ hTO⟩, itx_at h1 fun o q => k i1 (by simp) o q, itx_at h2 fun o q => k i2 (by simp) o q⟩
  item := by
    intro X hP hw hK hc i pins s σ H E I hf st hg
    subst hP hw hK
    obtain ⟨hz, hTI, ⟨x0, y0, hTO⟩, h1, h2⟩ := st
    obtain ⟨xs, ys, x, y, hqx, hqy, hx, hy⟩ := hg
    obtain ⟨its, rv, p⟩ := sqx_is I hqx
    obtain ⟨its2, rv2, p2⟩ := sqx_is I hqy
    obtain ⟨u, hu, ru⟩ := rv.get hx
    obtain ⟨u2, hu2, ru2⟩ := rv2.get hy
    have hzl : z < s.heap.objs.size := Heap.lt_size hz
    have S := D.s
    have hl1 : i < its.toArray.size := by have := (List.getElem?_eq_some_iff.mp hu).1; simpa using this
    have hl2 : i < its2.toArray.size := by have := (List.getElem?_eq_some_iff.mp hu2).1; simpa using this
    refine wpAny_pyNext_zipD2_item S (drX (A := X.A.in1) (I.ok.hd hc) k1 i1 a D.n1 its.toArray) (drX (A := X.A.in1) (I.ok.hd hc) k2 i2 b D.n2 its2.toArray) hz hTI hTO ⟨h1, p⟩ ⟨h2, p2⟩ hl1 hl2 fun v1 v2 h' tk e1 e2 z' TO' h1' h2' hT hsz hk => ?_
    have e1 : its[i]? = some v1 := by simpa using e1
    have e2 : its2[i]? = some v2 := by simpa using e2
    rw [hu] at e1
    rw [hu2] at e2
    cases e1
    cases e2
    refine ⟨_, rfl, wpAny_letOwnedTupleGo_zip (s := { s with heap := h', toks := tk }) z' fun h'' z'' sb => ?_⟩
    have hT2 : h''.get? s.heap.objs.size = some { cls := .type "tuple", data := .seq #[u, u2] } := (sb.2 _ (Nat.ne_of_gt hzl)).trans hT
    have new : ObjOk X.prog X.w (upd H s.heap.objs.size (.tup [x, y])) h'' s.heap.objs.size (.tup [x, y]) :=
      ⟨by show 2 ≤ sizeLine; decide, [u, u2], .cons ru (.cons ru2 .nil), ⟨_, hT2, rfl, _, rfl⟩⟩
    have I1 : Inv X pins σ (upd H s.heap.objs.size (.tup [x, y])) { s with heap := h'', toks := tk } :=
      I.turnedNew (t' := tk) (ch := [z, TI, TO, i1, i2]) (fun c o hb q => (sb.2 c (fun q' => hb (by simp [q']))).trans (hk c o (fun q' => hb (by simp [q'])) (fun q' => hb (by simp [q'])) (fun q' => hb (by simp [q'])) (fun q' => hb (by simp [q'])) q)) hf (Nat.le_refl _) new
    refine ⟨.ref s.heap.objs.size, _, I1, rfl, ⟨_, x, y, rfl, I.hok.fresh (Nat.le_refl _), rfl, fun l hl => by rw [sqx_inj I hl hqx]; exact hx, fun l hl => by rw [sqx_inj I hl hqy]; exact hy⟩, ⟨z'', ?_, ⟨u, u2, ?_⟩, ?_, ?_⟩, fun c hcm => ?_⟩
    · exact (sb.2 _ S.TIz).trans (hk _ _ S.TIz S.TITO S.TIi1 S.TIi2 hTI)
    · exact (sb.2 _ S.TOz).trans TO'
    · exact itx_at h1'.1 fun o q => (sb.2 _ (Ne.symm S.zi1)).trans q
    · exact itx_at h2'.1 fun o q => (sb.2 _ (Ne.symm S.zi2)).trans q
    · have hlt : c < s.heap.objs.size := by
        have e' : c = z ∨ c = TI ∨ c = TO ∨ c = i1 ∨ c = i2 := by simpa using hcm
        rcases e' with q | q | q | q | q
        · rw [q]; exact hzl
        · rw [q]; exact Heap.lt_size hTI
        · rw [q]; exact Heap.lt_size hTO
        · rw [q]; obtain ⟨_, e1, _⟩ := itx_obj h1; exact Heap.lt_size e1
        · rw [q]; obtain ⟨_, e2, _⟩ := itx_obj h2; exact Heap.lt_size e2
      rw [upd_ne (Nat.ne_of_lt hlt)]
      exact (hf c hcm).1
  done := by
    intro X hP hw hK hc i pins s σ H E I hf st hg
    subst hP hw hK
    obtain ⟨hz, hTI, ⟨x0, y0, hTO⟩, h1, h2⟩ := st
    obtain ⟨xs, ys, hqx, hqy, g1, g2, hend⟩ := hg
    obtain ⟨its, rv, p⟩ := sqx_is I hqx
    obtain ⟨its2, rv2, p2⟩ := sqx_is I hqy
    have l1 := rv.length
    have l2 := rv2.length
    refine wpAny_pyNext_zipD2_end D.s (drX (A := X.A.in1) (I.ok.hd hc) k1 i1 a D.n1 its.toArray) (drX (A := X.A.in1) (I.ok.hd hc) k2 i2 b D.n2 its2.toArray) hz hTI hTO ⟨h1, p⟩ ⟨h2, p2⟩ (by simp; omega) (by simp; omega) (by simp; omega) fun h' tk hk => ⟨rfl, I.turnedL (t' := tk) (ch := [z, TI, TO, i1, i2]) (fun c o hb q =>
      hk c o (fun q' => hb (by simp [q'])) (fun q' => hb (by simp [q'])) (fun q' => hb (by simp [q'])) (fun q' => hb (by simp [q'])) q) hf⟩
  self := fun A i s Q E st h => wpAny_pyIter_zip st.1 h
def iZipM (K : PySem.W.Frag) (ta : TA) : TI := fun σ H R => ta σ H fun vs H1 => ∃ a b xs ys k1 k2, vs = [.ref a, .ref b] ∧ SqX K H1 k1 a xs ∧ SqX K H1 k2 b ys ∧ R (ItzM K k1 k2 a b) H1
theorem isx_lt {h : Heap} {k : Bool} {a : Addr} {items : Array Value} (x : IsX h k a items) : a < h.objs.size := by
  cases k with
  | true => obtain ⟨o, e, _⟩ := x; exact Heap.lt_size e
  | false => obtain ⟨o, e, _⟩ := x; exact Heap.lt_size e
theorem pi_zipM {X : Cx} {e e2 : Expr} {ta : TA} {p pos tpos : Pos} {elts : List Expr} {kk : Nat} (hm : X.mg "zip" = none) (ha : PA X [e, e2] ta) (hg : Gl X "zip" := by rfl)
    (hs : starEach [e, e2] X.env = (false, eval e X.env) :: starEach [e2] X.env := by rfl) (hpl : (backTo pos (starEach [e2] X.env)).any (·.1) = false := by rfl) :
    PI X (.Tuple elts kk tpos) (.Call (.Name "zip" p) [e, e2] [] pos) (iZipM X.K ta) := by
  refine ⟨fun pins s σ H R I h => ?_⟩
  refine Call_ (ld_blt I hg hm PyProof.Rows.boot_zip (PyProof.Rows.callWith_type1 (thn (ha.run pos pins s σ H _ I h) fun us s1 ⟨vs, H1, I1, r1, q1⟩ => ?_) hs hpl))
  obtain ⟨a, b, xs, ys, k1, k2, ex, hqx, hqy, q⟩ := q1
  subst ex
  cases r1 with
  | cons r rr =>
    cases rr with
    | cons r' rr =>
      cases rr
      cases r
      cases r'
      obtain ⟨its, rv, p1⟩ := sqx_is I1 hqx
      obtain ⟨its2, rv2, p2⟩ := sqx_is I1 hqy
      obtain ⟨o1, B1, g1⟩ := begX k1 a its.toArray
      obtain ⟨o2, B2, g2⟩ := begX k2 b its2.toArray
      have l1 := isx_lt p1
      have l2 := isx_lt p2
      refine zip_begins2 B1 B2 p1 p2 fun h' hz hTI hTO ho1 ho2 hsz hk => wpAny_pyIter_zip hz ?_
      have I2 : Inv X pins σ H1 { s1 with heap := h' } := I1.kept (t' := s1.toks) hk
      have D : ZpM (s1.heap.objs.size + 4) (s1.heap.objs.size + 2) (s1.heap.objs.size + 3) s1.heap.objs.size (s1.heap.objs.size + 1) a b :=
        ⟨zip_sep2 (fun c hc => by rw [List.mem_singleton.mp hc]; exact l1) (fun c hc => by rw [List.mem_singleton.mp hc]; exact l2), Nat.ne_of_lt l1, Nat.ne_of_lt (Nat.lt_succ_of_lt l2)⟩
      refine ⟨s1.heap.objs.size + 4, [s1.heap.objs.size + 4, s1.heap.objs.size + 2, s1.heap.objs.size + 3, s1.heap.objs.size, s1.heap.objs.size + 1], _, _, H1, rfl, I2, turn_zipM D, ⟨hz, hTI, ⟨_, _, hTO⟩, g1 _ _ ho1, g2 _ _ ho2⟩, fun c hcm => ?_, q⟩
      have e' : c = s1.heap.objs.size + 4 ∨ c = s1.heap.objs.size + 2 ∨ c = s1.heap.objs.size + 3 ∨ c = s1.heap.objs.size ∨ c = s1.heap.objs.size + 1 := by simpa using hcm
      have hle : s1.heap.objs.size ≤ c := by
        rcases e' with z | z | z | z | z
        · rw [z]; exact Nat.le_add_right _ _
        · rw [z]; exact Nat.le_add_right _ _
        · rw [z]; exact Nat.le_add_right _ _
        · rw [z]; exact Nat.le_refl _
        · rw [z]; exact Nat.le_add_right _ _
      exact I1.fpOk hle (I1.hok.fresh hle)
theorem walk_zipM {K : PySem.W.Frag} {k1 k2 : Bool} {a b : Addr} {xs ys : List V} (hl : xs.length = ys.length) : Walk (ItzM K k1 k2 a b) xs.length (fun H => SqX K H k1 a xs ∧ SqX K H k2 b ys) (YPair (fun i => xs[i]?) (fun i => ys[i]?)) := by
  refine ⟨fun i _ hi q => ⟨xs, ys, xs[i], ys[i], q.1, q.2, by simp [hi], by simp [hl ▸ hi]⟩, fun _ q => ⟨xs, ys, q.1, q.2, Nat.le_refl _, by omega, .inl rfl⟩, fun i H v H2 _ q y => ?_⟩
  obtain ⟨T, x, z, h1, h2, h3, h4, h5⟩ := y
  exact ⟨T, x, z, h1, h2, h3, h4 xs q.1, h5 ys q.2⟩
/-- readings that name the written part -/
theorem c_isi {X : Cx} {K : PySem.W.Frag} (h : X.K = K := by rfl) : CallR X (.builtin "isinstance") (rIsi K) := by
  subst h
  exact call_isi
theorem c_lenS {X : Cx} {K : PySem.W.Frag} (h : X.K = K := by rfl) : CallR X (.builtin "len") (fun xs H Q => ∃ p ys, xs = [.ref p] ∧ (SqL K H p ys ∨ SqT K H p ys) ∧ Q (.int ys.length) H) := by
  subst h
  exact call_len_seq
end WC

set_option maxHeartbeats 4000000
namespace WC
open PySem PySem.Spec PyProof.Rows L2
/-! small rules -/
theorem pe_mtr {X : Cx} {C : Addr} {m : Str} {j k : Nat} {sp : Sp} {E : XK} {o e : Expr} {es : List Expr} {ta : TE} {t : TA} {pos apos : Pos} {pl : Sem Bool} (D : MetR X.prog X.w X.K X.mg X.base C m k sp) (ho : PE X o ta) (hr : Room j X.A) (hx : Passes (L2.CX X.prog X.w) X E) (ha : PA X (e :: es) t) (hle : k ≤ j := by decide)
    (hst : starEach (e :: es) X.env = (false, eval e X.env) :: starEach es X.env := by rfl) (hpl : (backTo pos (starEach es X.env)).any (·.1) = false := by rfl)
    (ht : eval (.Call (.Attribute o m apos) (e :: es) [] pos) X.env = (do
      let ov ← eval o X.env
      standAt apos.atName
      let (f, first) ← holding [ov] (getMethod ov m pl)
      callWith pos f first (backTo pos (starEach (e :: es) X.env)) (backToKw pos (keywordEach [] X.env))) := by rfl) : PE X (.Call (.Attribute o m apos) (e :: es) [] pos) (tMeth C m sp [] E ta t) := by
  obtain ⟨f, fd, ps, c, hm, hb, F⟩ := D.ex
  exact pe_meth (pl := pl) ho c hm F (hr.mono hle) hb .nil hx ha hst hpl ht
theorem pe_mtr0 {X : Cx} {C : Addr} {m : Str} {j k : Nat} {sp : Sp} {E : XK} {o : Expr} {ta : TE} {pos apos : Pos} {pl : Sem Bool} (D : MetR X.prog X.w X.K X.mg X.base C m k sp) (ho : PE X o ta) (hr : Room j X.A) (hx : Passes (L2.CX X.prog X.w) X E) (hle : k ≤ j := by decide)
    (ht : eval (.Call (.Attribute o m apos) [] [] pos) X.env = (do
      let ov ← eval o X.env
      standAt apos.atName
      let (f, first) ← holding [ov] (getMethod ov m pl)
      callWith pos f first (backTo pos (starEach [] X.env)) (backToKw pos (keywordEach [] X.env))) := by rfl) : PE X (.Call (.Attribute o m apos) [] [] pos) (tMeth C m sp [] E ta tNil) := by
  obtain ⟨f, fd, ps, c, hm, hb, F⟩ := D.ex
  exact pe_meth0 (pl := pl) ho c hm F (hr.mono hle) hb .nil hx ht
/-- C(*e) -/
def tMake1 (K : PySem.W.Frag) (C : Addr) (sp : Sp) (E : XK) (te : TE) : TE := fun σ H Q => te σ H fun y H1 => ∃ a xs, y = V.ref a ∧ (SqT K H1 a xs ∨ SqL K H1 a xs) ∧ ∀ x dx, H1 x = none → H1 dx = none → dx ≠ x →
  sp (V.ref x :: xs) (upd (upd H1 dx (.own x)) x (.ins C dx [])) (fun v H2 => v = .non ∧ Q (.ref x) H2) E
theorem pe_ccs1 {X : Cx} {j k : Nat} {C : Addr} {sp : Sp} {E : XK} {x : Str} {e : Expr} {te : TE} {p sp_ pos : Pos} (D : ClsR X.prog X.w X.K X.mg X.base C k sp) (hm : X.mg x = some (.ref C)) (hr : Room j X.A) (hx : Passes (L2.CX X.prog X.w) X E) (he : PE X e te) (hle : k + 1 ≤ j := by decide) (hg : Gl X x := by rfl) (hdb : (x == ("__debug__" : Str)) = false := by decide)
    (hst : starEach [.Starred e sp_] X.env = [(true, eval e X.env)] := by rfl) : PE X (.Call (.Name x p) [.Starred e sp_] [] pos) (tMake1 X.K C sp E te) := by
  obtain ⟨f, M, F⟩ := D.ex
  refine ⟨fun pins s σ H Q I h => ?_⟩
  refine wpAny_Call_Name_kw (ld_glob I hg hm ?_ hdb)
  refine PySem.W.callWith_S (h₀ := X.base) I.ok.mod.kin M.kp (thn (he.run pins s σ H _ I h) fun v s1 ⟨y, H1, I1, ry, a, xs, ey, hxs, q⟩ => ?_) hst
  subst ey
  obtain rfl : v = Value.ref a := ry
  exact StX.star_any I1 hxs fun us s2 I2 rv => ⟨I2.kIn, StX.run_makeR M F (hr.mono hle) hx I2 rv q⟩
theorem pe_cvalK {X : Cx} {K : PySem.W.Frag} {e : Expr} {ta : TE} {f : Str} {pos : Pos} (he : PE X e ta) (hb : attributeBase e f X.env (eval e X.env) = eval e X.env := by rfl) (h : X.K = K := by rfl) : PE X (.Attribute e f pos) (ClX.tCVal K ta f) := by
  subst h
  exact ClX.pe_cval he hb
theorem pi_revK {X : Cx} {K : PySem.W.Frag} {tg e : Expr} {te : TE} {p pos : Pos} (hm : X.mg "reversed" = none) (he : PE X e te) (hg : Gl X "reversed" := by rfl) (hs : starEach [e] X.env = (false, eval e X.env) :: starEach [] X.env := by rfl) (h : X.K = K := by rfl) : PI X tg (.Call (.Name "reversed" p) [e] [] pos) (RT.iRevA K te) := by
  subst h
  exact RT.pi_revA hg hm he hs
theorem i_seq {X : Cx} {K : PySem.W.Frag} (h : X.K = K := by rfl) : IxR X (rIx K) := by
  subst h
  exact ix_seq
theorem walk_revT {K : PySem.W.Frag} {a : Addr} {xs : List V} : Walk (RT.ItvT K a xs.length) xs.length (fun H => SqT K H a xs) (fun i H x H' => H' = H ∧ xs[xs.length - 1 - i]? = some x) := by
  refine ⟨fun i _ hi q => ⟨hi, xs, xs[xs.length - 1 - i]'(by omega), q, by rw [List.getElem?_eq_getElem]⟩, fun _ q => Nat.le_refl _, fun i H v H2 _ q y => ⟨y.1, y.2 xs q⟩⟩
/-- an own error leaves: its dict is new, all else stands -/
def ErrX (E : XK) (C : Addr) (H : Hp) (fs : List (Str × V)) : Prop := ∀ H2 d, Same H H2 → H d = none → H2 d = some (.xd fs) → E (.ref C) (some d) H2
theorem ErrX.on {E : XK} {C : Addr} {H H1 : Hp} {fs : List (Str × V)} (h : ErrX E C H fs) (s : Same H H1) : ErrX E C H1 fs := fun H2 d s2 hd e => h H2 d (s.trans s2) (s.free hd) e
theorem ErrX.new {E : XK} {C : Addr} {H : Hp} {fs : List (Str × V)} (h : ErrX E C H fs) : ∀ d, H d = none → E (.ref C) (some d) (upd H d (.xd fs)) := fun d hd => h _ d (Same.new hd) hd upd_same
theorem fld4_none {m : Str} {a b c d : V} (h1 : m ≠ "stages") (h2 : m ≠ "channels") (h3 : m ≠ "_incoming") (h4 : m ≠ "_outgoing") : List.lookup m [(("stages" : Str), a), (("channels" : Str), b), (("_incoming" : Str), c), (("_outgoing" : Str), d)] = none := by
  simp only [List.lookup_cons, beq_eq_false_iff_ne.mpr h1, beq_eq_false_iff_ne.mpr h2, beq_eq_false_iff_ne.mpr h3, beq_eq_false_iff_ne.mpr h4, List.lookup_nil]
theorem bt_bool : bootBuiltins "bool" = some (.type "bool") := by decide +kernel
theorem bt_reversed : bootBuiltins "reversed" = some (.type "reversed") := by decide +kernel
end WC

set_option maxHeartbeats 4000000
namespace WC
open PySem PySem.Spec PyProof.Rows L2
/-! an own exception without fields: X(), and isinstance of it -/
structure ExcN (K : PySem.W.Frag) (mg : Str → Option Value) (x : Str) (C : Addr) : Prop where
  ex : ∃ B newId initId bmB, ExcBaseFacts B newId initId bmB ∧ PySem.W.excIn K C bmB newId = true
  gC : mg x = some (.ref C)
  kC : PySem.W.keepIn K (.ref C) = true
  sub : PySem.W.subIn K (.ref C) (.type "BaseException") = some true
  ty : PySem.W.typeIn K (.ref C) = some (.type "type")
def ErrN (E : XK) (C : Addr) (H : Hp) : Prop := ∀ H2, Same H H2 → E (.ref C) none H2
theorem ErrN.on {E : XK} {C : Addr} {H H1 : Hp} (h : ErrN E C H) (s : Same H H1) : ErrN E C H1 := fun H2 s2 => h H2 (s.trans s2)
section
variable {X : Cx} {x : Str} {C : Addr} {p pos : Pos}
theorem pmk_n (T : ExcN X.K X.mg x C) (hg : Gl X x := by rfl) (hdb : (x == ("__debug__" : Str)) = false := by decide) : PMk X (.Call (.Name x p) [] [] pos) (fun _ H Q => Q (.ref C) none H) := by
  obtain ⟨B, newId, initId, bmB, F, q⟩ := T.ex
  intro pins s σ H Q I h
  refine wpAny_Call_Name_kw (ld_glob I hg T.gC ?_ hdb)
  refine PySem.W.callWith_K0 I.kIn T.kC ?_
  show wpAny _ _ (call (.ref C) []) _ _ _
  obtain ⟨bm, N, nm, qn, bs, hdct, sn, sub, ab, col, dd, k0, k1, k2, k3, k5, mN, hC, hN, hni, Z⟩ := exc_obj I.kIn q
  refine wpAny_call_exc_subT F Z hC hN hni (fun h' e hm => ?_) (Nat.zero_le _)
  exact mk_of I hm (raises_own T.sub T.ty) h (I.hok.gone hm.new)
end
def rIsN (K : PySem.W.Frag) (D a : Addr) (cls : Value) (d : Option Addr) : List V → Hp → VK → Prop := fun xs H Q => ∃ (c : V) (cv : Value) (b : Bool), xs = [.ref a, c] ∧ ClsV c cv ∧ PySem.W.kitOne K (.ref D) cv = some b ∧ cls = .ref D ∧ d = none ∧ Q (.bl b) H
def rIsNT (K : PySem.W.Frag) (D a : Addr) (cls : Value) (d : Option Addr) : List V → Hp → VK → Prop := fun xs H Q => ∃ (tp : Addr) (cs : List V) (cvs : List Value) (b : Bool), xs = [.ref a, .ref tp] ∧ H tp = some (.tup cs) ∧ Paired ClsV cs cvs ∧ PySem.W.kitAny K (.ref D) cvs = some b ∧ cls = .ref D ∧ d = none ∧ Q (.bl b) H
section
variable {X : Cx} {a D : Addr} {oe : Obj} {cls : Value} {d : Option Addr} {pn : List (Addr × Obj)}
theorem inst_n {pins : List (Addr × Obj)} {σ : L2.St} {H : Hp} {s : Shared} (hz : Zc cls d oe) (hf : ∃ vs, oe.data = .fields vs) (I : Inv (X.suite a ((a, oe) :: pn)) pins σ H s) (ec : cls = .ref D) (ed : d = none) : PySem.W.InstAt s.heap a oe D none := by
  subst ec ed
  obtain ⟨hget, _⟩ := I.pin (a, oe) (List.mem_append_left _ List.mem_cons_self)
  obtain ⟨vs, hv⟩ := hf
  obtain ⟨oc, od, oda, osl⟩ := oe
  obtain ⟨h1, h2⟩ := hz
  dsimp only at h1 h2 hv
  subst h1 h2 hv
  exact ⟨hget, rfl, rfl, trivial⟩
theorem call_isN (C : ExcC X.K D) (hz : Zc cls d oe) (hf : ∃ vs, oe.data = .fields vs) : CallR (X.suite a ((a, oe) :: pn)) (.builtin "isinstance") (rIsN X.K D a cls d) := by
  intro pins s σ H xs us Q I r h
  obtain ⟨c, cv, b, rfl, hcv, e, ec, ed, q⟩ := h
  obtain ⟨u1, u2, rfl, r1, r2⟩ := vals2 r
  have e2 := hcv.eq r2
  subst e2
  obtain rfl : u1 = Value.ref a := r1
  exact PySem.W.kia_one (PySem.W.kitx_exc (exc_is C) C.hg C.hk C.hs C.ha C.hn C.ht C.hm) I.kIn (inst_n hz hf I ec ed) e (fun z => nomatch z) fun tk => ⟨.bl b, H, I.kept (t' := tk) fun _ _ z => z, rfl, q⟩
theorem call_isNT (C : ExcC X.K D) (hz : Zc cls d oe) (hf : ∃ vs, oe.data = .fields vs) : CallR (X.suite a ((a, oe) :: pn)) (.builtin "isinstance") (rIsNT X.K D a cls d) := by
  intro pins s σ H xs us Q I r h
  obtain ⟨tp, cs, cvs, b, rfl, hT, k, e, ec, ed, q⟩ := h
  obtain ⟨u1, u2, rfl, r1, r2⟩ := vals2 r
  obtain rfl : u1 = Value.ref a := r1
  cases (show u2 = Value.ref tp from r2)
  obtain ⟨_, its, rv, o, h1, h2, n, h3⟩ := (show ObjOk X.prog X.w H s.heap tp (.tup cs) from I.hok tp _ hT)
  have e3 := ClsV.all k rv
  subst e3
  obtain ⟨oc, od2, dt, sl⟩ := o
  simp only at h2 h3
  subst h2 h3
  exact PySem.W.kia_tup (PySem.W.kitx_exc (exc_is C) C.hg C.hk C.hs C.ha C.hn C.ht C.hm) I.kIn (inst_n hz hf I ec ed) h1 e (fun z => nomatch z) fun tk => ⟨.bl b, H, I.kept (t' := tk) fun _ _ z => z, rfl, q⟩
end
/-- a tuple of texts at the top -/
structure TupG (K : PySem.W.Frag) (mg : Str → Option Value) (x : Str) (xs : List V) : Prop where
  ex : ∃ a, mg x = some (.ref a) ∧ ∀ H : Hp, SqT K H a xs
end WC

set_option maxHeartbeats 4000000
namespace WC
open PySem PySem.Spec PyProof.Rows L2 L2H HotX
/-! lists gone over, and comprehensions, while an exception is handled -/
section
variable {prog : Program} {w : World} {A : Around} {E : Value → Shared → Prop} {s : Shared}
/-- a list iterator's end there: its StopIteration gets the handled one as its context -/
theorem list_out_hot {it l x1 : Addr} {i : Nat} {items : Array Value} {Q : Option Value → Shared → Prop} (hot : HotAt A x1 s.heap) (hi : s.heap.IsListIter it l i) (hl : s.heap.IsList l items) (ho : items[i]? = none)
    (q : ∀ g : Heap, (∀ b o, b ≠ it → s.heap.get? b = some o → g.get? b = some o) → Q none { s with heap := g }) : wpAny (model prog w) A (pyNext (.ref it)) Q E s := by
  obtain ⟨hh, oH, vH, gH, dH, cH⟩ := hot
  obtain ⟨oi, gi_, ci, di⟩ := id hi
  obtain ⟨ol, gl, _, nl, dl⟩ := hl
  have x1it : x1 ≠ it := fun z => by
    rw [z, gi_] at gH
    cases gH
    rw [di] at dH
    cases dH
    cases cH
  unfold pyNext
  refine wpAny_bind (wpAny_attempt (wpAny_callSpecial?_slot (name := Str.ofString "__next__") hi.typeIs slot_listiter_next (wpAny_call_entry slot_listiter_next hi.typeIs entry_listiter_next ?_ (args_listiter_next _))))
  show wpAny _ _ (field (.ref it) 0 >>= _) _ _ _
  refine wpAny_bind (wpAny_field gi_ di (x := .ref l) rfl ?_)
  show wpAny _ _ (if (Value.ref l == Value.none) = true then _ else _) _ _ _
  rw [if_neg (by simp : ¬ (Value.ref l == Value.none) = true)]
  show wpAny _ _ (field (.ref it) 1 >>= _) _ _ _
  refine wpAny_bind (wpAny_field gi_ di (x := .int i 0) rfl ?_)
  show wpAny _ _ (seqItems? (.ref l) >>= _) _ _ _
  refine wpAny_bind (wpAny_seqItems gl dl ?_)
  simp only [Int.toNat_natCast, ho]
  refine wpAny_bind (wpAny_rule (wpAny_bind (wpAny_setField gi_ di (by simp) ?_)))
  show wpAny _ _ (newExc (.type "StopIteration") [] >>= _) _ _ _
  simp only [newExc, newTuple]
  refine wpAny_bind (wpAny_bind (wpAny_newObj_type ?_ (by size_fits)))
  refine wpAny_bind (m := firstArgMember _ _) (wpAny_of_eq (a := Value.none) (by first | rfl | (simp only [firstArgMember]; rfl)) ?_)
  refine wpAny_newObj_type ?_ (by size_fits)
  have st : ∀ {b : Addr} {o : Obj} {f : Obj → Obj} {u1 u2 : Obj}, b ≠ it → s.heap.get? b = some o → (((s.heap.update it f).push u1).push u2).get? b = some o := fun {b o f u1 u2} n e => Heap.get?_push_of_some _ (Heap.get?_push_of_some _ (by rw [Heap.get?_update_other _ _ (Ne.symm n)]; exact e))
  refine raiseNew_hot ⟨hh, oH, vH, st x1it gH, dH, cH⟩ (Nat.ne_of_lt (Heap.lt_size (Heap.get?_push_of_some _ (by rw [Heap.get?_update_other _ _ (Ne.symm x1it)]; exact gH)))) (Heap.get?_push_size _ rfl) rfl (by first | (simp; done) | (simp; omega)) ?_
  refine wpAny_bind (wpAny_isInstance (T := "StopIteration") (b := true) ⟨_, Heap.get?_update_self _ (Heap.get?_push_size _ rfl) rfl, rfl⟩ isSubtype_stop ?_)
  refine wpAny_pure (q _ fun b o n e => ?_)
  rw [Heap.get?_update_other _ _ (Nat.ne_of_gt (Heap.lt_size (Heap.get?_push_of_some _ (by rw [Heap.get?_update_other _ _ (Ne.symm n)]; exact e))))]
  exact st n e
end
theorem turn_listH {P : Program} {w : World} {K : PySem.W.Frag} {tg : Expr} (a it : Addr) : TurnH P w K tg (Itl K a) [it] it (fun i h => h.IsListIter it a i) where
  mem := (turn_list (P := P) (w := w) (K := K) (tg := tg) a it).mem
  obj := (turn_list (P := P) (w := w) (K := K) (tg := tg) a it).obj
  keep := (turn_list (P := P) (w := w) (K := K) (tg := tg) a it).keep
  item := by
    rintro X rfl rfl rfl hc i pins s σ H E I hf st ⟨xs, x, hq, hx⟩
    obtain ⟨its, rv, p, _⟩ := I.list hq
    obtain ⟨u, hu, ru⟩ := rv.get hx
    obtain ⟨f0, f1, f2, f3, f4, f5⟩ := hf it (List.mem_singleton.mpr rfl)
    refine wpAny_pyNext_list_item st p.isList (x := u) (by simpa using hu) fun g sg sb => ?_
    have J : Inv X pins σ H { s with heap := g } := I.turned (t' := s.toks) (fun b o nb eb => (sb.2 b nb).trans eb) f0 f1 f3 f4 f5
    obtain ⟨o, e, c, d⟩ := id sg
    exact ⟨u, rfl, go_of (s := { s with heap := g }) e c d (by decide) ⟨x, H, J, ru, ⟨rfl, fun ys hy => by rw [I.list_inj hy hq]; exact hx⟩, sg, fun b hb => (hf b hb).1⟩⟩
  done := by
    rintro X rfl rfl rfl hc i pins s σ H E I hf st ⟨xs, hq, hx⟩
    obtain ⟨its, rv, p, _⟩ := I.list hq
    obtain ⟨f0, f1, f2, f3, f4, f5⟩ := hf it (List.mem_singleton.mpr rfl)
    have hl := rv.length
    obtain ⟨x1, hot⟩ := hc.at I
    exact list_out_hot hot st p.isList (by simp; omega) fun g eg => ⟨rfl, I.turned (t' := s.toks) (fun b o nb eb => eg b o nb eb) f0 f1 f3 f4 f5⟩
  self := (turn_list (P := P) (w := w) (K := K) (tg := tg) a it).self
theorem pi_listH {X : Cx} {tg l : Expr} {tl : TE} (hl : PE X l tl) : PIH X tg l (iList X.K tl) := by
  refine ⟨fun pins s σ H R I h => thn (hl.run pins s σ H _ I h) fun v s1 ⟨x, H1, I1, r1, a, ex, ⟨xs, hq⟩, q⟩ => ?_⟩
  subst ex
  cases r1
  obtain ⟨its, rv, p, _⟩ := I1.list hq
  refine wpAny_pyIter_list p.isList ⟨s1.heap.objs.size, [s1.heap.objs.size], _, _, H1, rfl, I1.kept (t' := s1.toks) fun b o e => Heap.get?_push_of_some _ e, turn_listH a _, ⟨_, Heap.get?_push_size _ rfl, rfl, rfl⟩, fun b hb => ?_, q⟩
  rw [List.mem_singleton.mp hb]
  exact I1.fpOk (Nat.le_refl _) (I1.hok.fresh (Nat.le_refl _))
end WC

set_option maxHeartbeats 4000000
namespace WC
open PySem PySem.Spec PyProof.Rows L2 L2H HotX
/-- a comprehension while an exception is handled: its block keeps the handled one among the pins -/
theorem pe_lcH {X : Cx} {elt tg iter : Expr} {ifs : List Expr} {scope : Scope} {own : List (Str × Nat)} {pos : Pos} {wi : TI} {g : TG} {tt : TT} {te : TE} (hc : HotC X) (hN : X.N.Nodup) (hi : PIH X tg iter wi) (ok : BlkOk X.N X.env.scope scope own)
    (hg : ∀ (s0 : Shared) (G : Hp) (C : Addr) (cl : List (Str × Addr)) (ip : List Addr), PG (X.blk s0 G scope (compEnvC scope cl C X.env) ip) tg g) (ht : ∀ (s0 : Shared) (G : Hp) (C : Addr) (cl : List (Str × Addr)) (ip : List Addr), PTs (X.blk s0 G scope (compEnvC scope cl C X.env) ip) ifs tt)
    (he : ∀ (s0 : Shared) (G : Hp) (C : Addr) (cl : List (Str × Addr)) (ip : List Addr), PE (X.blk s0 G scope (compEnvC scope cl C X.env) ip) elt te) (hs : ∀ x, foldedSetIterable iter X.env x = pure x := by intro _; rfl) :
    PE X (.ListComp elt [⟨tg, iter, ifs, 0⟩] scope pos) (tLc wi g tt te (own.map (·.2))) := by
  refine ⟨fun pins s σ H Q I h => ?_⟩
  rw [eval_ListComp]
  obtain ⟨p, hot, hp⟩ := hc
  have fr : ∀ y ∈ scope.names, y.2 = .free → ∃ c, X.env.cells.lookup y.1 = some c := fun y hy e => (ok.free y hy e).elim (fun k => I.ok.has _ (.inl k)) (fun k => I.ok.has _ (.inr k))
  refine wpAny_comprehension_free (use := none) rfl hs (closure_ok fr) ok.kind (fun y hy e => by rw [ok.uniq y hy, e]) (thn (hi.run pins s σ H _ I h) fun _ sA hx => thn hx fun _ sB hB => ?_)
  obtain ⟨it, ip, tn, J, HB, rfl, IB, T, tB, fB, q⟩ := hB
  refine wpAny_newObj_type (newEnv_comp ?_) (Nat.zero_le _)
  obtain ⟨D, eD⟩ : ∃ D, D = sB.heap.objs.size := ⟨_, rfl⟩
  rw [← eD]
  obtain ⟨W, ⟨m0, w0⟩, turn⟩ := q D (IB.hok.fresh (Nat.le_of_eq eD.symm))
  obtain ⟨sC, eC⟩ : ∃ sC : Shared, sC = { sB with heap := sB.heap.push { cls := .type "list", data := .seq ([] : List Value).toArray } } := ⟨_, rfl⟩
  have pC : sC.heap = sB.heap.push { cls := .type "list", data := .seq ([] : List Value).toArray } := by rw [eC]
  have IC : Inv X pins σ (upd HB D (.lst [])) sC := by
    rw [eC]
    exact IB.laid (t' := sB.toks) (fun b o e => Heap.get?_push_of_some _ e) (Nat.le_of_eq eD.symm) ⟨Nat.zero_le _, [], 0, .nil, by rw [eD]; exact Heap.get?_push_size _ rfl⟩
  have low : ∀ b ∈ ip, b < D := fun b hb => by
    obtain ⟨o, e, _⟩ := T.obj _ _ tB b hb
    rw [eD]
    exact Heap.lt_size e
  have fC : ∀ b ∈ ip, FpOk X pins (upd HB D (.lst [])) b ∧ b < sC.heap.objs.size := fun b hb => by
    refine ⟨⟨by rw [upd_ne (Nat.ne_of_lt (low b hb))]; exact (fB b hb).1, (fB b hb).2⟩, ?_⟩
    rw [pC, Heap.size_push, ← eD]
    exact Nat.lt_succ_of_lt (low b hb)
  have tC : tn 0 sC.heap := T.keep _ _ _ tB fun b _ o e => by rw [pC]; exact Heap.get?_push_of_some _ e
  have ID := block_start IC ok hN fC
  have kg := hg sC (upd HB D (.lst [])) sC.heap.objs.size (cellsFrom (sC.heap.objs.size + 1) scope.names (cloFrom X.env.cells scope.names [])) ip
  have kt := ht sC (upd HB D (.lst [])) sC.heap.objs.size (cellsFrom (sC.heap.objs.size + 1) scope.names (cloFrom X.env.cells scope.names [])) ip
  have ke := he sC (upd HB D (.lst [])) sC.heap.objs.size (cellsFrom (sC.heap.objs.size + 1) scope.names (cloFrom X.env.cells scope.names [])) ip
  -- the handled exception's object
  have hpC := IC.pin p (List.mem_append_left _ hp)
  have pFs : p.1 ∉ frs X.stack := fun hm => (List.mem_cons.mp (IC.stkSub p.1 hm)).elim hpC.2.2.1 hpC.2.2.2.1
  have pIp : ∀ b ∈ ip, p.1 ≠ b := fun b hb => (fC b hb).1.2.2.2.2.2 p (List.mem_append_left _ hp)
  rw [← eC]
  show codeAny _ _ (.compStart (.ListComp elt [⟨tg, iter, ifs, 0⟩] scope pos) 0 (.ref it) (.ref D) (compEnvC scope (cellsFrom (sC.heap.objs.size + 1) scope.names (cloFrom X.env.cells scope.names [])) sC.heap.objs.size X.env)) (compPost (model X.prog X.w) X.A X.xe none (EP X pins σ Q) (.ref D) sC.heap.objs.size) { sC with heap := pushCells (sC.heap.push { cls := .type "dict", data := .dict #[] }) scope.names }
  obtain ⟨ce, ece⟩ : ∃ ce, ce = compEnvC scope (cellsFrom (sC.heap.objs.size + 1) scope.names (cloFrom X.env.cells scope.names [])) sC.heap.objs.size X.env := ⟨_, rfl⟩
  have ceL : ce.locals = sC.heap.objs.size := by rw [ece]; rfl
  obtain ⟨HC, eHC⟩ : ∃ HC, HC = upd HB D (.lst []) := ⟨_, rfl⟩
  obtain ⟨sD, eSD⟩ : ∃ sD : Shared, sD = { sC with heap := pushCells (sC.heap.push { cls := .type "dict", data := .dict #[] }) scope.names } := ⟨_, rfl⟩
  rw [← ece, ← eHC] at kg kt ke
  rw [← ece, ← eHC, ← eSD] at ID
  rw [← eHC] at IC fC w0 hpC
  rw [← ece, ← eSD]
  have kp : ∀ {b : Addr} {o : Obj}, sC.heap.get? b = some o → sD.heap.get? b = some o := fun {b o} e => by rw [eSD]; exact pushCells_keeps _ _ _ _ (Heap.get?_push_of_some _ e)
  have tD : tn 0 sD.heap := T.keep _ _ _ tC fun b _ o e => kp e
  -- the block with the handled exception among its own pins
  obtain ⟨Y, eY⟩ : ∃ Y : Cx, Y = { X.blk sC HC scope ce ip with pn := [p] } := ⟨_, rfl⟩
  have toY : ∀ {ps : List (Addr × Obj)} {τ : L2.St} {G : Hp} {s' : Shared}, Inv (X.blk sC HC scope ce ip) (p :: ps) τ G s' → Inv Y ps τ G s' := fun {ps τ G s'} Z => by
    rw [eY]
    exact ⟨⟨Z.ok.mod, Z.ok.kind, Z.ok.glob, Z.ok.blt, Z.ok.above, Z.ok.inj, Z.ok.has, Z.ok.cab, Z.ok.hd, Z.ok.frames, Z.ok.stk, Z.ok.exf, Z.ok.bs, Z.ok.bsz, Z.ok.noex, Z.ok.exfs, Z.ok.funs, Z.ok.frf⟩, Z.os, Z.bare, Z.base, Z.loc, Z.cell, Z.free, Z.freeC, Z.pin, Z.hok, Z.len⟩
  have ofY : ∀ {ps : List (Addr × Obj)} {τ : L2.St} {G : Hp} {s' : Shared}, Inv Y ps τ G s' → Inv (X.blk sC HC scope ce ip) (p :: ps) τ G s' := fun {ps τ G s'} Z => by
    rw [eY] at Z
    exact ⟨⟨Z.ok.mod, Z.ok.kind, Z.ok.glob, Z.ok.blt, Z.ok.above, Z.ok.inj, Z.ok.has, Z.ok.cab, Z.ok.hd, Z.ok.frames, Z.ok.stk, Z.ok.exf, Z.ok.bs, Z.ok.bsz, Z.ok.noex, Z.ok.exfs, Z.ok.funs, Z.ok.frf⟩, Z.os, Z.bare, Z.base, Z.loc, Z.cell, Z.free, Z.freeC, Z.pin, Z.hok, Z.len⟩
  have hotY : HotC Y := by
    rw [eY]
    exact ⟨p, hot, List.mem_singleton.mpr rfl⟩
  have I0 : Inv (X.blk sC HC scope ce ip) [p] (wipe σ (own.map (·.2))) HC sD := ⟨ID.ok, ID.os, ID.bare, ID.base, ID.loc, ID.cell, ID.free, ID.freeC, fun z hz => by
    have ez : z = p := by
      rcases List.mem_append.mp hz with m | m
      · cases m
      · exact List.mem_singleton.mp m
    subst ez
    refine ⟨kp hpC.1, hpC.2.1, ?_, pFs, hpC.2.2.2.2⟩
    show z.1 ≠ ce.locals
    rw [ceL]
    exact Nat.ne_of_lt (Heap.lt_size hpC.1), ID.hok, ID.len⟩
  have okF : ∀ {τ : L2.St} {G : Hp} {s' : Shared}, Inv (X.blk sC HC scope ce ip) [p] τ G s' → (∀ b ∈ ip, G b = none) → ∀ b ∈ ip, FpOk Y [] G b := fun {τ G s'} Z zn b hb => by
    rw [eY]
    exact ⟨zn b hb, (Z.ok.exf b hb).1, Z.ok.exfs b hb, .inl hb, fun x c e => (Z.ok.exf b hb).2 x c e, fun z hz => by
      rcases List.mem_append.mp hz with m | m
      · rw [List.mem_singleton.mp m]; exact pIp b hb
      · cases m⟩
  have TY : TurnH Y.prog Y.w Y.K tg J ip it tn := by
    rw [eY]
    exact T
  have YA : Y.A = X.A := by rw [eY]
  have Ym : Y.prog = X.prog ∧ Y.w = X.w ∧ Y.K = X.K := by rw [eY]; exact ⟨rfl, rfl, rfl⟩
  have loop : codeAny (model X.prog X.w) X.A (.compLoop (.ListComp elt [⟨tg, iter, ifs, 0⟩] scope pos) 0 (.ref it) (.ref D) ce) (compPost (model X.prog X.w) X.A X.xe none (EP X pins σ Q) (.ref D) sC.heap.objs.size) sD := by
    refine compLoop_any (fun m s' => ∃ i G, Inv (X.blk sC HC scope ce ip) [p] (wipe σ (own.map (·.2))) G s' ∧ tn i s'.heap ∧ (∀ b ∈ ip, G b = none) ∧ W i m G) ?_ m0 ⟨0, HC, I0, tD, fun b hb => (fC b hb).1.1, w0⟩
    rintro m s5 ⟨i, G5, I5, t5, n5, w5⟩
    rcases turn i m G5 w5 with ⟨stop, qq⟩ | ⟨go, Nx, hNx, step⟩
    · have td := T.done Y Ym.1 Ym.2.1 Ym.2.2 hotY i [] s5 _ G5 (fun _ _ => False) (toY I5) (okF I5 n5) t5 stop
      rw [YA] at td
      refine thnF td fun r s6 ⟨er, J6⟩ => ?_
      subst er
      have I6 := ofY J6
      have I7 : Inv X pins σ G5 s6 := IC.call' (ch := ip) I6.os I6.base I6.hok I6.bare fun b hb => ⟨(fC b hb).1.2.2.2.1, (fC b hb).1.2.1, (fC b hb).1.2.2.2.2.1, (fC b hb).1.2.2.2.2.2⟩
      have nC : G5 sC.heap.objs.size = none := by
        rw [← ceL]
        exact I6.free
      obtain ⟨mm, hn, _⟩ := I6.loc
      have hn : s6.heap.Ns sC.heap.objs.size mm := by rw [← ceL]; exact hn
      obtain ⟨f0, f1, f2, f3, f4, f5⟩ := IC.fpOk (Nat.le_refl _) nC
      exact ⟨mm, hn, fun h'' sb => ⟨.ref D, G5, I7.turned (t' := s6.toks) (fun b o hb e => (sb.2 b hb).trans e) f0 f1 f3 f4 f5, rfl, qq⟩⟩
    · have tv := T.item Y Ym.1 Ym.2.1 Ym.2.2 hotY i [] s5 _ G5 (fun _ _ => False) (toY I5) (okF I5 n5) t5 go
      rw [YA] at tv
      refine thnF tv fun r s6 ⟨u, er, h6⟩ => ?_
      subst er
      refine thnF h6 fun _ s7 ⟨x, G7, J7, r7, y7, t7, n7⟩ => ?_
      have I7 := ofY ((J7).pinned (okF (ofY J7) n7) (T.obj _ _ t7))
      refine thnF (kg.run _ s7 _ G7 x u _ I7 r7 (step x G7 y7)) fun _ s8 ⟨τ8, G8, I8, hw8, q8⟩ => ?_
      refine thnF (kt.run _ s8 τ8 G8 _ I8 q8) fun b s9 ⟨G9, I9, q9⟩ => ?_
      have close : ∀ {s' : Shared} {G' : Hp}, Inv (X.blk sC HC scope ce ip) (p :: ([] ++ pinsAt ip s7.heap)) τ8 G' s' → Nx G' → ∃ m', m' < m ∧ ∃ i G, Inv (X.blk sC HC scope ce ip) [p] (wipe σ (own.map (·.2))) G s' ∧ tn i s'.heap ∧ (∀ b ∈ ip, G b = none) ∧ W i m' G := fun {s' G'} Z nx => by
        obtain ⟨m', lt, w'⟩ := hNx G' nx
        have at_ : ∀ b ∈ ip, ∀ o, s7.heap.get? b = some o → s'.heap.get? b = some o ∧ G' b = none := fun b hb o e =>
          ⟨(Z.pin (b, o) (List.mem_append_right _ (List.mem_cons_of_mem _ (List.mem_append_right _ (mem_pinsAt hb e))))).1, (Z.pin (b, o) (List.mem_append_right _ (List.mem_cons_of_mem _ (List.mem_append_right _ (mem_pinsAt hb e))))).2.1⟩
        have Z1 : Inv (X.blk sC HC scope ce ip) ([p] ++ pinsAt ip s7.heap) τ8 G' s' := Z
        refine ⟨m', lt, i + 1, G', (Z1.unpinned (pins := [p])).weak (by rw [← hw8, wipe_length]) (fun j v e => ?_), T.keep _ _ _ t7 fun b hb o e => (at_ b hb o e).1, fun b hb => ?_, w'⟩
        · rw [← hw8] at e
          exact (wipe_some e).1
        · obtain ⟨o, e, _⟩ := T.obj _ _ t7 b hb
          exact (at_ b hb o e).2
      cases b with
      | false => exact close I9 q9
      | true =>
        simp only [if_true] at q9 ⊢
        refine thnF (ke.run _ s9 τ8 G9 _ I9 q9) fun z sX ⟨yv, GX, IX, rX, acc, dX, lX, nx⟩ => ?_
        exact app_ok (X := X.blk sC HC scope ce ip) IX dX lX rX fun sY IY => close IY nx
  exact codeAny_compStart_list loop (T.self X.A 0 _ _ _ tD loop)
end WC

set_option maxHeartbeats 4000000
namespace WC
open PySem PySem.Spec PyProof.Rows L2 L2H HotX
/-! errors that are known to have no context (L2N), and defs called while one of them is handled -/
theorem okN {P : Program} {w : World} {K : PySem.W.Frag} {mg : Str → Option Value} {base : Heap} {x qual : Str} {st : Stmt} {f : Addr} {fd : FuncData} {N ps : List Str} {k : Nat} {sp : Sp} (F : Fun K x qual st f fd) (S : FnScope N ps (defScope st)) (len : ∀ vs H Q E, sp vs H Q E → vs.length = ps.length)
    (body : ∀ (cdv : Value) (A : Around) (outer : List Env) (s : Shared) (H : Hp) (vs : List V) (Q : VK) (E : XK), Room k (A.deeper (envOfC qual (defScope st) s.heap.objs.size f cdv)) → sp vs H Q E →
      ∃ t, PSs (cxOf (L2N.CX P w) P w K mg base N qual (defScope st) f cdv A outer s H E) (defBody st) t ∧ t { nx := fun _ H' => Q .non H', rt := Q } (start N vs) H) : FnOk P w K mg base (L2N.CX P w) (k + 1) f fd ps sp := by
  obtain ⟨oc, od, kV, doc, pm, an, cdv, ct, osl, rfl, lk, hcd⟩ := F.ex
  exact fn_of lk hcd S len fun A outer s H vs Q E hr hsp => body cdv A outer s H vs Q E hr hsp
theorem okH {P : Program} {w : World} {K : PySem.W.Frag} {mg : Str → Option Value} {base : Heap} {x qual : Str} {st : Stmt} {f : Addr} {fd : FuncData} {N ps : List Str} {k : Nat} {sp : Sp} (F : Fun K x qual st f fd) (S : FnScope N ps (defScope st)) (len : ∀ vs H Q E, sp vs H Q E → vs.length = ps.length)
    (body : ∀ (cdv : Value) (A : Around) (outer : List Env) (s : Shared) (H : Hp) (vs : List V) (Q : VK) (E : XK) (p : Addr × Obj), RoomH k (A.deeper (envOfC qual (defScope st) s.heap.objs.size f cdv)) → HotC (cxH (L2.CX P w) P w K mg base N qual (defScope st) f cdv A outer s H E p) → sp vs H Q E →
      ∃ t, PSs (cxH (L2.CX P w) P w K mg base N qual (defScope st) f cdv A outer s H E p) (defBody st) t ∧ t { nx := fun _ H' => Q .non H', rt := Q } (start N vs) H) : FnH P w K mg base (L2.CX P w) (k + 1) f fd ps sp := by
  obtain ⟨oc, od, kV, doc, pm, an, cdv, ct, osl, rfl, lk, hcd⟩ := F.ex
  exact fn_ofH lk hcd S len fun A outer s H vs Q E p hot hr hsp => body cdv A outer s H vs Q E p hr ⟨p, hot, List.mem_singleton.mpr rfl⟩ hsp
/-- a def of the module that lets out errors without context -/
structure DefN (P : Program) (w : World) (K : PySem.W.Frag) (mg : Str → Option Value) (base : Heap) (x : Str) (k : Nat) (sp : Sp) : Prop where
  ex : ∃ f, mg x = some (.ref f) ∧ PySem.W.keepIn K (.ref f) = true ∧ FnR P w K mg base (L2N.CX P w) k f sp
/-- a def of the module as it runs while an error is handled -/
structure DefH (P : Program) (w : World) (K : PySem.W.Frag) (mg : Str → Option Value) (base : Heap) (x : Str) (k : Nat) (sp : Sp) : Prop where
  ex : ∃ f fd ps, mg x = some (.ref f) ∧ PySem.W.keepIn K (.ref f) = true ∧ Binds K fd ps [] ∧ FnH P w K mg base (L2.CX P w) k f fd ps sp
section
variable {X : Cx} {j k n : Nat} {sp : Sp} {W : WX} {C : Addr} {x : Str} {e : Expr} {es : List Expr} {t ta : TA} {p pos : Pos} {fl : List V → List (Str × V)}
theorem pe_cdN (D : DefN X.prog X.w X.K X.mg X.base x k sp) (hr : Room j X.A) (tk : L2N.Takes X W) (ha : PA X (e :: es) t) (hle : k ≤ j := by decide) (hg : Gl X x := by rfl) (hdb : (x == ("__debug__" : Str)) = false := by decide)
    (he : starEach (e :: es) X.env = (false, eval e X.env) :: starEach es X.env := by rfl) (hpl : (backTo pos (starEach es X.env)).any (·.1) = false := by rfl) : PE X (.Call (.Name x p) (e :: es) [] pos) (fun σ H Q => t σ H fun vs H1 => sp vs H1 Q (WE W σ)) := by
  obtain ⟨f, hm, hk, F⟩ := D.ex
  refine ⟨fun pins s σ H Q I h => wpAny_Call_Name_kw (ld_glob I hg hm ?_ hdb)⟩
  refine PySem.W.callWith_K (h₀ := X.base) I.ok.mod.kin hk (thn (ha.run pos pins s σ H _ I h) fun us s1 ⟨vs, H1, I1, r, q⟩ => ⟨I1.kIn, wpAny_call ?_⟩) he hpl
  refine codeAny_mono (F X.A X.stack s1 H1 us vs Q (WE W σ) (hr.mono hle) I1.env0 r q) fun rr s' hq => ?_
  match rr, hq with
  | .error er, hq => exact tk er s' (L2N.XE.of_call I1 (fun _ _ _ z => z) hq)
  | .ok (.ret u), hq => exact I1.after hq
  | .ok .next, hq => exact False.elim hq
  | .ok .brk, hq => exact False.elim hq
  | .ok .cont, hq => exact False.elim hq
theorem pe_cdH (D : DefH X.prog X.w X.K X.mg X.base x k sp) (hr : RoomH j X.A) (hc : HotC X) (ha : PA X (e :: es) t) (hle : k ≤ j := by decide) (hg : Gl X x := by rfl) (hdb : (x == ("__debug__" : Str)) = false := by decide)
    (he : starEach (e :: es) X.env = (false, eval e X.env) :: starEach es X.env := by rfl) (hpl : (backTo pos (starEach es X.env)).any (·.1) = false := by rfl) : PE X (.Call (.Name x p) (e :: es) [] pos) (tCallS sp (fun _ => E0) t) := by
  obtain ⟨f, fd, ps, hm, hk, hb, F⟩ := D.ex
  exact pe_callH F (hr.mono hle) hc hg hm hk hb (fun σ pins H s er s' I c => passL pins σ H s er s' I c) ha hdb he hpl
/-- an own exception with fields, raised where none is handled: it has no context -/
theorem pmk_xN (T : ExcR X.prog X.w X.K X.mg X.base x C k n fl) (hr : Room j X.A) (ha : PA X (e :: es) ta) (hle : k + 1 ≤ j := by decide) (hg : Gl X x := by rfl) (hdb : (x == ("__debug__" : Str)) = false := by decide)
    (he : starEach (e :: es) X.env = (false, eval e X.env) :: starEach es X.env := by rfl) (hpl : (backTo pos (starEach es X.env)).any (·.1) = false := by rfl) : L2N.PMk X (.Call (.Name x p) (e :: es) [] pos) (tMkO C (spX C n fl) [] ta) := by
  obtain ⟨fI, fd, ps, iC, tI, hb, F1⟩ := T.ini
  have Z := T.txt
  have hr := hr.mono hle
  intro pins s σ H Q I h
  obtain ⟨nm, qn, N, bs, bm, sn, sub, ab, col, dd, k0, k1, k2, k3, k5, hC, hbm⟩ := Z.cls
  refine wpAny_Call_Name_kw (ld_glob I hg T.gC ?_ hdb)
  refine PySem.W.callWith_K (h₀ := X.base) I.ok.mod.kin Z.kC (thn (ha.run pos pins s σ H _ I h) fun us ⟨hp, g, dr, tk, os⟩ ⟨vs, H1, I1, r1, hz, q1⟩ => ⟨I1.kIn, ?_⟩) he hpl
  show wpAny _ _ (call (.ref C) us) _ _ _
  have up : hp.objs.size ≤ hp.objs.size + 1 := Nat.le_succ _
  have hn : H1 (hp.objs.size + 1) = none := I1.hok.fresh up
  have hq := q1 (hp.objs.size + 1) hn
  rw [List.append_nil] at hq
  obtain ⟨g2, eg2⟩ : ∃ g2 : Heap, g2 = (hp.push (PySem.W.kdv_tup us)).push (PySem.HandSPX.excO C hp.objs.size) := ⟨_, rfl⟩
  have kk : ∀ b o, hp.get? b = some o → g2.get? b = some o := fun b o e => by rw [eg2]; exact Heap.get?_push_of_some _ (Heap.get?_push_of_some _ e)
  have at_ : g2.get? (hp.objs.size + 1) = some (PySem.HandSPX.excO C hp.objs.size) := by
    rw [eg2]
    heap_get
  have I2 : Inv X pins σ (upd H1 (hp.objs.size + 1) (exo (hp.objs.size + 1) C none)) ⟨g2, g, dr, tk, os⟩ := I1.laid (t' := tk) (a := hp.objs.size + 1) (o := exo (hp.objs.size + 1) C none) (h' := g2) kk up (exo_ok at_)
  have r2 : Vals (V.ref (hp.objs.size + 1) :: vs) (Value.ref (hp.objs.size + 1) :: us) := .cons rfl r1
  have hl : ((Value.ref (hp.objs.size + 1) :: us) ++ []).length = ps.length := by
    rw [List.append_nil, ← F1.len _ _ _ _ hq]
    exact r2.length.symm
  have hus : us.length ≤ sizeLine := by
    rw [← Paired.length r1, sizeLine_eq]
    omega
  have bnd := hb _ (Value.ref (hp.objs.size + 1) :: us) I2.kIn hl
  rw [List.append_nil] at bnd
  rw [eg2] at I2 bnd
  refine wpAny_call (PySem.HandSPX.call_own F.excBase_ValueError (fun Y => PySem.HandSPX.refsVE_contains Y bm hbm) (I1.kIn _ _ hC) (PySem.W.looks_findIn I1.kIn iC) (fun self => PySem.W.bind_fn I1.kIn self tI) hus
    (codeAny_mono (F1.run _ X.stack _ _ ⟨Value.ref (hp.objs.size + 1) :: us, []⟩ (Value.ref (hp.objs.size + 1) :: us) _ _ (fun _ _ _ => False) (hr.make C us []) (I2.env0.make C us []) bnd r2 hq) fun rr s' hq' => ?_))
  match rr, s', hq' with
  | .error er, s', hq' => exact passL pins σ _ _ er s' I2 hq'
  | .ok (.ret u), ⟨h2, gg, d2, t2, os2⟩, hq' =>
    obtain ⟨v, H2, osE, bare, un, hok, rv, ev, d, fs, ea, ed, hd1, q2⟩ := hq'
    subst ev
    obtain ⟨t0, G, J, kG, ge, hoe, na⟩ := mk_end0 (d2 := d2) (t2 := t2) I1 up (by rw [← eg2]; exact kk) un hok osE bare ea ed hd1
    exact ⟨rv, hp.objs.size + 1, _, _, ⟨G, gg, d2, t2, os2⟩, _, .ref C, some d, rfl, J, kG, ge, hoe, ⟨rfl, rfl, fun ws e => by cases e; rfl⟩, rfl, rfl, na, rfl, bare, raises_own Z.exC Z.tyC, q2⟩
  | .ok .next, s', hq' => exact False.elim hq'
  | .ok .brk, s', hq' => exact False.elim hq'
  | .ok .cont, s', hq' => exact False.elim hq'
end
/-- what never raises may stand in either book -/
theorem off_N {P : Program} {w : World} {K : PySem.W.Frag} {mg : Str → Option Value} {base : Heap} {k : Nat} {f : Addr} {fd : FuncData} {ps : List Str} {sp : Sp} (F : FnOk P w K mg base (L2N.CX P w) k f fd ps sp) (h : ∀ vs H Q E, sp vs H Q E → sp vs H Q E0) : FnOk P w K mg base (L2.CX P w) k f fd ps sp := by
  refine ⟨F.len, fun A outer s H args us vs Q E hr e0 hb r q => codeAny_mono (F.run A outer s H args us vs Q E0 hr e0 hb r (h _ _ _ _ q)) fun rr s' hq => ?_⟩
  match rr, hq with
  | .error er, hq =>
    obtain ⟨_, _, _, _, _, _, _, _, _, _, _, _, z⟩ := hq
    exact z.elim
  | .ok (.ret u), hq => exact hq
  | .ok .next, hq => exact False.elim hq
  | .ok .brk, hq => exact False.elim hq
  | .ok .cont, hq => exact False.elim hq
/-- the handled error of a suite -/
theorem hot_suite {X : Cx} {a : Addr} {oe : Obj} {cls : Value} {d : Option Addr} {pn : List (Addr × Obj)} (hz : L2N.Zn cls d oe) (hf : ∃ vs, oe.data = .fields vs) : HotC (X.suite a ((a, oe) :: pn)) := by
  obtain ⟨vs, e⟩ := hf
  exact ⟨(a, oe), ⟨rfl, vs, e, hz.2.2 vs e⟩, List.mem_cons_self⟩
end WC

set_option maxHeartbeats 4000000
namespace WC
open PySem PySem.Spec PyProof.Rows L2 L2H HotX
/-! a tuple unpacked while an error is handled -/
section
variable {prog : Program} {w : World} {A : Around} {E : Value → Shared → Prop} {s : Shared}
theorem tup_out_hot {it t x1 : Addr} {i : Nat} {items : Array Value} {Q : Option Value → Shared → Prop} (hot : HotAt A x1 s.heap) (hi : IsTupIter s.heap it t i) (ht : IsTup s.heap t items) (ho : items[i]? = none)
    (q : ∀ g : Heap, (∀ b o, b ≠ it → s.heap.get? b = some o → g.get? b = some o) → Q none { s with heap := g }) : wpAny (model prog w) A (pyNext (.ref it)) Q E s := by
  obtain ⟨hh, oH, vH, gH, dH, cH⟩ := hot
  obtain ⟨oi, gi_, ci, di⟩ := id hi
  obtain ⟨ol, gl, _, nl, dl⟩ := ht
  have x1it : x1 ≠ it := fun z => by
    rw [z, gi_] at gH
    cases gH
    rw [di] at dH
    cases dH
    cases cH
  unfold pyNext
  refine wpAny_bind (wpAny_attempt (wpAny_callSpecial?_slot (name := Str.ofString "__next__") hi.typeIs slot_tupleiter_next (wpAny_call_entry slot_tupleiter_next hi.typeIs entry_tupleiter_next ?_ (args_tupleiter_next _))))
  show wpAny _ _ (field (.ref it) 0 >>= _) _ _ _
  refine wpAny_bind (wpAny_field gi_ di (x := .ref t) rfl ?_)
  show wpAny _ _ (if (Value.ref t == Value.none) = true then _ else _) _ _ _
  rw [if_neg (by simp : ¬ (Value.ref t == Value.none) = true)]
  show wpAny _ _ (field (.ref it) 1 >>= _) _ _ _
  refine wpAny_bind (wpAny_field gi_ di (x := .int i 0) rfl ?_)
  show wpAny _ _ (seqItems? (.ref t) >>= _) _ _ _
  refine wpAny_bind (wpAny_seqItems gl dl ?_)
  simp only [Int.toNat_natCast, ho]
  refine wpAny_bind (wpAny_rule (wpAny_bind (wpAny_setField gi_ di (by simp) ?_)))
  show wpAny _ _ (newExc (.type "StopIteration") [] >>= _) _ _ _
  simp only [newExc, newTuple]
  refine wpAny_bind (wpAny_bind (wpAny_newObj_type ?_ (by size_fits)))
  refine wpAny_bind (m := firstArgMember _ _) (wpAny_of_eq (a := Value.none) (by first | rfl | (simp only [firstArgMember]; rfl)) ?_)
  refine wpAny_newObj_type ?_ (by size_fits)
  have st : ∀ {b : Addr} {o : Obj} {f : Obj → Obj} {u1 u2 : Obj}, b ≠ it → s.heap.get? b = some o → (((s.heap.update it f).push u1).push u2).get? b = some o := fun {b o f u1 u2} n e => Heap.get?_push_of_some _ (Heap.get?_push_of_some _ (by rw [Heap.get?_update_other _ _ (Ne.symm n)]; exact e))
  refine raiseNew_hot ⟨hh, oH, vH, st x1it gH, dH, cH⟩ (Nat.ne_of_lt (Heap.lt_size (Heap.get?_push_of_some _ (by rw [Heap.get?_update_other _ _ (Ne.symm x1it)]; exact gH)))) (Heap.get?_push_size _ rfl) rfl (by first | (simp; done) | (simp; omega)) ?_
  refine wpAny_bind (wpAny_isInstance (T := "StopIteration") (b := true) ⟨_, Heap.get?_update_self _ (Heap.get?_push_size _ rfl) rfl, rfl⟩ isSubtype_stop ?_)
  refine wpAny_pure (q _ fun b o n e => ?_)
  rw [Heap.get?_update_other _ _ (Nat.ne_of_gt (Heap.lt_size (Heap.get?_push_of_some _ (by rw [Heap.get?_update_other _ _ (Ne.symm n)]; exact e))))]
  exact st n e
theorem unpack_hot {t x1 : Addr} {items : Array Value} {targets : List (Bool × (Value → Sem Unit))} {Q : Unit → Shared → Prop} (hot : HotAt A x1 s.heap) (ht : IsTup s.heap t items) (hn : targets.length = items.size) (hs : targets.findIdx? (·.1) = none)
    (h : ∀ g : Heap, (∀ b o, s.heap.get? b = some o → g.get? b = some o) → wpAny (model prog w) A (assignInOrder (targets.map (·.2)) items.toList) Q E { s with heap := g }) : wpAny (model prog w) A (unpack (.ref t) targets) Q E s := by
  have low : t ≠ s.heap.objs.size := by
    obtain ⟨o, e, _⟩ := ht
    exact Nat.ne_of_lt (Heap.lt_size e)
  unfold unpack
  rw [hn, hs]
  refine wpAny_bind (wpAny_holding ?_)
  unfold unpackItems notIterableAtAll
  refine wpAny_bind (wpAny_bind (wpAny_specialOf ht.typeIs slot_tuple_iter.lookup (wpAny_pure ?_)))
  simp only [Bool.false_eq_true, if_false]
  refine wpAny_bind (wpAny_holding (iter_tuple ht (wpAny_bind (wpAny_holding (draw_tuple low items.size 0 _ _ ⟨_, Heap.get?_push_size _ rfl, rfl, rfl⟩ (ht.push _) (by omega) fun g1 i1 b1 => ?_)))))
  rw [List.drop_zero, List.take_of_length_le (by simp), if_neg (by simp)]
  have keep1 : ∀ b o, s.heap.get? b = some o → g1.get? b = some o := fun b o e => b1.extBut b o (Nat.ne_of_lt (Heap.lt_size e)) (Heap.get?_push_of_some _ e)
  obtain ⟨hh, oH, vH, gH, dH, cH⟩ := hot
  refine wpAny_bind (wpAny_holding (tup_out_hot (x1 := x1) ⟨hh, oH, vH, keep1 _ _ gH, dH, cH⟩ i1 ((ht.push _).extBut b1.extBut low) (by simp) fun g2 e2 => ?_))
  simp only [Option.isSome_none, Bool.false_eq_true, if_false]
  exact wpAny_pure (h g2 fun b o e => e2 b o (Nat.ne_of_lt (Heap.lt_size e)) (keep1 b o e))
end
theorem pg_tupH {X : Cx} {es : List Expr} {k n : Nat} {t : TGs} {pos : Pos} (hc : HotC X) (h : PGs X es t) (hn : (assignEach es X.env).length = n := by rfl) (hs : (assignEach es X.env).findIdx? (·.1) = none := by rfl) : PG X (.Tuple es k pos) (gTup X.K n t) := by
  refine ⟨fun pins s σ H v u Q I r ⟨a, xs, e1, hq, hl, hw⟩ => ?_⟩
  subst e1
  cases r
  obtain ⟨its, rv, ht, _⟩ := I.tuple hq
  obtain ⟨x1, hot⟩ := hc.at I
  rw [assign_Tuple]
  refine wpAny_bind (wpAny_standAt (unpack_hot hot ht (by simp [hn, ← hl, rv.length]) hs fun g kg => ?_))
  exact h.run pins _ σ H xs _ Q (I.kept (t' := s.toks) fun b o e => kg b o e) (by simpa using rv) hw
end WC

set_option maxHeartbeats 4000000
namespace WC
open PySem PySem.Spec PyProof.Rows L2
/-! return e + super().m(); == by an own __eq__; a method kept raw -/
def tSup0 (C : Addr) (i : Nat) (sp : Sp) (E : XK) : TE := fun σ H Q => ∃ x dx fs, σ[i]? = some (some (.ref x)) ∧ H x = some (.ins C dx fs) ∧ sp [.ref x] H Q E
section
variable {X : Cx} {CX : CXT} {k i : Nat} {C D g : Addr} {sp : Sp} {E : XK} {e : Expr} {es : List Expr} {m slf : Str} {p0 p1 p2 p3 p4 p5 : Pos} {ta : TA} {te : TE} {body : List Stmt} {pl : Sem Bool}
theorem at_sup0 {pins : List (Addr × Obj)} {s : Shared} {σ : L2.St} {H : Hp} {Q : VK} (T : SupTxt X.prog X.K X.mg D C g m) (Z : SelfTxt X.prog X.K X.env D slf) (F : FnR X.prog X.w X.K X.mg X.base CX k g sp) (hr : Room k X.A) (hx : Passes CX X E) (hN : X.N[i]? = some slf) 
    (he : eval (.Call (.Attribute (.Call (.Name "super" p0) [] [] p1) m p2) [] [] p3) X.env = (do
      let ov ← attributeBase (.Call (.Name "super" p0) [] [] p1) m X.env (eval (.Call (.Name "super" p0) [] [] p1) X.env)
      standAt p2.atName
      let (f, first) ← holding [ov] (getMethod ov m pl)
      callWith p3 f first (backTo p3 (starEach [] X.env)) [])) 
    (I : Inv X pins σ H s) (h : tSup0 C i sp E σ H Q) : PySem.wpAt (model X.prog X.w) X.A (.func body X.env) (eval (.Call (.Attribute (.Call (.Name "super" p0) [] [] p1) m p2) [] [] p3) X.env) (EP X pins σ Q) X.xe s := by
  obtain ⟨x, dx, fs, hs, hH, ht⟩ := h
  obtain ⟨f, of1, of2, fd, of3, ar, ef, kf, hd, har⟩ := Z.fn
  obtain ⟨c, oc1, oc2, vs, oc3, file, tf, ec, kc, hvs, hfile⟩ := Z.cod
  obtain ⟨cc, k1, k2, k3, lcc, kcc⟩ := Z.lc
  obtain ⟨cdD, hD⟩ := T.dCls
  have K1 := I.kIn
  obtain ⟨oD, hD1, hD2⟩ : ∃ oD, s.heap.get? D = some oD ∧ oD.data = .cls cdD := by
    unfold PySem.W.clsIn at hD
    split at hD
    · rename_i a b cd' d ho
      cases hD
      exact ⟨_, K1 _ _ ho, rfl⟩
    · cases hD
  obtain ⟨_, O, _, _, _⟩ := ins_get I.hok hH
  have hob := O.1
  refine ks_wpAt_MethodCall ?_ he
  refine ks_wpAt_super_base Z.kS Z.kC T.nat ef (K1 _ _ kf) rfl hd ec (K1 _ _ kc) rfl hvs hfile T.top ?_
  obtain ⟨mb, hb1, hb2⟩ := I.mod.blt
  refine PySem.W.ks_loadName_global I.ok.kind Z.kS (Calls.loadGlobal_builtin (by rw [I.ok.glob]; exact I.mod.glob.keeps I.bk) T.sup (by rw [I.ok.blt]; exact hb1.keeps I.bk) ((hb2 _ (by decide)).trans (show bootBuiltins "super" = some (.type "super") by decide +kernel)) ⟨rfl, ?_⟩)
  refine wpAny_loadName_free I.ok.kind Z.kC lcc ⟨_, K1 _ _ kcc, rfl⟩ ?_
  obtain ⟨mL, hn, hl⟩ := id I.loc
  obtain ⟨u, ru, lu⟩ := hl i slf _ hN hs (.inl Z.kL)
  obtain rfl : u = Value.ref x := ru
  have hm : mL slf = some (.ref x) := by
    rcases lu with ⟨_, q⟩ | ⟨q, _⟩
    · exact q
    · rw [Z.kL] at q
      rcases q with q | q <;> cases q
  rw [har]
  refine wpAny_loadName_local I.ok.kind Z.kL hn hm ?_
  refine ks_wpAny_isType_cls hD1 hD2 ⟨rfl, ?_⟩
  refine ks_wpAny_call_super hD1 hD2 hob rfl (fun c e => by cases e) (PySem.W.looks_mroIn K1 T.sub) fun h1 e1 k1 => ?_
  have I1 : Inv X pins σ H { s with heap := h1, toks := s.toks } := I.kept (t' := s.toks) k1
  have K2 := I1.kIn
  have K2 : X.K.In h1 := K2
  cases hC : PySem.W.clsIn X.K C with
  | none =>
    have z := T.met
    unfold PySem.W.ks_superIn at z
    rw [hC] at z
    cases z
  | some cd =>
    have z := T.met
    unfold PySem.W.ks_superIn at z
    rw [hC] at z
    obtain ⟨og, hog, hogc⟩ : ∃ og, h1.get? g = some og ∧ og.cls = .type "function" := by
      have y : (X.K.lookup g).map (·.cls) = some (.type "function") := T.typ
      cases q : X.K.lookup g with
      | none => rw [q] at y; cases y
      | some og =>
        rw [q] at y
        exact ⟨og, K2 _ _ q, Option.some.inj y⟩
    have hxC : x ≠ C := by
      rintro rfl
      unfold PySem.W.clsIn at hC
      split at hC
      · rename_i a b cd' d ho
        have e := K1 _ _ ho
        rw [hob] at e
        cases e
      · cases hC
    refine ks_wpAny_getMethod_super e1 (PySem.W.looks_opaque K2 T.opq) (l₀ := cd.mro) (fun A Q E s k q => wpAny_bind ((PySem.W.looks_clsIn K2 hC) A _ E s k (wpAny_pure q))) rfl K2 z hog hogc hxC T.nat ?_
    have I2 := ClX.met_new (C := x) (g := g) I1
    exact PySem.W.callWith_M0 (K := X.K) (first := []) ⟨ClX.pin_at I2, I2.kIn⟩ T.fni (ClX.run_cm F hr hx I2 .nil ht)
/-- return e + super().m() -/
theorem px_retSup {op : Operator} {r : R2} (T : SupTxt X.prog X.K X.mg D C g m) (Z : SelfTxt X.prog X.K X.env D slf) (F : FnR X.prog X.w X.K X.mg X.base CX k g sp) (hr : Room k X.A) (hx : Passes CX X E) (hN : X.N[i]? = some slf) (he1 : PE X e te) (ho : OpR X (binaryOp op) r)
    (he : eval (.Call (.Attribute (.Call (.Name "super" p0) [] [] p1) m p2) [] [] p3) X.env = (do
      let ov ← attributeBase (.Call (.Name "super" p0) [] [] p1) m X.env (eval (.Call (.Name "super" p0) [] [] p1) X.env)
      standAt p2.atName
      let (f, first) ← holding [ov] (getMethod ov m pl)
      callWith p3 f first (backTo p3 (starEach [] X.env)) []) := by rfl) :
    PX X (.func body X.env) [.Return (some (.BinOp e op (.Call (.Attribute (.Call (.Name "super" p0) [] [] p1) m p2) [] [] p3) p4)) p5] (fun D0 σ H => te σ H fun x H1 => tSup0 C i sp E σ H1 fun y H2 => r x y H2 D0.rt) := by
  refine ⟨fun pins s σ H D0 I h => ks_wpAt_execs_cons (ks_wpAt_Return_some (ks_wpAt_BinOp2 (wpAt_of_wpAny (thn (he1.run pins s σ H _ I h) fun u s1 ⟨x, H1, I1, r1, q1⟩ => ?_))))⟩
  refine PySem.wpAt_mono (at_sup0 T Z F hr hx hN he I1 q1) (fun v s2 ⟨y, H2, I2, r2, q2⟩ => ?_) fun _ _ z => z
  refine thn (ho pins s2 σ H2 x y u v _ I2 r1 r2 q2) fun z s3 ⟨z1, H3, I3, r3, q3⟩ => ?_
  exact ⟨z1, σ, H3, I3, r3, q3⟩
end
end WC

set_option maxHeartbeats 4000000
namespace WC
open PySem PySem.Spec PyProof.Rows L2
/-- the classes CS have their == from the def at f -/
structure EqF (K : PySem.W.Frag) (CS : List Addr) (f : Addr) : Prop where
  at_ : ∀ C ∈ CS, PySem.W.findIn K (.ref C) "__eq__" = some (some (.ref f))
  fn : PySem.W.isFn K (.ref f) = true
  nf : ∀ C ∈ CS, ∀ D ∈ CS, PySem.W.notFirst K C (.ref D) = true
def rOwn (CS : List Addr) (sp : Sp) : R2 := fun x y H Q => ∃ (a b C D dx dy : Addr) (fs gs : List (Str × V)), C ∈ CS ∧ D ∈ CS ∧ x = .ref a ∧ y = .ref b ∧ H a = some (.ins C dx fs) ∧ H b = some (.ins D dy gs) ∧ sp [.ref a, .ref b] H (fun v H' => ∃ c, v = .bl c ∧ Q (.bl c) H') E0
theorem op_own {X : Cx} {n : Nat} {CS : List Addr} {f : Addr} {fd : FuncData} {ps : List Str} {sp : Sp} (T : EqF X.K CS f) (F : FnOk X.prog X.w X.K X.mg X.base (L2.CX X.prog X.w) n f fd ps sp) (hb : Binds X.K fd ps []) (hr : Room n X.A) : OpR X (compareOp .Eq) (rOwn CS sp) := by
  intro pins s σ H x y u v Q I rx ry ⟨a, b, C, D, dx, dy, fs, gs, hC, hD, ex, ey, ha, hb', q⟩
  subst ex ey
  cases rx
  cases ry
  show wpAny (model X.prog X.w) X.A (richCompare .Eq (.ref a) (.ref b)) (EP X pins σ Q) X.xe s
  obtain ⟨_, Ja, _⟩ := ins_get I.hok ha
  obtain ⟨_, Jb, _⟩ := ins_get I.hok hb'
  obtain ⟨oa, Ja, _⟩ := Ja.look
  obtain ⟨ob, Jb, _⟩ := Jb.look
  obtain ⟨m, fr⟩ := I.fr
  refine PySem.W.cmp_K (op := .Eq) (tb := .ref D) hr.units0 fr I.ok.mod.kin Ja Jb.type (T.nf C hC D hD) (T.at_ C hC) T.fn ?_
  have z := run_fn (ds := []) (dvs := []) (us := [.ref a, .ref b]) (vs := [.ref a, .ref b]) (E := E0) F hr hb .nil passL I (.cons rfl (.cons rfl .nil)) q
  refine wpAny_mono z (fun r s' ⟨w1, H1, I1, r1, c, ec, qc⟩ => ?_) fun _ _ e => e
  subst ec
  cases r1
  exact ⟨.bl c, H1, I1, rfl, qc⟩
/-- a method that is known raw (it may take *args) -/
structure MetV (P : Program) (w : World) (K : PySem.W.Frag) (mg : Str → Option Value) (base : Heap) (C : Addr) (m : Str) (k : Nat) (sp : Sp) : Prop where
  ex : ∃ f, Cls K C ∧ Meth K C m f ∧ FnR P w K mg base (L2.CX P w) k f sp
section
variable {X : Cx} {C : Addr} {m : Str} {j k : Nat} {sp : Sp} {E : XK} {W : WX} {o e : Expr} {es : List Expr} {ta : TE} {t : TA} {pos apos : Pos} {pl : Sem Bool}
theorem pe_mtv (D : MetV X.prog X.w X.K X.mg X.base C m k sp) (ho : PE X o ta) (hr : Room j X.A) (hx : Passes (L2.CX X.prog X.w) X E) (ha : PA X (e :: es) t) (hle : k ≤ j := by decide)
    (hst : starEach (e :: es) X.env = (false, eval e X.env) :: starEach es X.env := by rfl) (hpl : (backTo pos (starEach es X.env)).any (·.1) = false := by rfl)
    (ht : eval (.Call (.Attribute o m apos) (e :: es) [] pos) X.env = (do
      let ov ← eval o X.env
      standAt apos.atName
      let (f, first) ← holding [ov] (getMethod ov m pl)
      callWith pos f first (backTo pos (starEach (e :: es) X.env)) (backToKw pos (keywordEach [] X.env))) := by rfl) : PE X (.Call (.Attribute o m apos) (e :: es) [] pos) (tMeth C m sp [] E ta t) := by
  obtain ⟨f, c, hm, F⟩ := D.ex
  refine ⟨fun pins s σ H Q I h => ?_⟩
  refine PySem.W.methodCall_KW (pl := pl) (thn (ho.run pins s σ H _ I h) fun u s1 ⟨x, H1, I1, rx, a, dx, fs, ex, ea, l, q⟩ => ?_) ht
  subst ex
  obtain rfl : u = Value.ref a := rx
  refine getmeth_ok I1 ea c hm l ?_
  refine PySem.W.callWith_K (first := [.ref a]) (h₀ := X.base) I.ok.mod.kin hm.kp (thn (ha.run pos pins s1 σ H1 _ I1 q) fun us s2 ⟨vs, H2, I2, r, q2⟩ => ⟨I2.kIn, ?_⟩) hst hpl
  have q2 : sp (.ref a :: (vs ++ [])) H2 Q E := q2
  rw [List.append_nil] at q2
  exact wpAny_call (run_fnR (us := .ref a :: us) (vs := .ref a :: vs) F (hr.mono hle) hx I2 (.cons rfl r) q2)
end
end WC

set_option maxHeartbeats 4000000
/-! sorted of triples of ints, any number of them -/
namespace WC
open PySem PySem.Spec PyProof.Rows L2 SrtO Srt
abbrev I3 := Int × Int × Int
/-- by the first, then the second, then the third -/
def lex3 (p q : I3) : Bool := if p.1 = q.1 then (if p.2.1 = q.2.1 then decide (p.2.2 < q.2.2) else decide (p.2.1 < q.2.1)) else decide (p.1 < q.1)
theorem lex3_iff {p q : I3} : lex3 p q = true ↔ p.1 < q.1 ∨ (p.1 = q.1 ∧ (p.2.1 < q.2.1 ∨ (p.2.1 = q.2.1 ∧ p.2.2 < q.2.2))) := by
  unfold lex3
  by_cases e : p.1 = q.1
  · rw [if_pos e]
    by_cases e2 : p.2.1 = q.2.1
    · rw [if_pos e2, decide_eq_true_eq]; omega
    · rw [if_neg e2, decide_eq_true_eq]; omega
  · rw [if_neg e, decide_eq_true_eq]; omega
theorem lex3_no {p q : I3} : lex3 p q = false ↔ ¬ (p.1 < q.1 ∨ (p.1 = q.1 ∧ (p.2.1 < q.2.1 ∨ (p.2.1 = q.2.1 ∧ p.2.2 < q.2.2)))) := by
  rw [← lex3_iff]
  cases lex3 p q <;> simp
theorem swo3 {α : Type} (k : α → I3) : Swo fun v u => lex3 (k v) (k u) := by
  refine ⟨fun x y h => ?_, fun x y z h1 h2 => ?_⟩
  · have a := lex3_iff.mp h
    exact lex3_no.mpr (by omega)
  · have a := lex3_no.mp h1
    have b := lex3_no.mp h2
    exact lex3_no.mpr (by omega)
/-- v is a tuple of the three ints c -/
def IsTri (h : Heap) (v : Value) (c : I3) : Prop := ∃ a o t u r n, v = Value.ref a ∧ h.get? a = some o ∧ o.cls = .type "tuple" ∧ o.data = .seq #[.int c.1 t, .int c.2.1 u, .int c.2.2 r] n
theorem IsTri.keeps {h h' : Heap} {v : Value} {c : I3} (x : IsTri h v c) (k : ∀ b o, h.get? b = some o → o.cls = .type "tuple" → h'.get? b = some o) : IsTri h' v c := by
  obtain ⟨a, o, t, u, r, n, e, ho, hc, hd⟩ := x
  exact ⟨a, o, t, u, r, n, e, k a o ho hc, hc, hd⟩
section
variable {prog : Program} {w : World} {A : Around} {E : Value → Shared → Prop} {s : Shared}
theorem tri_cmp {vs : List Value} {k : Value → I3} (hp : ∀ v ∈ vs, IsTri s.heap v (k v)) : Cmp prog w A s (tuples' true) (fun p => p.1 ∈ vs) (lt2 fun v u => lex3 (k v) (k u)) := by
  intro p q hm hm'
  have h1 := hp _ hm
  have h2 := hp _ hm'
  show wpAny (model prog w) A (keyLt' (tuples' true) p.1 q.1) (fun r s' => s' = s ∧ r = lex3 (k p.1) (k q.1)) (fun _ _ => False) s
  unfold lex3
  generalize k p.1 = kp at h1 ⊢
  generalize k q.1 = kq at h2 ⊢
  obtain ⟨x, y, z⟩ := kp
  obtain ⟨x', y', z'⟩ := kq
  obtain ⟨a, o, t, u, r, n, e, ho, hc, hd⟩ := h1
  obtain ⟨a', o', t', u', r', n', e', ho', hc', hd'⟩ := h2
  rw [e, e']
  refine PySem.W.kat_lt ho hd ho' hd' ?_
  show PySem.W.KatLex prog w A true (decide (3 < 3)) _ [(.int x t, .int x' t'), (.int y u, .int y' u'), (.int z r, .int z' r')] 0 s
  dsimp only
  refine PySem.W.kat_cons (SeqAt.EqAt.int_int x t x' t' prog w _ _ ?_)
  refine PySem.W.kat_go (fun e1 => ?_) (fun e1 => ?_)
  · have ex : x = x' := by simpa using e1
    rw [if_pos ex]
    refine PySem.W.kat_yes (PySem.W.kat_cons (SeqAt.EqAt.int_int y u y' u' prog w _ _ ?_))
    refine PySem.W.kat_go (fun e2 => ?_) (fun e2 => ?_)
    · have ey : y = y' := by simpa using e2
      rw [if_pos ey]
      refine PySem.W.kat_yes (PySem.W.kat_cons (SeqAt.EqAt.int_int z r z' r' prog w _ _ ?_))
      refine PySem.W.kat_go (fun e3 => ?_) (fun e3 => ?_)
      · have ez : z = z' := by simpa using e3
        exact PySem.W.kat_yes (PySem.W.kat_nil ⟨rfl, (decide_eq_false (by omega)).symm⟩)
      · exact PySem.W.kat_no (PySem.W.kat_one _ _ (PyProof.Rows.lt_int ⟨rfl, rfl⟩))
    · have ey : ¬ y = y' := by simpa using e2
      rw [if_neg ey]
      exact PySem.W.kat_no (PySem.W.kat_one _ _ (PyProof.Rows.lt_int ⟨rfl, rfl⟩))
  · have ex : ¬ x = x' := by simpa using e1
    rw [if_neg ex]
    exact PySem.W.kat_no (oneLt_int ⟨rfl, rfl⟩)
theorem tri_firsts {h : Heap} : ∀ {vs : List Value}, (∀ v ∈ vs, ∃ c, IsTri h v c) → ∃ fs, PySem.W.KatTups h vs fs ∧ fs.length = vs.length ∧ ∀ f ∈ fs, ∃ x t, f = Value.int x t
  | [], _ => ⟨[], .nil, rfl, fun f hf => by cases hf⟩
  | v :: vs, hv => by
    obtain ⟨fs, h1, h2, h3⟩ := tri_firsts (vs := vs) fun u hu => hv u (List.mem_cons_of_mem _ hu)
    obtain ⟨c, a, o, t, u, r, n, e, ho, hc, hd⟩ := hv v List.mem_cons_self
    subst e
    refine ⟨.int c.1 t :: fs, .cons ho hc hd rfl h1, by rw [List.length_cons, List.length_cons, h2], fun f hf => ?_⟩
    rcases List.mem_cons.mp hf with e | hf
    · exact ⟨_, _, e⟩
    · exact h3 f hf
theorem tris_sortable {a : Addr} {vs : List Value} {k : Value → I3} (h0 : 0 < vs.length) (hp : ∀ v ∈ vs, IsTri s.heap v (k v)) (ha : ∀ o, s.heap.get? a = some o → o.cls ≠ .type "tuple") : SortableO prog w A s a vs fun v u => lex3 (k v) (k u) := by
  intro h' keep
  have hp' : ∀ v ∈ vs, IsTri h' v (k v) := fun v hm => (hp v hm).keeps fun b o e c => keep b o (fun z => by subst z; exact ha o e c) e
  obtain ⟨fs, h1, h2, h3⟩ := tri_firsts fun v hm => ⟨_, hp' v hm⟩
  refine ⟨tuples' true, fun Q E hq => ?_, tri_cmp hp'⟩
  refine PySem.W.kat_kind (T := .type "int") h1 (by omega) (fun f hm => ?_) (by rfl) ?_
  · obtain ⟨x, t, rfl⟩ := h3 f hm
    exact PySem.W.Looks.now
  · rw [show (Value.type "int" != Value.type "tuple") = true from by first | rfl | decide]
    exact hq
theorem sorted_tris {l : Addr} {vs : List Value} {k : Value → I3} {Q : Value → Shared → Prop} (hl : s.heap.IsList l vs.toArray) (hz : vs.length ≤ sizeLine) (hp : ∀ v ∈ vs, IsTri s.heap v (k v))
    (h : ∀ (h' : Heap) (d : Addr) (out : List Value), Srtd (fun v u => lex3 (k v) (k u)) out → Stb (fun v u => lex3 (k v) (k u)) out vs → (∀ b o, s.heap.get? b = some o → h'.get? b = some o) → s.heap.objs.size ≤ d → (∃ n, h'.get? d = some (seqObj "list" out.toArray n)) → Q (.ref d) { s with heap := h' }) :
    wpAny (model prog w) A (call (.builtin "sorted") [.ref l]) Q E s := by
  refine sorted_ord (swo3 k) hl hz (fun h2 h₁ a ha kk => ?_) fun out hs hb => ?_
  · refine tris_sortable (s := { s with heap := h₁ }) (by omega) (fun v hm => (hp v hm).keeps fun b o e _ => (kk b o e).2) fun o e => ?_
    rw [ha] at e
    cases e
    exact fun hcls => (by decide : ¬ ("list" : String) = "tuple") (Value.type.inj hcls)
  · exact h _ _ out hs hb (fun _ _ eu => sortedAll_old eu) (Nat.le_succ s.heap.objs.size) (sortedAll_at s.heap vs out.toArray)
end
/-- sorted(xs), xs a list of triples of ints (k says which): a new list of the same, none before a smaller one -/
def rSort3 (K : PySem.W.Frag) : List V → Hp → VK → Prop := fun vs H Q => ∃ (a : Addr) (xs : List V) (k : V → I3), vs = [V.ref a] ∧ SqL K H a xs ∧ (∀ x ∈ xs, ∃ t, x = V.ref t ∧ H t = some (.tup [.int (k x).1, .int (k x).2.1, .int (k x).2.2])) ∧
  ∀ (ys : List V) (p : Addr), ys.Perm xs → ys.Pairwise (fun x y => lex3 (k y) (k x) = false) → H p = none → Q (.ref p) (upd H p (.lst ys))
theorem cr_sort3 {X : Cx} {K : PySem.W.Frag} (hK : X.K = K := by rfl) : CallR X (.builtin "sorted") (rSort3 K) := by
  subst hK
  intro pins s σ H vs us Q I r h
  obtain ⟨a, xs, k, rfl, hs, hx, q⟩ := h
  obtain ⟨its, rv, hl, hz⟩ := I.list hs
  rw [Vals.ref1 r]
  obtain ⟨e1, e2⟩ := bkV_refs rv fun x m => by
    obtain ⟨t, e, _⟩ := hx x m
    exact ⟨t, e⟩
  refine sorted_tris (k := fun u => k (bkV u)) hl.isList (by rw [← rv.length]; exact hz) (fun v hv => ?_) fun h' d out h1 h2 kp hd hn => ?_
  · obtain ⟨t, rfl⟩ := e2 v hv
    have hm : V.ref t ∈ xs := by rw [e1]; exact List.mem_map.mpr ⟨_, hv, rfl⟩
    obtain ⟨t', e, ht⟩ := hx _ hm
    cases e
    obtain ⟨_, its2, r2, o, ho, hc, n, hd⟩ := (show ObjOk X.prog X.w H s.heap t (.tup _) from I.hok _ _ ht)
    cases r2 with
    | cons a1 r3 =>
      cases r3 with
      | cons a2 r4 =>
        cases r4 with
        | cons a3 r5 =>
          cases r5
          obtain ⟨t1, rfl⟩ := a1
          obtain ⟨t2, rfl⟩ := a2
          obtain ⟨t3, rfl⟩ := a3
          exact ⟨t, o, t1, t2, t3, n, rfl, ho, hc, hd⟩
  · have rf : ∀ u ∈ out, ∃ r, u = Value.ref r := fun u hu => e2 u ((h2.perm.mem_iff).mp hu)
    obtain ⟨n, hn⟩ := hn
    have hp : (out.map bkV).Perm xs := by
      rw [e1]
      exact h2.perm.map bkV
    refine ⟨.ref d, upd H d (.lst (out.map bkV)), I.laid (t' := s.toks) kp hd ⟨by rw [hp.length_eq]; exact hz, out, n, bkV_vals rf, hn⟩, rfl, q _ d hp ?_ (I.hok.fresh hd)⟩
    rw [List.pairwise_map]
    exact h1
end WC

set_option maxHeartbeats 8000000
namespace WC
open PySem PySem.Spec PyProof.Rows L2
/-- nobody has set another bound of digits -/
structure NoDig (K : PySem.W.Frag) : Prop where
  ex : ∃ (c : Value) (d : Option Addr) (es : Array DictEntry) (n : Nat) (sl : Array (Option Value)), K.lookup cStatics = some ⟨c, d, .dict es n, sl⟩ ∧ StrKeys es ∧ nsFind es "sys.int_max_str_digits" = none
theorem NoDig.nd {K : PySem.W.Frag} {h : Heap} (D : NoDig K) (X : K.In h) : h.NoDigits := by
  obtain ⟨c, d, es, n, sl, e, k, f⟩ := D.ex
  exact ⟨nsFind es, ⟨_, es, n, X _ _ e, rfl, k, fun _ => rfl⟩, f⟩
def tFmtI (sp : Str) (te : TE) : TE := fun σ H Q => te σ H fun x H1 => ∃ i : Int, x = .int i ∧ i.natAbs < 1000000000000000000 ∧ Q (.str (intSpecTextOf sp i)) H1
section
variable {X : Cx}
theorem pe_fmtI {e : Expr} {te : TE} {sp : Str} {k : Nat} {p1 p2 pos : Pos} (D : NoDig X.K) (he : PE X e te) (hok : intSpecOk sp = true) (hz : sp.length ≤ sizeLine) : PE X (.FormattedValue e (-1) (some (.JoinedStr [.Constant (.str sp) k p1] p2)) pos) (tFmtI sp te) := by
  refine ⟨fun pins s σ H Q I h => ?_⟩
  refine wpAny_FormattedValue_spec (thn (he.run pins s σ H _ I h) fun v s1 hv => ?_)
  obtain ⟨x, H1, I1, r1, i, rfl, hi, q⟩ := hv
  obtain ⟨t, rfl⟩ := r1
  refine wpAny_mono ((pe_joined1 pe_str).run pins s1 σ H1 (fun v H2 => v = .str sp ∧ H2 = H1) I1 ⟨rfl, rfl⟩) (fun r s2 h2 => ?_) fun _ _ x => x
  obtain ⟨y, H2, I2, r2, e1, e2⟩ := h2
  subst e1 e2
  obtain ⟨u, rfl⟩ := r2
  refine ⟨sp, u, rfl, formatField_int_specOf (D.nd I2.kIn) (lt_digitLimit_of_lt hi) hok (fun W _ _ => ⟨.str (intSpecTextOf sp i), _, I2.tok _, ⟨_, rfl⟩, q⟩) hz⟩
/-- an f-string of two parts or more, under a name of its own: a block reads it as one -/
def tJn (ts : List TE) : TE := fun σ H Q => tJs ts Str.empty σ H fun out H1 => Q (.str out) H1
theorem pe_joinN {v1 v2 : Expr} {rest : List Expr} {ts : List TE} {pos : Pos} (h : PJ X (v1 :: v2 :: rest) ts) : PE X (.JoinedStr (v1 :: v2 :: rest) pos) (tJn ts) := pe_joined h
theorem ix_kdictK {K : PySem.W.Frag} {w : World} (hK : X.K = K := by rfl) (hw : X.w = w := by rfl) : IxR X (rIxD K w) := by
  subst hK hw
  exact ix_kdict
end
end WC

set_option maxHeartbeats 8000000
namespace WC
open PySem PySem.Spec PyProof.Rows L2
theorem un65 {k : Nat} {A : Around} (r : Room k A) : A.units + 65 < cLine := by have := r.un; omega
theorem dep_n (ns : List Int) : PyData.depthAll (ns.map PyData.int) ≤ 3 := by
  induction ns with
  | nil => simp only [List.map_nil, PyData.depthAll]; omega
  | cons c cs ih => simp only [List.map_cons, PyData.depthAll, PyData.depth]; omega
theorem alike_n (ns : List Int) : PySem.W.AlikeAll (ns.map PyData.int) := by
  refine ⟨fun x hx y hy => ?_, fun x hx => ?_⟩
  · obtain ⟨a, _, rfl⟩ := List.mem_map.mp hx
    obtain ⟨b, _, rfl⟩ := List.mem_map.mp hy
    rfl
  · obtain ⟨a, _, rfl⟩ := List.mem_map.mp hx
    intro z
    cases z
theorem fold_min : ∀ (ns : List Int) (n : Int), ns.foldl min n ∈ n :: ns ∧ ∀ y ∈ n :: ns, ns.foldl min n ≤ y
  | [], n => ⟨List.mem_cons_self, fun y hy => by rw [List.mem_singleton.mp hy]; exact Int.le_refl _⟩
  | k :: r, n => by
    obtain ⟨h1, h2⟩ := fold_min r (min n k)
    have e : (k :: r).foldl min n = r.foldl min (min n k) := rfl
    rw [e]
    refine ⟨?_, fun y hy => ?_⟩
    · rcases List.mem_cons.mp h1 with z | z
      · rw [z]
        rcases Int.le_total n k with q | q
        · rw [Int.min_eq_left q]; exact List.mem_cons_self
        · rw [Int.min_eq_right q]; exact List.mem_cons_of_mem _ List.mem_cons_self
      · exact List.mem_cons_of_mem _ (List.mem_cons_of_mem _ z)
    · have h3 := h2 _ List.mem_cons_self
      rcases List.mem_cons.mp hy with z | hy
      · rw [z]; omega
      · rcases List.mem_cons.mp hy with z | hy
        · rw [z]; omega
        · exact h2 y (List.mem_cons_of_mem _ hy)
def rMinL (K : PySem.W.Frag) : List V → Hp → VK → Prop := fun vs H Q => ∃ (a : Addr) (ns : List Int), vs = [V.ref a] ∧ SqL K H a (ns.map V.int) ∧ 0 < ns.length ∧ ∀ m, m ∈ ns → (∀ y, y ∈ ns → m ≤ y) → Q (.int m) H
section
variable {X : Cx}
theorem dp_n {K : PySem.W.Frag} {H : Hp} : ∀ cs : List Int, DpAll K H (cs.map V.int) (cs.map PyData.int)
  | [] => .nil
  | c :: cs => .cons (.int c) (dp_n cs)
theorem cr_minL (hc : X.calm = true) (hu : X.A.units + 65 < cLine) : CallR X (.builtin "min") (rMinL X.K) := by
  intro pins s σ H vs us Q I r h
  obtain ⟨a, ns, rfl, hs, hne, q⟩ := h
  match ns, hne, hs, q with
  | n :: ns, _, hs, q =>
    obtain ⟨its, rv, ht, _⟩ := I.list hs
    rw [Vals.ref1 r]
    obtain ⟨as, hr⟩ := Dp.readsAll I _ _ its (dp_n (n :: ns)) rv
    have hd := dep_n (n :: ns)
    refine PySem.W.min_list_data (x := .int n) (xs := ns.map PyData.int) (I.ok.hd hc) (vs := its.toArray) ?_ (by simpa using hr) (alike_n (n :: ns)) (by show X.A.units + 1 + PyData.depthAll ((n :: ns).map PyData.int) < cLine; omega) fun i v h' tk bs _ hv hk => ?_
    · exact ht.isList
    · rw [PySem.W.minD_ints] at hv
      cases hv
      obtain ⟨h1, h2⟩ := fold_min ns n
      exact ⟨.int _, H, I.kept hk, ⟨_, rfl⟩, q _ h1 h2⟩
end
end WC

set_option maxHeartbeats 4000000
/-! t >= u of two tuples of ints -/
namespace WC
open PySem PySem.Spec PyProof.Rows L2
def rGeT (K : PySem.W.Frag) : R2 := fun x y H Q => ∃ (a b : Addr) (ns ms : List Int), x = .ref a ∧ y = .ref b ∧ SqT K H a (ns.map V.int) ∧ SqT K H b (ms.map V.int) ∧
  Q (.bl (Ob.lexAt (fun j => decide (ns.getD j 0 = ms.getD j 0)) (fun j => decide (ms.getD j 0 ≤ ns.getD j 0)) (decide (ns.length ≥ ms.length)) 0 (min ns.length ms.length))) H
theorem op_geT {X : Cx} (hu : X.A.units < cLine) : OpR X (compareOp .GtE) (rGeT X.K) := by
  rintro pins s σ H x y v u Q I rx ry ⟨a, b, ns, ms, rfl, rfl, ha, hb, q⟩
  cases rx
  cases ry
  obtain ⟨its, r1, p1, _⟩ := I.tuple ha
  obtain ⟨its2, r2, p2, _⟩ := I.tuple hb
  have i1 : IntsAre its ns := Vals.ints r1
  have i2 : IntsAre its2 ms := Vals.ints r2
  have e1 : its.toArray.size = ns.length := by rw [List.size_toArray]; exact i1.length
  have e2 : its2.toArray.size = ms.length := by rw [List.size_toArray]; exact i2.length
  have at1 : ∀ j (h1 : j < its.toArray.size), ∃ t, its.toArray[j] = .int (ns.getD j 0) t := fun j h1 => i1.int_at _ _ (by simp at h1; simp [h1])
  have at2 : ∀ j (h1 : j < its2.toArray.size), ∃ t, its2.toArray[j] = .int (ms.getD j 0) t := fun j h1 => i2.int_at _ _ (by simp at h1; simp [h1])
  have R := Ob.RcOp.tuples_ge (A := X.A) (s := s) (e := fun j => decide (ns.getD j 0 = ms.getD j 0)) (r := fun j => decide (ms.getD j 0 ≤ ns.getD j 0)) p1 p2 hu (fun j h1 h2 => by
    obtain ⟨t, f1⟩ := at1 j h1
    obtain ⟨t', f2⟩ := at2 j h2
    rw [f1, f2]
    have z : (ns.getD j 0 == ms.getD j 0) = decide (ns.getD j 0 = ms.getD j 0) := by
      by_cases q : ns.getD j 0 = ms.getD j 0
      · rw [decide_eq_true q, q, beq_self_eq_true]
      · rw [decide_eq_false q, beq_eq_false_iff_ne.mpr q]
    rw [← z]
    exact SeqAt.EqAt.int_int _ _ _ _) (fun j h1 h2 _ => by
    obtain ⟨t, f1⟩ := at1 j h1
    obtain ⟨t', f2⟩ := at2 j h2
    rw [f1, f2]
    exact Ob.RcOp.ge_int _ _ _ _)
  rw [e1, e2] at R
  exact (R X.prog X.w X.xe (EP X pins σ Q) ⟨.bl _, H, I, rfl, q⟩ : wpAny (model X.prog X.w) X.A (compareOp .GtE (.ref a) (.ref b)) (EP X pins σ Q) X.xe s)
end WC

set_option maxHeartbeats 4000000
/-! one sign, many times -/
namespace WC
open PySem PySem.Spec PyProof.Rows L2 SX
theorem rep_arr (c : Nat) : ∀ (m : Nat) (a : Array Nat), (List.replicate m #[c]).foldl (· ++ ·) a = (a.toList ++ List.replicate m c).toArray
  | 0, a => by simp
  | m + 1, a => by
    rw [List.replicate_succ, List.foldl_cons, rep_arr c m, List.replicate_succ]
    simp
theorem op_mulS {X : Cx} : OpR X (binaryOp .Mult) (fun x y H Q => ∃ (c : Nat) (n : Int), x = .str (S [c]) ∧ y = .int n ∧ 2 ≤ n ∧ n ≤ 100000 ∧ Q (.str (S (List.replicate n.toNat c))) H) := by
  rintro pins s σ H x y v u Q I rx ry ⟨c, n, rfl, rfl, h2, hn, q⟩
  obtain ⟨t, rfl⟩ := rx
  obtain ⟨t2, rfl⟩ := ry
  have n1 : ¬ n < 1 := by omega
  have e1 : ((S [c]).length : Nat) = 1 := S_len _
  have ne : (n == 1 || (S [c]).length == 0) = false := by
    rw [e1]
    simp
    omega
  refine P.mul_str (by simp; omega) (fun _ _ => ?_) (fun _ _ => ?_) ?_
  · rw [e1]
    have : (100000 : Int) ≤ (2 ^ 63 - 1) / 100000 := by decide
    have h3 : (1 : Int) ≤ (2 ^ 63 - 1) / n := by
      rw [Int.le_ediv_iff_mul_le (by omega)]
      omega
    omega
  · rw [e1]
    show decide _ = false
    refine decide_eq_false ?_
    exact Nat.not_lt.mpr (Nat.le_trans (show 1 * n.toNat ≤ 100000 by omega) (by decide))
  · rw [if_neg n1, ne, if_neg Bool.false_ne_true]
    have e2 : (⟨List.foldl (fun x1 x2 => x1 ++ x2) #[] (List.replicate n.toNat (S [c]).cps)⟩ : Str) = S (List.replicate n.toNat c) := by
      have := rep_arr c n.toNat #[]
      exact congrArg Str.mk this
    rw [e2]
    refine ⟨?_, .str _, H, I.tok _, ⟨_, rfl⟩, q⟩
    show (S (List.replicate n.toNat c)).length ≤ sizeLine
    rw [S_len, List.length_replicate]
    exact Nat.le_trans (show n.toNat ≤ 100000 by omega) (by decide)
end WC

set_option maxHeartbeats 4000000
namespace WC
open PySem PySem.Spec PyProof.Rows L2
def top (i : Nat) : Stmt := PySem.Challenge.pw_withincall_k08_whole_texts_refused.main.body.getD i (.Pass ⟨0, 0, 0, 0⟩)
abbrev s_InvalidNet_init : Stmt := inClass (top 3) 0
-- InvalidNet.__init__: slots 0 self, 1 reason, 2 position
abbrev nn_InvalidNet_init : List Str := ["self", "reason", "position"]
theorem sc_InvalidNet_init : FnScope ["self", "reason", "position"] ["self", "reason", "position"] (defScope s_InvalidNet_init) := ⟨rfl, rfl, rfl, by decide +kernel, rfl, by decide +kernel, by decide +kernel⟩
abbrev s_InvalidState_init : Stmt := inClass (top 4) 0
-- InvalidState.__init__: slots 0 self, 1 position
abbrev nn_InvalidState_init : List Str := ["self", "position"]
theorem sc_InvalidState_init : FnScope ["self", "position"] ["self", "position"] (defScope s_InvalidState_init) := ⟨rfl, rfl, rfl, by decide +kernel, rfl, by decide +kernel, by decide +kernel⟩
abbrev s_InvalidText_init : Stmt := inClass (top 6) 0
-- InvalidText.__init__: slots 0 self, 1 line
abbrev nn_InvalidText_init : List Str := ["self", "line"]
theorem sc_InvalidText_init : FnScope ["self", "line"] ["self", "line"] (defScope s_InvalidText_init) := ⟨rfl, rfl, rfl, by decide +kernel, rfl, by decide +kernel, by decide +kernel⟩
abbrev s_NotFound_init : Stmt := inClass (top 7) 0
-- NotFound.__init__: slots 0 self, 1 number
abbrev nn_NotFound_init : List Str := ["self", "number"]
theorem sc_NotFound_init : FnScope ["self", "number"] ["self", "number"] (defScope s_NotFound_init) := ⟨rfl, rfl, rfl, by decide +kernel, rfl, by decide +kernel, by decide +kernel⟩
abbrev s_is_between : Stmt := top 9
-- is_between: slots 0 value, 1 low, 2 high
abbrev nn_is_between : List Str := ["value", "low", "high"]
theorem sc_is_between : FnScope ["value", "low", "high"] ["value", "low", "high"] (defScope s_is_between) := ⟨rfl, rfl, rfl, by decide +kernel, rfl, by decide +kernel, by decide +kernel⟩
abbrev s_check_number : Stmt := top 10
-- check_number: slots 0 value, 1 many
abbrev nn_check_number : List Str := ["value", "many"]
theorem sc_check_number : FnScope ["value", "many"] ["value", "many"] (defScope s_check_number) := ⟨rfl, rfl, rfl, by decide +kernel, rfl, by decide +kernel, by decide +kernel⟩
abbrev s_Net_init : Stmt := inClass (top 13) 4
-- Net.__init__: slots 0 self, 1 stages, 2 channels, 3 channel
abbrev nn_Net_init : List Str := ["self", "stages", "channels", "channel"]
theorem sc_Net_init : FnScope ["self", "stages", "channels", "channel"] ["self", "stages", "channels"] (defScope s_Net_init) := ⟨rfl, rfl, rfl, by decide +kernel, rfl, by decide +kernel, by decide +kernel⟩
abbrev s_Net_is_capacity : Stmt := inClass (top 13) 5
-- Net.is_capacity: slots 0 value
abbrev nn_Net_is_capacity : List Str := ["value"]
theorem sc_Net_is_capacity : FnScope ["value"] ["value"] (defScope s_Net_is_capacity) := ⟨rfl, rfl, rfl, by decide +kernel, rfl, by decide +kernel, by decide +kernel⟩
abbrev s_Net_without : Stmt := inClass (top 13) 11
-- Net.without: slots 0 self, 1 channel, 2 others
abbrev nn_Net_without : List Str := ["self", "channel", "others"]
theorem sc_Net_without : FnScope ["self", "channel", "others"] ["self", "channel"] (defScope s_Net_without) := ⟨rfl, rfl, rfl, by decide +kernel, rfl, by decide +kernel, by decide +kernel⟩
abbrev s_Net_eq : Stmt := inClass (top 13) 13
-- Net.__eq__: slots 0 self, 1 other
abbrev nn_Net_eq : List Str := ["self", "other"]
theorem sc_Net_eq : FnScope ["self", "other"] ["self", "other"] (defScope s_Net_eq) := ⟨rfl, rfl, rfl, by decide +kernel, rfl, by decide +kernel, by decide +kernel⟩
abbrev s_Pipeline_init : Stmt := inClass (top 14) 0
-- Pipeline.__init__: slots 0 self, 1 stages, 2 capacity, 3 channels, 4 triples, 5 channel
abbrev nn_Pipeline_init : List Str := ["self", "stages", "capacity", "channels", "triples", "channel"]
theorem sc_Pipeline_init : CScope ["self", "stages", "capacity", "channels", "triples", "channel"] ["self", "stages", "capacity", "channels"] (defScope s_Pipeline_init) := ⟨rfl, rfl, rfl, by decide +kernel, rfl, by decide +kernel, by decide +kernel, by decide +kernel, by decide +kernel, by decide +kernel⟩
abbrev s_Pipeline_row : Stmt := inClass (top 14) 1
-- Pipeline.row: slots 0 cls, 1 capacities, 2 stages, 3 channels, 4 stage, 5 capacity
abbrev nn_Pipeline_row : List Str := ["cls", "capacities", "stages", "channels", "stage", "capacity"]
theorem sc_Pipeline_row : FnScope ["cls", "capacities", "stages", "channels", "stage", "capacity"] ["cls", "capacities"] (defScope s_Pipeline_row) := ⟨rfl, rfl, rfl, by decide +kernel, rfl, by decide +kernel, by decide +kernel⟩
abbrev s_Pipeline_is_ring : Stmt := inClass (top 14) 2
-- Pipeline.is_ring: slots 0 self
abbrev nn_Pipeline_is_ring : List Str := ["self"]
theorem sc_Pipeline_is_ring : FnScope ["self"] ["self"] (defScope s_Pipeline_is_ring) := ⟨rfl, rfl, rfl, by decide +kernel, rfl, by decide +kernel, by decide +kernel⟩
abbrev s_Ring_init : Stmt := inClass (top 15) 0
-- Ring.__init__: slots 0 self, 1 capacities, 2 stages, 3 position, 4 capacity, 5 channels, 6 stage
abbrev nn_Ring_init : List Str := ["self", "capacities", "stages", "position", "capacity", "channels", "stage"]
theorem sc_Ring_init : CScope ["self", "capacities", "stages", "position", "capacity", "channels", "stage"] ["self", "capacities"] (defScope s_Ring_init) := ⟨rfl, rfl, rfl, by decide +kernel, rfl, by decide +kernel, by decide +kernel, by decide +kernel, by decide +kernel, by decide +kernel⟩
abbrev s_Ring_is_ring : Stmt := inClass (top 15) 1
-- Ring.is_ring: slots 0 self
abbrev nn_Ring_is_ring : List Str := ["self"]
theorem sc_Ring_is_ring : FnScope ["self"] ["self"] (defScope s_Ring_is_ring) := ⟨rfl, rfl, rfl, by decide +kernel, rfl, by decide +kernel, by decide +kernel⟩
abbrev s_has_circle : Stmt := top 16
-- has_circle: slots 0 channels, 1 left, 2 fed, 3 _, 4 consumer, 5 kept, 6 channel
abbrev nn_has_circle : List Str := ["channels", "left", "fed", "_", "consumer", "kept", "channel"]
theorem sc_has_circle : FnScope ["channels", "left", "fed", "_", "consumer", "kept", "channel"] ["channels"] (defScope s_has_circle) := ⟨rfl, rfl, rfl, by decide +kernel, rfl, by decide +kernel, by decide +kernel⟩
abbrev s_numbers_at : Stmt := top 17
-- _numbers_at: slots 0 stages, 1 ends, 2 numbers, 3 _, 4 number, 5 stage, 6 row
abbrev nn_numbers_at : List Str := ["stages", "ends", "numbers", "_", "number", "stage", "row"]
theorem sc_numbers_at : FnScope ["stages", "ends", "numbers", "_", "number", "stage", "row"] ["stages", "ends"] (defScope s_numbers_at) := ⟨rfl, rfl, rfl, by decide +kernel, rfl, by decide +kernel, by decide +kernel⟩
abbrev s_joins_two_stages : Stmt := top 18
-- _joins_two_stages: slots 0 stages, 1 channel, 2 ends, 3 end
abbrev nn_joins_two_stages : List Str := ["stages", "channel", "ends", "end"]
theorem sc_joins_two_stages : FnScope ["stages", "channel", "ends", "end"] ["stages", "channel"] (defScope s_joins_two_stages) := ⟨rfl, rfl, rfl, by decide +kernel, rfl, by decide +kernel, by decide +kernel⟩
abbrev s_check_channels : Stmt := top 19
-- _check_channels: slots 0 stages, 1 channels, 2 earlier, 3 position, 4 channel
abbrev nn_check_channels : List Str := ["stages", "channels", "earlier", "position", "channel"]
theorem sc_check_channels : FnScope ["stages", "channels", "earlier", "position", "channel"] ["stages", "channels"] (defScope s_check_channels) := ⟨rfl, rfl, rfl, by decide +kernel, rfl, by decide +kernel, by decide +kernel⟩
abbrev s_with_capacity : Stmt := top 20
-- _with_capacity: slots 0 channel, 1 capacity, 2 own
abbrev nn_with_capacity : List Str := ["channel", "capacity", "own"]
theorem sc_with_capacity : FnScope ["channel", "capacity", "own"] ["channel", "capacity"] (defScope s_with_capacity) := ⟨rfl, rfl, rfl, by decide +kernel, rfl, by decide +kernel, by decide +kernel⟩
abbrev s_read_net : Stmt := top 24
-- read_net: slots 0 text, 1 lines, 2 word, 3 stages
abbrev nn_read_net : List Str := ["text", "lines", "word", "stages"]
theorem sc_read_net : FnScope ["text", "lines", "word", "stages"] ["text"] (defScope s_read_net) := ⟨rfl, rfl, rfl, by decide +kernel, rfl, by decide +kernel, by decide +kernel⟩
abbrev s_read_state : Stmt := top 25
-- read_state: slots 0 net, 1 text, 2 state, 3 word
abbrev nn_read_state : List Str := ["net", "text", "state", "word"]
theorem sc_read_state : FnScope ["net", "text", "state", "word"] ["net", "text"] (defScope s_read_state) := ⟨rfl, rfl, rfl, by decide +kernel, rfl, by decide +kernel, by decide +kernel⟩
abbrev s_read_moves : Stmt := top 26
-- read_moves: slots 0 net, 1 text, 2 moves, 3 word, 4 stage
abbrev nn_read_moves : List Str := ["net", "text", "moves", "word", "stage"]
theorem sc_read_moves : FnScope ["net", "text", "moves", "word", "stage"] ["net", "text"] (defScope s_read_moves) := ⟨rfl, rfl, rfl, by decide +kernel, rfl, by decide +kernel, by decide +kernel⟩
abbrev s_number : Stmt := top 27
-- _number: slots 0 word, 1 low, 2 high, 3 number
abbrev nn_number : List Str := ["word", "low", "high", "number"]
theorem sc_number : FnScope ["word", "low", "high", "number"] ["word", "low", "high"] (defScope s_number) := ⟨rfl, rfl, rfl, by decide +kernel, rfl, by decide +kernel, by decide +kernel⟩
abbrev s_read_head : Stmt := top 28
-- _read_head: slots 0 line, 1 word, 2 _, 3 digits, 4 stages
abbrev nn_read_head : List Str := ["line", "word", "_", "digits", "stages"]
theorem sc_read_head : FnScope ["line", "word", "_", "digits", "stages"] ["line"] (defScope s_read_head) := ⟨rfl, rfl, rfl, by decide +kernel, rfl, by decide +kernel, by decide +kernel⟩
abbrev s_read_channel : Stmt := top 29
-- _read_channel: slots 0 stages, 1 line, 2 words, 3 ends, 4 word, 5 capacity
abbrev nn_read_channel : List Str := ["stages", "line", "words", "ends", "word", "capacity"]
theorem sc_read_channel : FnScope ["stages", "line", "words", "ends", "word", "capacity"] ["stages", "line"] (defScope s_read_channel) := ⟨rfl, rfl, rfl, by decide +kernel, rfl, by decide +kernel, by decide +kernel⟩
abbrev s_read_pipeline : Stmt := top 30
-- _read_pipeline: slots 0 stages, 1 lines, 2 channels, 3 at, 4 line, 5 channel
abbrev nn_read_pipeline : List Str := ["stages", "lines", "channels", "at", "line", "channel"]
theorem sc_read_pipeline : FnScope ["stages", "lines", "channels", "at", "line", "channel"] ["stages", "lines"] (defScope s_read_pipeline) := ⟨rfl, rfl, rfl, by decide +kernel, rfl, by decide +kernel, by decide +kernel⟩
abbrev s_read_ring : Stmt := top 31
-- _read_ring: slots 0 stages, 1 lines, 2 capacities, 3 at, 4 line, 5 channel
abbrev nn_read_ring : List Str := ["stages", "lines", "capacities", "at", "line", "channel"]
theorem sc_read_ring : FnScope ["stages", "lines", "capacities", "at", "line", "channel"] ["stages", "lines"] (defScope s_read_ring) := ⟨rfl, rfl, rfl, by decide +kernel, rfl, by decide +kernel, by decide +kernel⟩
abbrev s_law_cell : Stmt := top 33
-- _law_cell: slots 0 script, 1 k
abbrev nn_law_cell : List Str := ["script", "k"]
theorem sc_law_cell : FnScope ["script", "k"] ["script", "k"] (defScope s_law_cell) := ⟨rfl, rfl, rfl, by decide +kernel, rfl, by decide +kernel, by decide +kernel⟩
abbrev s_law_bag : Stmt := top 34
-- _law_bag: slots 0 script, 1 k, 2 cell
abbrev nn_law_bag : List Str := ["script", "k", "cell"]
theorem sc_law_bag : FnScope ["script", "k", "cell"] ["script", "k"] (defScope s_law_bag) := ⟨rfl, rfl, rfl, by decide +kernel, rfl, by decide +kernel, by decide +kernel⟩
abbrev s_law_draw : Stmt := top 35
-- _law_draw: slots 0 bag, 1 many, 2 digit, 3 mixed
abbrev nn_law_draw : List Str := ["bag", "many", "digit", "mixed"]
theorem sc_law_draw : FnScope ["bag", "many", "digit", "mixed"] ["bag", "many"] (defScope s_law_draw) := ⟨rfl, rfl, rfl, by decide +kernel, rfl, by decide +kernel, by decide +kernel⟩
abbrev s_law_same : Stmt := top 36
-- _law_same: slots 0 told, 1 due
abbrev nn_law_same : List Str := ["told", "due"]
theorem sc_law_same : FnScope ["told", "due"] ["told", "due"] (defScope s_law_same) := ⟨rfl, rfl, rfl, by decide +kernel, rfl, by decide +kernel, by decide +kernel⟩
abbrev s_law_same_row : Stmt := top 37
-- _law_same_row: slots 0 told, 1 due, 2 k
abbrev nn_law_same_row : List Str := ["told", "due", "k"]
theorem sc_law_same_row : FnScope ["told", "due", "k"] ["told", "due"] (defScope s_law_same_row) := ⟨rfl, rfl, rfl, by decide +kernel, rfl, by decide +kernel, by decide +kernel⟩
abbrev s_law_same_rows : Stmt := top 38
-- _law_same_rows: slots 0 told, 1 due, 2 k
abbrev nn_law_same_rows : List Str := ["told", "due", "k"]
theorem sc_law_same_rows : FnScope ["told", "due", "k"] ["told", "due"] (defScope s_law_same_rows) := ⟨rfl, rfl, rfl, by decide +kernel, rfl, by decide +kernel, by decide +kernel⟩
abbrev s_law_order : Stmt := top 39
-- _law_order: slots 0 bag, 1 many, 2 left, 3 k, 4 row
abbrev nn_law_order : List Str := ["bag", "many", "left", "k", "row"]
theorem sc_law_order : FnScope ["bag", "many", "left", "k", "row"] ["bag", "many"] (defScope s_law_order) := ⟨rfl, rfl, rfl, by decide +kernel, rfl, by decide +kernel, by decide +kernel⟩
abbrev s_law_size : Stmt := top 40
-- _law_size: slots 0 bag, 1 wide, 2 way
abbrev nn_law_size : List Str := ["bag", "wide", "way"]
theorem sc_law_size : FnScope ["bag", "wide", "way"] ["bag", "wide"] (defScope s_law_size) := ⟨rfl, rfl, rfl, by decide +kernel, rfl, by decide +kernel, by decide +kernel⟩
abbrev s_law_links : Stmt := top 41
-- _law_links: slots 0 bag, 1 count, 2 wide, 3 turned, 4 found, 5 shape, 6 k, 7 first, 8 second, 9 many, 10 pair
abbrev nn_law_links : List Str := ["bag", "count", "wide", "turned", "found", "shape", "k", "first", "second", "many", "pair"]
theorem sc_law_links : FnScope ["bag", "count", "wide", "turned", "found", "shape", "k", "first", "second", "many", "pair"] ["bag", "count", "wide"] (defScope s_law_links) := ⟨rfl, rfl, rfl, by decide +kernel, rfl, by decide +kernel, by decide +kernel⟩
abbrev s_law_world : Stmt := top 42
-- _law_world: slots 0 bag, 1 wide, 2 count, 3 sizes, 4 k
abbrev nn_law_world : List Str := ["bag", "wide", "count", "sizes", "k"]
theorem sc_law_world : FnScope ["bag", "wide", "count", "sizes", "k"] ["bag"] (defScope s_law_world) := ⟨rfl, rfl, rfl, by decide +kernel, rfl, by decide +kernel, by decide +kernel⟩
abbrev s_law_net_text : Stmt := top 43
-- _law_net_text: slots 0 world, 1 lines, 2 a, 3 b, 4 size
abbrev nn_law_net_text : List Str := ["world", "lines", "a", "b", "size"]
theorem sc_law_net_text : FnScope ["world", "lines", "a", "b", "size"] ["world"] (defScope s_law_net_text) := ⟨rfl, rfl, rfl, by decide +kernel, rfl, by decide +kernel, by decide +kernel⟩
abbrev s_law_state_text : Stmt := top 44
-- _law_state_text: slots 0 state, 1 counter
abbrev nn_law_state_text : List Str := ["state", "counter"]
theorem sc_law_state_text : FnScope ["state", "counter"] ["state"] (defScope s_law_state_text) := ⟨rfl, rfl, rfl, by decide +kernel, rfl, by decide +kernel, by decide +kernel⟩
abbrev s_law_moves_text : Stmt := top 45
-- _law_moves_text: slots 0 row, 1 move
abbrev nn_law_moves_text : List Str := ["row", "move"]
theorem sc_law_moves_text : FnScope ["row", "move"] ["row"] (defScope s_law_moves_text) := ⟨rfl, rfl, rfl, by decide +kernel, rfl, by decide +kernel, by decide +kernel⟩
abbrev s_law_pairs : Stmt := top 46
-- _law_pairs: slots 0 count, 1 stride, 2 most, 3 pairs, 4 passed, 5 a, 6 b
abbrev nn_law_pairs : List Str := ["count", "stride", "most", "pairs", "passed", "a", "b"]
theorem sc_law_pairs : FnScope ["count", "stride", "most", "pairs", "passed", "a", "b"] ["count", "stride", "most"] (defScope s_law_pairs) := ⟨rfl, rfl, rfl, by decide +kernel, rfl, by decide +kernel, by decide +kernel⟩
abbrev s_law_number : Stmt := top 47
-- _law_number: slots 0 word, 1 least, 2 most
abbrev nn_law_number : List Str := ["word", "least", "most"]
theorem sc_law_number : FnScope ["word", "least", "most"] ["word", "least", "most"] (defScope s_law_number) := ⟨rfl, rfl, rfl, by decide +kernel, rfl, by decide +kernel, by decide +kernel⟩
abbrev s_law_link : Stmt := top 48
-- _law_link: slots 0 line, 1 count, 2 words, 3 a, 4 b, 5 size
abbrev nn_law_link : List Str := ["line", "count", "words", "a", "b", "size"]
theorem sc_law_link : FnScope ["line", "count", "words", "a", "b", "size"] ["line", "count"] (defScope s_law_link) := ⟨rfl, rfl, rfl, by decide +kernel, rfl, by decide +kernel, by decide +kernel⟩
abbrev s_law_leads : Stmt := top 49
-- _law_leads: slots 0 ends, 1 first, 2 last, 3 seen, 4 k, 5 left, 6 turn, 7 stage, 8 b
abbrev nn_law_leads : List Str := ["ends", "first", "last", "seen", "k", "left", "turn", "stage", "b"]
theorem sc_law_leads : FnScope ["ends", "first", "last", "seen", "k", "left", "turn", "stage", "b"] ["ends", "first", "last"] (defScope s_law_leads) := ⟨rfl, rfl, rfl, by decide +kernel, rfl, by decide +kernel, by decide +kernel⟩
abbrev s_law_fits : Stmt := top 50
-- _law_fits: slots 0 links, 1 ends, 2 link, 3 ring, 4 count
abbrev nn_law_fits : List Str := ["links", "ends", "link", "ring", "count"]
theorem sc_law_fits : FnScope ["links", "ends", "link", "ring", "count"] ["links", "ends", "link", "ring"] (defScope s_law_fits) := ⟨rfl, rfl, rfl, by decide +kernel, rfl, by decide +kernel, by decide +kernel⟩
abbrev s_law_read : Stmt := top 51
-- _law_read: slots 0 text, 1 lines, 2 words, 3 ring, 4 count, 5 links, 6 ends, 7 k, 8 link
abbrev nn_law_read : List Str := ["text", "lines", "words", "ring", "count", "links", "ends", "k", "link"]
theorem sc_law_read : FnScope ["text", "lines", "words", "ring", "count", "links", "ends", "k", "link"] ["text"] (defScope s_law_read) := ⟨rfl, rfl, rfl, by decide +kernel, rfl, by decide +kernel, by decide +kernel⟩
abbrev s_law_read_state : Stmt := top 52
-- _law_read_state: slots 0 text, 1 count, 2 row, 3 word
abbrev nn_law_read_state : List Str := ["text", "count", "row", "word"]
theorem sc_law_read_state : FnScope ["text", "count", "row", "word"] ["text", "count"] (defScope s_law_read_state) := ⟨rfl, rfl, rfl, by decide +kernel, rfl, by decide +kernel, by decide +kernel⟩
abbrev s_law_read_moves : Stmt := top 53
-- _law_read_moves: slots 0 text, 1 count, 2 row, 3 word, 4 stage
abbrev nn_law_read_moves : List Str := ["text", "count", "row", "word", "stage"]
theorem sc_law_read_moves : FnScope ["text", "count", "row", "word", "stage"] ["text", "count"] (defScope s_law_read_moves) := ⟨rfl, rfl, rfl, by decide +kernel, rfl, by decide +kernel, by decide +kernel⟩
abbrev s_law_refused_well : Stmt := top 54
-- _law_refused_well: slots 0 text, 1 bad, 2 world, 3 net, 4 refusal
abbrev nn_law_refused_well : List Str := ["text", "bad", "world", "net", "refusal"]
theorem sc_law_refused_well : FnScope ["text", "bad", "world", "net", "refusal"] ["text"] (defScope s_law_refused_well) := ⟨rfl, rfl, rfl, by decide +kernel, rfl, by decide +kernel, by decide +kernel⟩
abbrev s_law_state_asked : Stmt := top 55
-- _law_state_asked: slots 0 net, 1 text, 2 count, 3 due, 4 told, 5 refusal
abbrev nn_law_state_asked : List Str := ["net", "text", "count", "due", "told", "refusal"]
theorem sc_law_state_asked : FnScope ["net", "text", "count", "due", "told", "refusal"] ["net", "text", "count"] (defScope s_law_state_asked) := ⟨rfl, rfl, rfl, by decide +kernel, rfl, by decide +kernel, by decide +kernel⟩
abbrev s_law_moves_asked : Stmt := top 56
-- _law_moves_asked: slots 0 net, 1 text, 2 count, 3 due, 4 told, 5 refusal
abbrev nn_law_moves_asked : List Str := ["net", "text", "count", "due", "told", "refusal"]
theorem sc_law_moves_asked : FnScope ["net", "text", "count", "due", "told", "refusal"] ["net", "text", "count"] (defScope s_law_moves_asked) := ⟨rfl, rfl, rfl, by decide +kernel, rfl, by decide +kernel, by decide +kernel⟩
abbrev s_law_char_spoilt : Stmt := top 57
-- _law_char_spoilt: slots 0 bag, 1 text, 2 menu, 3 one, 4 place, 5 way
abbrev nn_law_char_spoilt : List Str := ["bag", "text", "menu", "one", "place", "way"]
theorem sc_law_char_spoilt : FnScope ["bag", "text", "menu", "one", "place", "way"] ["bag", "text"] (defScope s_law_char_spoilt) := ⟨rfl, rfl, rfl, by decide +kernel, rfl, by decide +kernel, by decide +kernel⟩
abbrev s_law_line : Stmt := top 58
-- _law_line: slots 0 bag, 1 lines
abbrev nn_law_line : List Str := ["bag", "lines"]
theorem sc_law_line : FnScope ["bag", "lines"] ["bag"] (defScope s_law_line) := ⟨rfl, rfl, rfl, by decide +kernel, rfl, by decide +kernel, by decide +kernel⟩
abbrev s_law_head : Stmt := top 59
-- _law_head: slots 0 bag, 1 sizes, 2 heads
abbrev nn_law_head : List Str := ["bag", "sizes", "heads"]
theorem sc_law_head : FnScope ["bag", "sizes", "heads"] ["bag"] (defScope s_law_head) := ⟨rfl, rfl, rfl, by decide +kernel, rfl, by decide +kernel, by decide +kernel⟩
abbrev s_law_line_bent : Stmt := top 60
-- _law_line_bent: slots 0 bag, 1 line, 2 menu, 3 words
abbrev nn_law_line_bent : List Str := ["bag", "line", "menu", "words"]
theorem sc_law_line_bent : FnScope ["bag", "line", "menu", "words"] ["bag", "line"] (defScope s_law_line_bent) := ⟨rfl, rfl, rfl, by decide +kernel, rfl, by decide +kernel, by decide +kernel⟩
abbrev s_law_link_put_in : Stmt := top 61
-- _law_link_put_in: slots 0 bag, 1 text, 2 bad, 3 world, 4 a, 5 b, 6 links, 7 link
abbrev nn_law_link_put_in : List Str := ["bag", "text", "bad", "world", "a", "b", "links", "link"]
theorem sc_law_link_put_in : FnScope ["bag", "text", "bad", "world", "a", "b", "links", "link"] ["bag", "text"] (defScope s_law_link_put_in) := ⟨rfl, rfl, rfl, by decide +kernel, rfl, by decide +kernel, by decide +kernel⟩
abbrev s_law_lines_spoilt : Stmt := top 62
-- _law_lines_spoilt: slots 0 bag, 1 text, 2 lines, 3 place, 4 other, 5 way, 6 kept
abbrev nn_law_lines_spoilt : List Str := ["bag", "text", "lines", "place", "other", "way", "kept"]
theorem sc_law_lines_spoilt : FnScope ["bag", "text", "lines", "place", "other", "way", "kept"] ["bag", "text"] (defScope s_law_lines_spoilt) := ⟨rfl, rfl, rfl, by decide +kernel, rfl, by decide +kernel, by decide +kernel⟩
abbrev s_law_words_spoilt : Stmt := top 63
-- _law_words_spoilt: slots 0 bag, 1 text, 2 menu, 3 words, 4 place, 5 other, 6 way
abbrev nn_law_words_spoilt : List Str := ["bag", "text", "menu", "words", "place", "other", "way"]
theorem sc_law_words_spoilt : FnScope ["bag", "text", "menu", "words", "place", "other", "way"] ["bag", "text"] (defScope s_law_words_spoilt) := ⟨rfl, rfl, rfl, by decide +kernel, rfl, by decide +kernel, by decide +kernel⟩
abbrev s_law_large : Stmt := top 64
-- _law_large: slots 0 bag, 1 first, 2 step, 3 way, 4 count, 5 links, 6 k, 7 sizes, 8 pairs
abbrev nn_law_large : List Str := ["bag", "first", "step", "way", "count", "links", "k", "sizes", "pairs"]
theorem sc_law_large : FnScope ["bag", "first", "step", "way", "count", "links", "k", "sizes", "pairs"] ["bag"] (defScope s_law_large) := ⟨rfl, rfl, rfl, by decide +kernel, rfl, by decide +kernel, by decide +kernel⟩
abbrev s_law_free : Stmt := top 65
-- _law_free: slots 0 bag, 1 pieces, 2 text, 3 k
abbrev nn_law_free : List Str := ["bag", "pieces", "text", "k"]
theorem sc_law_free : FnScope ["bag", "pieces", "text", "k"] ["bag"] (defScope s_law_free) := ⟨rfl, rfl, rfl, by decide +kernel, rfl, by decide +kernel, by decide +kernel⟩
abbrev s_law_nets_round : Stmt := top 66
-- _law_nets_round: slots 0 bag, 1 text, 2 most, 3 turn, 4 way
abbrev nn_law_nets_round : List Str := ["bag", "text", "most", "turn", "way"]
theorem sc_law_nets_round : FnScope ["bag", "text", "most", "turn", "way"] ["bag", "text", "most"] (defScope s_law_nets_round) := ⟨rfl, rfl, rfl, by decide +kernel, rfl, by decide +kernel, by decide +kernel⟩
abbrev s_law_words_round : Stmt := top 67
-- _law_words_round: slots 0 bag, 1 net, 2 count, 3 wide, 4 state, 5 k, 6 row, 7 texts, 8 turn, 9 text
abbrev nn_law_words_round : List Str := ["bag", "net", "count", "wide", "state", "k", "row", "texts", "turn", "text"]
theorem sc_law_words_round : FnScope ["bag", "net", "count", "wide", "state", "k", "row", "texts", "turn", "text"] ["bag", "net", "count"] (defScope s_law_words_round) := ⟨rfl, rfl, rfl, by decide +kernel, rfl, by decide +kernel, by decide +kernel⟩
abbrev s_law_round : Stmt := top 68
-- _law_round: slots 0 bag, 1 world, 2 text, 3 free, 4 net
abbrev nn_law_round : List Str := ["bag", "world", "text", "free", "net"]
theorem sc_law_round : FnScope ["bag", "world", "text", "free", "net"] ["bag"] (defScope s_law_round) := ⟨rfl, rfl, rfl, by decide +kernel, rfl, by decide +kernel, by decide +kernel⟩
abbrev s_law : Stmt := top 69
-- law: slots 0 script, 1 k
abbrev nn_law : List Str := ["script", "k"]
theorem sc_law : FnScope ["script", "k"] ["script"] (defScope s_law) := ⟨rfl, rfl, rfl, by decide +kernel, rfl, by decide +kernel, by decide +kernel⟩
end WC

set_option maxHeartbeats 4000000
namespace WC
open PySem PySem.Spec PyProof.Rows L2
/-- built-ins' names that the module leaves alone -/
structure Blt (mg : Str → Option Value) : Prop where
  isi : mg "isinstance" = none
  int : mg "int" = none
  bool : mg "bool" = none
  tuple : mg "tuple" = none
  list : mg "list" = none
  str : mg "str" = none
  len : mg "len" = none
  range : mg "range" = none
  sorted : mg "sorted" = none
  enum : mg "enumerate" = none
  sum : mg "sum" = none
  all : mg "all" = none
  max : mg "max" = none
  min : mg "min" = none
  verr : mg "ValueError" = none
/-- a value that the laws hand about: its type is known -/
def Known (K : PySem.W.Frag) (H : Hp) : V → Prop
  | .int _ => True
  | .bl _ => True
  | .non => True
  | .str _ => True
  | .ref a => (∃ xs, H a = some (.tup xs)) ∨ ∃ xs, H a = some (.lst xs)
  | _ => False
/-- the value's type -/
def tyN (H : Hp) : V → String
  | .int _ => "int"
  | .bl _ => "bool"
  | .non => "NoneType"
  | .str _ => "str"
  | .ref a => match H a with
    | some (.tup _) => "tuple"
    | _ => "list"
  | _ => "list"
theorem Known.ty {K : PySem.W.Frag} {H : Hp} {x : V} (k : Known K H x) : TyX K H x (.type (tyN H x)) := by
  cases x with
  | int i => exact .base (.int i)
  | bl b => exact .base (.bl b)
  | non => exact .base .non
  | str z => exact .base (.str z)
  | ref a =>
    rcases k with ⟨xs, e⟩ | ⟨xs, e⟩
    · have q : tyN H (.ref a) = "tuple" := by simp only [tyN, e]
      rw [q]
      exact .base (.tup e)
    · have q : tyN H (.ref a) = "list" := by simp only [tyN, e]
      rw [q]
      exact .base (.lst e)
  | byt b => exact k.elim
  | flt b => exact k.elim
  | ty n => exact k.elim
theorem tyN_ref {H : Hp} {a : Addr} : tyN H (.ref a) = "tuple" ∨ tyN H (.ref a) = "list" := by
  simp only [tyN]
  split
  · exact .inl rfl
  · exact .inr rfl
/-- an int within the bounds -/
def btw (x : V) (lo hi : Int) : Bool := match x with
  | .int i => decide (lo ≤ i) && decide (i ≤ hi)
  | _ => false
def isIV : V → Bool
  | .int _ => true
  | _ => false
def isBV : V → Bool
  | .bl _ => true
  | _ => false
theorem kb (a b : String) (r : Bool) (h : kitB a b = some r) {K : PySem.W.Frag} {t : String} (e : t = a) : PySem.W.kitOne K (.type t) (.type b) = some r := by
  rw [e]
  exact kit_ty h
theorem kit_int {K : PySem.W.Frag} {H : Hp} {x : V} (k : Known K H x) : PySem.W.kitOne K (.type (tyN H x)) (.type "int") = some (isIV x || isBV x) := by
  cases x with
  | int i => exact kb "int" "int" true (by decide +kernel) rfl
  | bl b => exact kb "bool" "int" true (by decide +kernel) rfl
  | non  => exact kb "NoneType" "int" false (by decide +kernel) rfl
  | str z => exact kb "str" "int" false (by decide +kernel) rfl
  | ref a =>
    rcases @tyN_ref H a with q | q
    · exact kb "tuple" "int" false (by decide +kernel) q
    · exact kb "list" "int" false (by decide +kernel) q
  | byt b => exact k.elim
  | flt b => exact k.elim
  | ty n => exact k.elim
theorem kit_bool {K : PySem.W.Frag} {H : Hp} {x : V} (k : Known K H x) : PySem.W.kitOne K (.type (tyN H x)) (.type "bool") = some (isBV x) := by
  cases x with
  | int i => exact kb "int" "bool" false (by decide +kernel) rfl
  | bl b => exact kb "bool" "bool" true (by decide +kernel) rfl
  | non  => exact kb "NoneType" "bool" false (by decide +kernel) rfl
  | str z => exact kb "str" "bool" false (by decide +kernel) rfl
  | ref a =>
    rcases @tyN_ref H a with q | q
    · exact kb "tuple" "bool" false (by decide +kernel) q
    · exact kb "list" "bool" false (by decide +kernel) q
  | byt b => exact k.elim
  | flt b => exact k.elim
  | ty n => exact k.elim
def spBtw (K : PySem.W.Frag) : Sp := fun vs H Q _ => ∃ (x : V) (lo hi : Int), vs = [x, .int lo, .int hi] ∧ Known K H x ∧ Q (.bl (btw x lo hi)) H
section
variable {P : Program} {w : World} {K : PySem.W.Frag} {mg : Str → Option Value} {base : Heap}
theorem ok_is_between {f : Addr} {fd : FuncData} (F : Fun K "is_between" "is_between" s_is_between f fd) (B : Blt mg) : FnOk P w K mg base (L2.CX P w) 1 f fd ["value", "low", "high"] (spBtw K) := by
  refine F.okX sc_is_between (fun vs H Q E h => ?_) (fun cdv A outer s H vs Q E hr h => ?_)
  · obtain ⟨x, lo, hi, rfl, _⟩ := h
    rfl
  · obtain ⟨x, lo, hi, rfl, hk, k⟩ := h
    refine ⟨_, pss_one (ps_ret (pe_and (pe_callB call_isi (by rfl) B.isi (by decide +kernel) (pa_cons (pv 0) (pa_cons (pe_bltn (v := .ty "int") (by rfl) B.int (by decide +kernel) rfl) pa_nil)))
      (pe_and (pe_not (pe_callB call_isi (by rfl) B.isi (by decide +kernel) (pa_cons (pv 0) (pa_cons (pe_bltn (v := .ty "bool") (by rfl) B.bool (by decide +kernel) rfl) pa_nil))))
        (pe_one (pe_chain op_le op_le (pv 1) (pv 0) (pv 2)))))), ?_⟩
    refine ⟨_, rfl, _, _, _, _, _, rfl, .ty _, hk.ty, kit_int hk, _, rfl, ?_⟩
    cases x with
    | int i =>
      refine iteT ⟨_, rfl, _, _, _, _, _, rfl, .ty _, hk.ty, kit_bool hk, _, rfl, _, rfl, ?_⟩
      refine iteT ⟨_, rfl, _, rfl, _, _, rfl, rfl, _, rfl, ?_⟩
      refine ite2 (fun e => ⟨_, rfl, _, _, rfl, rfl, ?_⟩) (fun e => ?_)
      · have q : btw (.int i) lo hi = decide (i ≤ hi) := by unfold btw; simp [e]
        rw [q] at k
        exact k
      · have q : btw (.int i) lo hi = false := by unfold btw; simp; intro z; simp [z] at e
        rw [q] at k
        exact k
    | bl b => exact iteT ⟨_, rfl, _, _, _, _, _, rfl, .ty _, hk.ty, kit_bool hk, _, rfl, _, rfl, iteF k⟩
    | non => exact iteF k
    | str z => exact iteF k
    | ref a => exact iteF k
    | byt b => exact hk.elim
    | flt b => exact hk.elim
    | ty n => exact hk.elim
end
end WC

set_option maxHeartbeats 4000000
namespace WC
open PySem PySem.Spec PyProof.Rows L2
def flN : List V → List (Str × V)
  | [v] => [("number", v)]
  | _ => []
section
variable {P : Program} {w : World} {K : PySem.W.Frag} {mg : Str → Option Value} {base : Heap}
theorem ok_NotFound_init {f C : Addr} {fd : FuncData} (F : Fun K "__init__" "NotFound.__init__" s_NotFound_init f fd) (T : OexC K C) (hno : PySem.W.findIn K (.ref C) "number" = some none) : FnOk P w K mg base (L2.CX P w) 1 f fd ["self", "number"] (spX C 1 flN) := by
  refine F.okX sc_NotFound_init (fun vs H Q E h => ?_) (fun cdv A outer s H vs Q E hr h => ?_)
  · obtain ⟨a, ws, rfl, hl, _⟩ := h
    simp [hl]
  · obtain ⟨a, ws, rfl, hl, ha, k⟩ := h
    match ws, hl with
    | [v], _ =>
      refine ⟨_, pss_one (ps_ost (pv 0) (pv 1)), ?_⟩
      exact ⟨_, rfl, _, rfl, a, C, rfl, T, hno, .inl ⟨ha, fun d hd hne => k d hd hne⟩⟩
/-- check_number(value, many): nothing, or NotFound(value) -/
def spCheckNumber (K : PySem.W.Frag) (CN : Addr) : Sp := fun vs H Q E => ∃ (x : V) (n : Int), vs = [x, .int n] ∧ Known K H x ∧
  (btw x 0 (n - 1) = true → Q .non H) ∧ (btw x 0 (n - 1) = false → ∀ d, H d = none → E (.ref CN) (some d) (upd H d (.xd [("number", x)])))
theorem ok_check_number {f CN : Addr} {fd : FuncData} {k : Nat} (F : Fun K "check_number" "check_number" s_check_number f fd) (G : DefR P w K mg base "is_between" 1 (spBtw K)) (T : ExcR P w K mg base "NotFound" CN 1 1 flN) : FnOk P w K mg base (L2.CX P w) 3 f fd ["value", "many"] (spCheckNumber K CN) := by
  refine F.okX sc_check_number (fun vs H Q E h => ?_) (fun cdv A outer s H vs Q E hr h => ?_)
  · obtain ⟨x, n, rfl, _⟩ := h
    rfl
  · obtain ⟨x, n, rfl, hk, k1, k2⟩ := h
    refine ⟨_, pss_one (ps_if (pt_not (pt_val (pe_cd G hr psE (pa_cons (pv 0) (pa_cons pe_int (pa_cons (pe_op op_sub (pv 1) pe_int) pa_nil)))))) (pss_one (ps_raise rfl (takes_of rfl rfl rfl rfl) (pmk_x T hr (pa_cons (pv 0) pa_nil)))) pss_nil), ?_⟩
    refine ⟨_, rfl, _, rfl, _, _, rfl, rfl, _, _, _, rfl, hk, _, rfl, ?_⟩
    cases e : btw x 0 (n - 1) with
    | true => exact iteF (k1 e)
    | false => exact iteT ⟨_, rfl, x_use rfl (by decide) fun d hd => k2 e d hd⟩
end
end WC

set_option maxHeartbeats 4000000
namespace WC
open PySem PySem.Spec PyProof.Rows L2
/-- _numbers_at(stages, ends) -/
def spNums : Sp := fun vs H Q _ => ∃ (n : Nat) (l : Addr) (es : List Int), vs = [.int n, .ref l] ∧ n ≤ 40 ∧ H l = some (.lst (es.map V.int)) ∧ es.length ≤ 1000 ∧ (∀ e ∈ es, 0 ≤ e ∧ e < n) ∧
  ∀ H2 r, Same H H2 → H r = none → RowsA H2 r n es → Q (.ref r) H2
/-- the rows while they are filled -/
structure Filling (H0 H : Hp) (D : Addr) (ls : List Addr) (n : Nat) (es : List Int) (m : Nat) : Prop where
  same : Same H0 H
  dN : H0 D = none
  dL : H D = some (.lst (ls.map V.ref))
  len : ls.length = n
  nod : ls.Nodup
  fresh : ∀ l ∈ ls, H0 l = none ∧ l ≠ D
  rows : ∀ (j : Nat) l, ls[j]? = some l → H l = some (.lst ((occ es (j : Int) m).map V.int))
section
variable {P : Program} {w : World} {K : PySem.W.Frag} {mg : Str → Option Value} {base : Heap}
theorem ok_numbers_at {f : Addr} {fd : FuncData} (F : Fun K "_numbers_at" "_numbers_at" s_numbers_at f fd) (B : Blt mg) : FnOk P w K mg base (L2.CX P w) 1 f fd ["stages", "ends"] spNums := by
  refine F.okX sc_numbers_at (fun vs H Q E h => ?_) (fun cdv A outer s H vs Q E hr h => ?_)
  · obtain ⟨n, l, es, rfl, _⟩ := h
    rfl
  · obtain ⟨n, l, es, rfl, hn, hl, hle, hes, k⟩ := h
    -- slots: 0 stages, 1 ends, 2 numbers, 3 _, 4 number, 5 stage, 6 row
    refine ⟨_, pss_cons (ps_setLc (i := 2) (own := [("_", 3)]) rfl sc_numbers_at.nd rfl rfl (sw_true rfl rfl rfl (by decide +kernel)) (pi_range1 (by rfl) B.range (pa_cons (pv 0) pa_nil)) (blkOk_by (N := nn_numbers_at) (sc := defScope s_numbers_at) (own := [("_", 3)]) (by decide +kernel))
        (fun _ _ _ _ _ => pg_name (i := 3) sc_numbers_at.nd rfl (Or.inl rfl)) (fun _ _ _ _ _ => pts_nil) (fun _ _ _ _ _ => pe_lst pa_nil))
      (pss_cons (ps_for (passes_of rfl) rfl (pi_enum (by rfl) B.enum (pa_cons (pv 1) pa_nil)) (pg_tup rfl (pgs_cons (pg_name (i := 4) sc_numbers_at.nd rfl (Or.inl rfl)) (pgs_cons (pg_name (i := 5) sc_numbers_at.nd rfl (Or.inl rfl)) pgs_nil)))
        (pss_one (ps_expr (pe_bm PySem.F.plainAttrs_list PySem.F.slot_list_append PySem.F.type_list_append mt_append (pe_ix ix_list (pv 2) (pv 5) (fun _ _ => rfl)) (pa_cons (pv 4) pa_nil)))))
      (pss_one (ps_ret (pe_callTy call_tuple_of (by rfl) B.tuple (by decide +kernel) (pa_cons
        (pe_lc (own := [("row", 6)]) rfl sc_numbers_at.nd (pi_list (pv 2)) (blkOk_by (N := nn_numbers_at) (sc := defScope s_numbers_at) (own := [("row", 6)]) (by decide +kernel)) (fun _ _ _ _ _ => pg_name (i := 6) sc_numbers_at.nd rfl (Or.inl rfl)) (fun _ _ _ _ _ => pts_nil)
          (fun _ _ _ _ _ => pe_callTy (T := "tuple") (c_tup (K := K)) (by rfl) B.tuple bt_tuple (pa_cons (pv 6) pa_nil))) pa_nil))))), ?_⟩
    -- numbers = [[] for _ in range(stages)]
    refine ⟨_, rfl, (n : Int), rfl, by omega, by omega, fun D hD => lc_range (lo := 0) (n := n) (fun i H2 => ∃ ls, Filling H H2 D ls i es 0) ⟨[], ?_⟩ ?_ ?_⟩
    · exact ⟨Same.new hD, hD, upd_same, rfl, List.nodup_nil, fun _ z => (by cases z), fun j l e => (by simp at e)⟩
    · rintro i H2 hi ⟨ls, Fl⟩
      refine ⟨rfl, ?_⟩
      refine yes ?_
      refine ⟨by decide, fun p hp => ⟨ls.map V.ref, ?_, ?_, ls ++ [p], ?_⟩⟩
      · rw [upd_ne (ne_of_none Fl.dL hp)]
        exact Fl.dL
      · rw [List.length_map, Fl.len]
        exact line_lt (by omega)
      · have pD : p ≠ D := (ne_of_none Fl.dL hp).symm
        have pH : H p = none := Fl.same.free hp
        refine ⟨(Fl.same.newer pH).newer hD, hD, by rw [upd_same, List.map_append]; rfl, by rw [List.length_append, Fl.len]; rfl, ?_, ?_, ?_⟩
        · rw [List.nodup_append]
          refine ⟨Fl.nod, by simp, fun a ha b hb e => ?_⟩
          have hb := List.mem_singleton.mp hb
          obtain ⟨j, hj⟩ := List.mem_iff_getElem?.mp ha
          have z := Fl.rows j a hj
          rw [e, hb, hp] at z
          cases z
        · intro l2 h2
          rcases List.mem_append.mp h2 with h2 | h2
          · exact Fl.fresh l2 h2
          · have e := List.mem_singleton.mp h2
            rw [e]
            exact ⟨pH, pD⟩
        · intro j l2 e
          by_cases hj : j < ls.length
          · rw [List.getElem?_append_left hj] at e
            have z := Fl.rows j l2 e
            have hm := List.mem_of_getElem? e
            rw [upd_ne (Fl.fresh l2 hm).2, upd_ne (ne_of_none z hp)]
            exact z
          · rw [List.getElem?_append_right (by omega)] at e
            have e1 : l2 = p := by
              cases q : j - ls.length with
              | zero => rw [q] at e; exact (Option.some.inj e).symm
              | succ m => rw [q] at e; cases e
            rw [e1, upd_ne pD, upd_same, occ_zero]
            rfl
    · -- for number, stage in enumerate(ends)
      rintro H2 ⟨ls, Fl⟩
      refine ⟨_, rfl, l, _, rfl, SqL.of (Fl.same _ _ hl), for_it (walk_enum (xs := es.map V.int)) (fun m σ H3 => ∃ v4 v5 v3 v6, σ = [some (.int n), some (.ref l), some (.ref D), v3, v4, v5, v6] ∧ ∃ ls, Filling H H3 D ls n es m) ⟨_, _, _, _, rfl, ls, Fl⟩ ?_ ?_ ?_⟩
      · rintro i σ H3 _ ⟨_, _, _, _, _, ls, Fl⟩
        exact SqL.of (Fl.same _ _ hl)
      · rintro i x σ H3 H4 hi ⟨v4, v5, v3, v6, rfl, ls, Fl⟩ ⟨T, x1, y1, rfl, hT, rfl, e1, e2⟩
        cases e1
        rw [List.length_map] at hi
        have he : es[i]? = some es[i] := by simp [hi]
        have e3 : y1 = V.int es[i] := by
          have e2 : (es.map V.int)[i]? = some y1 := e2
          rw [List.getElem?_map, he] at e2
          exact (Option.some.inj e2).symm
        subst e3
        obtain ⟨g0, g1⟩ := hes _ (List.mem_of_getElem? he)
        obtain ⟨j, hj⟩ : ∃ j : Nat, es[i] = (j : Int) := ⟨es[i].toNat, by omega⟩
        have hjn : j < ls.length := by rw [Fl.len]; omega
        have hlj : ls[j]? = some ls[j] := by simp [hjn]
        have rj := Fl.rows j _ hlj
        have fj := Fl.fresh _ (List.mem_of_getElem? hlj)
        have TD : D ≠ T := ne_of_none Fl.dL hT
        have Tj : ls[j] ≠ T := ne_of_none rj hT
        refine ⟨T, _, rfl, SqT.of upd_same, rfl, ?_⟩
        refine ⟨_, _, rfl, _, _, rfl, rfl, _, rfl, _, rfl, D, _, _, .ref ls[j], rfl, rfl, SqL.of (by rw [upd_ne TD]; exact Fl.dL), ?_, ?_⟩
        · rw [hj]
          exact atI_nat (by rw [List.getElem?_map, hlj]; rfl)
        refine ⟨.inl ⟨rfl, _, SqL.of (by rw [upd_ne Tj]; exact rj)⟩, _, rfl, ls[j], _, _, rfl, rfl, by rw [upd_ne Tj]; exact rj, ?_, ?_⟩
        · rw [List.length_map]
          exact line_lt (by have := occ_len es (j : Int) i; omega)
        refine ⟨_, _, _, _, rfl, ls, ?_⟩
        have hTH : H T = none := Fl.same.free hT
        have hit : occ es (j : Int) (i + 1) = occ es (j : Int) i ++ [(i : Int)] := occ_hit (by rw [he, hj])
        refine ⟨(Fl.same.newer hTH).newer fj.1, hD, by rw [upd_ne (Ne.symm fj.2), upd_ne TD]; exact Fl.dL, Fl.len, Fl.nod, Fl.fresh, fun q l2 e => ?_⟩
        by_cases hq : q = j
        · subst hq
          rw [hlj] at e
          cases e
          rw [upd_same, hit, List.map_append]
          rfl
        · have ne : l2 ≠ ls[j] := fun z => hq ((List.getElem?_inj (by have := (List.getElem?_eq_some_iff.mp e).1; omega) Fl.nod).mp (by rw [e, hlj, z]))
          have z := Fl.rows q l2 e
          rw [upd_ne ne, upd_ne (ne_of_none z hT), occ_miss (e := es[i]) he (by rw [hj]; omega)]
          exact z
      · -- the tuples
        rintro σ H3 ⟨v4, v5, v3, v6, rfl, ls, Fl⟩
        rw [List.length_map] at Fl
        refine ⟨_, rfl, D, rfl, ⟨_, SqL.of Fl.dL⟩, fun R hR => lc_list (K := K) (a := D) (xs := ls.map V.ref) (fun m H4 => Same H3 H4 ∧ ∃ ts : List V, H4 R = some (.lst ts) ∧ ts.length = m ∧ ∀ (j : Nat) v, ts[j]? = some v → ∃ t, v = .ref t ∧ H4 t = some (.tup ((occ es (j : Int) es.length).map V.int))) ⟨Same.new hR, [], upd_same, rfl, fun j v e => by simp at e⟩ (fun i H4 _ h4 => SqL.of (h4.1 _ _ Fl.dL)) ?_ ?_⟩
        · rintro i x H4 hx ⟨s4, ts, t1, t2, t3⟩
          rw [List.getElem?_map] at hx
          obtain ⟨lx, e1, e2⟩ : ∃ lx, ls[i]? = some lx ∧ x = V.ref lx := by
            cases q : ls[i]? with
            | none => rw [q] at hx; cases hx
            | some lx => rw [q] at hx; exact ⟨lx, rfl, (Option.some.inj hx).symm⟩
          subst e2
          refine ⟨rfl, ?_⟩
          refine yes ?_
          refine ⟨_, rfl, lx, _, rfl, .inl ⟨SqL.of (s4 _ _ (Fl.rows i lx e1)), fun p hp => ⟨ts, ?_, ?_, ?_, ts ++ [.ref p], upd_same, by rw [List.length_append, t2]; rfl, ?_⟩⟩⟩
          · rw [upd_ne (ne_of_none t1 hp)]
            exact t1
          · have : i < ls.length := (List.getElem?_eq_some_iff.mp e1).1
            have := Fl.len
            exact line_lt (by omega)
          · exact Same.newer (Same.newer s4 (Same.free s4 hp)) hR
          · have pR : p ≠ R := (ne_of_none t1 hp).symm
            intro j v e
            by_cases hj : j < ts.length
            · rw [List.getElem?_append_left hj] at e
              obtain ⟨t, q1, q2⟩ := t3 j v e
              have tR : t ≠ R := fun z => by
                rw [z, t1] at q2
                cases q2
              refine ⟨t, q1, ?_⟩
              rw [upd_ne tR, upd_ne (ne_of_none q2 hp)]
              exact q2
            · rw [List.getElem?_append_right (by omega)] at e
              have e1 : v = V.ref p ∧ j = i := by
                cases q : j - ts.length with
                | zero => rw [q] at e; exact ⟨(Option.some.inj e).symm, by omega⟩
                | succ m => rw [q] at e; cases e
              refine ⟨p, e1.1, ?_⟩
              rw [upd_ne pR, upd_same, e1.2]
        · rintro H4 ⟨s4, ts, t1, t2, t3⟩
          rw [List.length_map, Fl.len] at t2
          refine ⟨R, ts, rfl, .inl ⟨SqL.of t1, fun r hr2 => ?_⟩⟩
          have s5 : Same H H4 := Fl.same.trans s4
          refine k _ r (Same.newer s5 (Same.free s5 hr2)) (Same.free s5 hr2) ⟨ts, upd_same, t2, fun j v e => ?_⟩
          obtain ⟨t, q1, q2⟩ := t3 j v e
          exact ⟨t, q1, by rw [upd_ne (ne_of_none q2 hr2)]; exact q2⟩
end
end WC

set_option maxHeartbeats 4000000
namespace WC
open PySem PySem.Spec PyProof.Rows L2
theorem pr_perm {α β : Type} {F : α → β → Prop} {ys vs : List β} (p : ys.Perm vs) : ∀ {cs : List α}, Paired F cs vs → ∃ cs2 : List α, cs2.Perm cs ∧ Paired F cs2 ys := by
  induction p with
  | nil => intro cs h; exact ⟨cs, .refl _, h⟩
  | cons x p ih =>
    intro cs h
    cases h with
    | cons a t =>
      obtain ⟨c2, q, r⟩ := ih t
      exact ⟨_ :: c2, q.cons _, .cons a r⟩
  | swap x y l =>
    intro cs h
    cases h with
    | cons a t =>
      cases t with
      | cons b t => exact ⟨_, .swap _ _ _, .cons b (.cons a t)⟩
  | trans p q ih1 ih2 =>
    intro cs h
    obtain ⟨c2, q1, r1⟩ := ih2 h
    obtain ⟨c3, q2, r2⟩ := ih1 r1
    exact ⟨c3, q2.trans q1, r2⟩
def key (c : Tri) : Int := (c.1 * 1000 + c.2.1) * 1000 + c.2.2
/-- a channel of a net of n stages -/
def ChOk (n : Nat) (c : Tri) : Prop := (0 ≤ c.1 ∧ c.1 < n) ∧ (0 ≤ c.2.1 ∧ c.2.1 < n) ∧ c.1 ≠ c.2.1 ∧ 1 ≤ c.2.2 ∧ c.2.2 ≤ 999
structure NetAt (H : Hp) (x C : Addr) (n : Nat) (cs : List Tri) : Prop where
  ex : ∃ dx tc ti to vs, H x = some (.ins C dx [("stages", .int n), ("channels", .ref tc), ("_incoming", .ref ti), ("_outgoing", .ref to)]) ∧ H tc = some (.tup vs) ∧ Paired (TriA H) cs vs ∧ RowsA H ti n (cs.map (·.2.1)) ∧ RowsA H to n (cs.map (·.1))
theorem NetAt.same {H H2 : Hp} {x C : Addr} {n : Nat} {cs : List Tri} (s : Same H H2) (h : NetAt H x C n cs) : NetAt H2 x C n cs := by
  obtain ⟨dx, tc, ti, to, vs, h1, h2, h3, h4, h5⟩ := h.ex
  exact ⟨dx, tc, ti, to, vs, s _ _ h1, s _ _ h2, tris_same s h3, h4.same s, h5.same s⟩
structure NetCls (K : PySem.W.Frag) (C : Addr) : Prop where
  cl : Cls K C
  nS : NoAttr K C "stages"
  nC : NoAttr K C "channels"
  nI : NoAttr K C "_incoming"
  nO : NoAttr K C "_outgoing"
def spNetInit (C : Addr) : Sp := fun vs H Q _ => ∃ (x dx l : Addr) (n : Nat) (cs : List Tri) (ws : List V), vs = [.ref x, .int n, .ref l] ∧ H x = some (.ins C dx []) ∧ n ≤ 40 ∧ cs.length ≤ 120 ∧ H l = some (.lst ws) ∧ Paired (TriA H) cs ws ∧ (∀ c ∈ cs, ChOk n c) ∧
  ∀ H2 cs2, cs2.Perm cs → cs2.Pairwise (fun a b => key a ≤ key b) → (∀ b o, H b = some o → b ≠ x → H2 b = some o) → NetAt H2 x C n cs2 → Q .non H2
abbrev flds4 (a b c d : V) : List (Str × V) := [(("stages" : Str), a), (("channels" : Str), b), (("_incoming" : Str), c), (("_outgoing" : Str), d)]
theorem fields4 {a b c d : V} : putF "_outgoing" d (putF "_incoming" c (putF "channels" b (putF "stages" a []))) = flds4 a b c d := by
  have h1 : ¬ (("stages" : Str) = "channels") := by decide +kernel
  have h2 : ¬ (("stages" : Str) = "_incoming") := by decide +kernel
  have h3 : ¬ (("stages" : Str) = "_outgoing") := by decide +kernel
  have h4 : ¬ (("channels" : Str) = "_incoming") := by decide +kernel
  have h5 : ¬ (("channels" : Str) = "_outgoing") := by decide +kernel
  have h6 : ¬ (("_incoming" : Str) = "_outgoing") := by decide +kernel
  simp only [putF, h1, h2, h3, h4, h5, h6, if_false]
theorem lk_st {a b c d : V} : (flds4 a b c d).lookup ("stages" : Str) = some a := by simp [List.lookup]
theorem lk_ch {a b c d : V} : (flds4 a b c d).lookup ("channels" : Str) = some b := by
  have h1 : (("channels" : Str) == ("stages" : Str)) = false := by decide +kernel
  simp [List.lookup, h1]
theorem lk_in {a b c d : V} : (flds4 a b c d).lookup ("_incoming" : Str) = some c := by
  have h1 : (("_incoming" : Str) == ("stages" : Str)) = false := by decide +kernel
  have h2 : (("_incoming" : Str) == ("channels" : Str)) = false := by decide +kernel
  simp [List.lookup, h1, h2]
theorem lk_ou {a b c d : V} : (flds4 a b c d).lookup ("_outgoing" : Str) = some d := by
  have h1 : (("_outgoing" : Str) == ("stages" : Str)) = false := by decide +kernel
  have h2 : (("_outgoing" : Str) == ("channels" : Str)) = false := by decide +kernel
  have h3 : (("_outgoing" : Str) == ("_incoming" : Str)) = false := by decide +kernel
  simp [List.lookup, h1, h2, h3]
theorem lk_ch2 {a b : V} : (putF "channels" b (putF "stages" a [])).lookup ("channels" : Str) = some b := by
  rw [lookup_putF, if_pos rfl]
theorem lk_ch3 {a b c : V} : (putF "_incoming" c (putF "channels" b (putF "stages" a []))).lookup ("channels" : Str) = some b := by
  have h4 : ¬ (("channels" : Str) = "_incoming") := by decide +kernel
  rw [lookup_putF, if_neg h4, lookup_putF, if_pos rfl]
theorem code3 (a b c : Int) : TS.code 1000 [a, b, c] = key (a, b, c) := by
  show a * 1000 ^ 2 + (b * 1000 ^ 1 + (c * 1000 ^ 0 + 0)) = (a * 1000 + b) * 1000 + c
  omega
section
variable {P : Program} {w : World} {K : PySem.W.Frag} {mg : Str → Option Value} {base : Heap}
/-- [channel[i] for channel in self.channels] gives the ends -/
theorem ok_Net_init {C f : Addr} {fd : FuncData} (F : Fun K "__init__" "Net.__init__" s_Net_init f fd) (B : Blt mg) (T : NetCls K C) (G : DefR P w K mg base "_numbers_at" 1 spNums) : FnOk P w K mg base (L2.CX P w) 2 f fd ["self", "stages", "channels"] (spNetInit C) := by
  refine F.okX sc_Net_init (fun vs H Q E h => ?_) (fun cdv A outer s H vs Q E hr h => ?_)
  · obtain ⟨x, dx, l, n, cs, ws, rfl, _⟩ := h
    rfl
  · obtain ⟨x, dx, l, n, cs, ws, rfl, hx, hn, hcs, hl, hp, hok, k⟩ := h
    refine ⟨_, pss_cons (ps_fld (pv 0) (pv 1) rfl) (pss_cons (ps_fld (pv 0) (pe_callTy (T := "tuple") (c_tup (K := K)) (by rfl) B.tuple bt_tuple (pa_cons (pe_callB (cr_sort3 (K := K)) (by rfl) B.sorted bt_sorted (pa_cons (pv 2) pa_nil)) pa_nil)) rfl)
      (pss_cons (ps_fld (pv 0) (pe_cd G hr psE (pa_cons (pv 1) (pa_cons (pe_lc (own := [("channel", 3)]) rfl sc_Net_init.nd (pi_tup (pe_fld (pv 0) rfl)) (blkOk_by (N := nn_Net_init) (sc := defScope s_Net_init) (own := [("channel", 3)]) (by decide +kernel)) (fun _ _ _ _ _ => pg_name (i := 3) sc_Net_init.nd rfl (Or.inl rfl)) (fun _ _ _ _ _ => pts_nil)
          (fun _ _ _ _ _ => pe_ix (i_tup (K := K)) (pv 3) pe_int (fun _ _ => rfl))) pa_nil))) rfl)
      (pss_one (ps_fld (pv 0) (pe_cd G hr psE (pa_cons (pv 1) (pa_cons (pe_lc (own := [("channel", 3)]) rfl sc_Net_init.nd (pi_tup (pe_fld (pv 0) rfl)) (blkOk_by (N := nn_Net_init) (sc := defScope s_Net_init) (own := [("channel", 3)]) (by decide +kernel)) (fun _ _ _ _ _ => pg_name (i := 3) sc_Net_init.nd rfl (Or.inl rfl)) (fun _ _ _ _ _ => pts_nil)
          (fun _ _ _ _ _ => pe_ix (i_tup (K := K)) (pv 3) pe_int (fun _ _ => rfl))) pa_nil))) rfl)))), ?_⟩
    have xl : x ≠ l := ne_of hx hl (by intro z; cases z)
    refine ⟨_, rfl, _, rfl, x, C, dx, _, rfl, hx, T.cl, T.nS, by show 0 < 1000; decide, ?_⟩
    -- self.channels = tuple(sorted(channels))
    have lx : l ≠ x := xl.symm
    -- which three ints a value of ws is
    obtain ⟨kf, hkf⟩ : ∃ kf : V → I3, ∀ c v, TriA H c v → kf v = c := by
      classical
      refine ⟨fun v => if h : ∃ c, TriA H c v then h.choose else (0, 0, 0), fun c v hc => ?_⟩
      have h : ∃ c, TriA H c v := ⟨c, hc⟩
      dsimp only
      rw [dif_pos h]
      obtain ⟨t1, e1, e2⟩ := h.choose_spec
      obtain ⟨t2, e3, e4⟩ := hc
      rw [e1] at e3
      cases e3
      rw [e2] at e4
      injection e4 with e4
      injection e4 with e4
      simp only [List.cons.injEq, V.int.injEq, and_true] at e4
      exact Prod.ext e4.1 (Prod.ext e4.2.1 e4.2.2)
    refine ⟨_, rfl, l, ws, kf, rfl, SqL.of (by rw [upd_ne lx]; exact hl), fun v hv => ?_, fun ys p hperm hpw np => ⟨p, ys, rfl, .inl ⟨SqL.of upd_same, fun q nq => ?_⟩⟩⟩
    · obtain ⟨i, hi⟩ := List.mem_iff_getElem?.mp hv
      obtain ⟨c, hc, hcv⟩ := pr_at hp hi
      have e := hkf c v hcv
      obtain ⟨t, rfl, ht⟩ := hcv
      have tx : t ≠ x := ne_of ht hx (by intro z; cases z)
      exact ⟨t, rfl, by rw [upd_ne tx, e]; exact ht⟩
    -- the sorted channels
    obtain ⟨cs2, hcp, hp2⟩ := pr_perm hperm hp
    have hok2 : ∀ c ∈ cs2, ChOk n c := fun c hc => hok c (hcp.mem_iff.mp hc)
    have hlen : cs2.length = cs.length := hcp.length_eq
    have H1x : ∀ {b o}, H b = some o → b ≠ x → upd H x (.ins C dx (putF "stages" (.int n) [])) b = some o := fun {b o} e ne => by rw [upd_ne ne]; exact e
    have np' : H p = none := by
      have px : p ≠ x := fun z => by rw [z, upd_same] at np; cases np
      rw [upd_ne px] at np
      exact np
    have nq1 : upd H x (.ins C dx (putF "stages" (.int n) [])) q = none := Same.free (Same.new np) nq
    have nq' : H q = none := by
      have px : q ≠ x := fun z => by rw [z, upd_same] at nq1; cases nq1
      rw [upd_ne px] at nq1
      exact nq1
    have qx : x ≠ q := ne_of_none hx nq'
    have px : x ≠ p := ne_of_none hx np'
    have hsort : cs2.Pairwise fun a b => key a ≤ key b := by
      rw [List.pairwise_iff_getElem]
      intro i j hi hj hij
      obtain ⟨v1, e1, t1, rfl, f1⟩ := pr_to hp2 (i := i) (a := cs2[i]) (by simp [hi])
      obtain ⟨v2, e2, t2, rfl, f2⟩ := pr_to hp2 (i := j) (a := cs2[j]) (by simp [hj])
      obtain ⟨g1, g2⟩ := List.getElem?_eq_some_iff.mp e1
      obtain ⟨g3, g4⟩ := List.getElem?_eq_some_iff.mp e2
      have z := (List.pairwise_iff_getElem.mp hpw) i j g1 g3 hij
      rw [g2, g4, hkf cs2[i] _ ⟨t1, rfl, f1⟩, hkf cs2[j] _ ⟨t2, rfl, f2⟩] at z
      have y := lex3_no.mp z
      obtain ⟨⟨a1, a2⟩, ⟨a3, a4⟩, _, a5, a6⟩ := hok2 cs2[i] (List.getElem_mem hi)
      obtain ⟨⟨b1, b2⟩, ⟨b3, b4⟩, _, b5, b6⟩ := hok2 cs2[j] (List.getElem_mem hj)
      unfold key
      omega
    refine ⟨_, rfl, x, C, dx, _, rfl, by rw [upd_ne qx, upd_ne px, upd_same], T.cl, T.nC, by show 1 < 1000; decide, ?_⟩
    -- H3: the channels kept
    obtain ⟨H3, eH3⟩ : ∃ H3, H3 = upd (upd (upd (upd H x (.ins C dx (putF "stages" (.int n) []))) p (.lst ys)) q (.tup ys)) x (.ins C dx (putF "channels" (.ref q) (putF "stages" (.int n) []))) := ⟨_, rfl⟩
    rw [← eH3]
    have hx3 : H3 x = some (.ins C dx (putF "channels" (.ref q) (putF "stages" (.int n) []))) := by rw [eH3, upd_same]
    have hq3 : H3 q = some (.tup ys) := by rw [eH3, upd_ne (Ne.symm qx), upd_same]
    have old3 : ∀ b o, H b = some o → b ≠ x → H3 b = some o := fun b o e ne => by
      rw [eH3, upd_ne ne, upd_ne (ne_of_none e nq'), upd_ne (ne_of_none e np'), upd_ne ne]
      exact e
    have hp3 : Paired (TriA H3) cs2 ys := Paired.mapP hp2 fun c v ⟨t, e, ht⟩ => ⟨t, e, old3 _ _ ht (ne_of ht hx (by intro z; cases z))⟩
    have ends : ∀ g : Tri → Int, (∀ c, g c = c.1 ∨ g c = c.2.1) → ∀ e ∈ cs2.map g, 0 ≤ e ∧ e < n := fun g hg e he => by
      obtain ⟨c, hc, e1⟩ := List.mem_map.mp he
      obtain ⟨b1, b2, _⟩ := hok2 c hc
      rcases hg c with z | z <;> rw [← e1, z] <;> assumption
    -- self._incoming
    refine ⟨_, rfl, ?_⟩
    refine comp_sel (K := K) (tc := q) (cs := cs2) (vs := ys) (fun c => c.2.1) (fun c => atI_nat (j := 1) rfl) (fun R hR => ⟨_, rfl, x, C, dx, _, _, rfl, hx3, T.cl, T.nC, lk_ch2, q, rfl, ⟨_, SqT.of hq3⟩, hR⟩) hq3 hp3 (by omega) (fun _ => rfl) (fun _ => rfl) fun D H4 s4 nD hD => ?_
    refine ⟨n, D, _, rfl, hn, hD, by rw [List.length_map]; omega, ends _ fun c => .inr rfl, fun H5 r s5 nr rows => ?_⟩
    have s35 : Same H3 H5 := s4.trans s5
    refine ⟨_, rfl, x, C, dx, _, rfl, s35 _ _ hx3, T.cl, T.nI, by show 2 < 1000; decide, ?_⟩
    obtain ⟨H6, eH6⟩ : ∃ H6, H6 = upd H5 x (.ins C dx (putF "_incoming" (.ref r) (putF "channels" (.ref q) (putF "stages" (.int n) [])))) := ⟨_, rfl⟩
    rw [← eH6]
    have hx6 : H6 x = some (.ins C dx (putF "_incoming" (.ref r) (putF "channels" (.ref q) (putF "stages" (.int n) [])))) := by rw [eH6, upd_same]
    have old6 : ∀ b o, H3 b = some o → b ≠ x → H6 b = some o := fun b o e ne => by
      rw [eH6, upd_ne ne]
      exact s35 _ _ e
    have rows6 : RowsA H6 r n (cs2.map fun c => c.2.1) := by
      obtain ⟨ts, r1, r2, r3⟩ := rows
      have nx : ∀ {b xs}, H5 b = some (.tup xs) → b ≠ x := fun {b xs} e => ne_of e (s35 _ _ hx3) (by intro z; cases z)
      refine ⟨ts, by rw [eH6, upd_ne (nx r1)]; exact r1, r2, fun j v e => ?_⟩
      obtain ⟨t, e1, e2⟩ := r3 j v e
      exact ⟨t, e1, by rw [eH6, upd_ne (nx e2)]; exact e2⟩
    have hq6 : H6 q = some (.tup ys) := old6 _ _ hq3 (Ne.symm qx)
    have hp6 : Paired (TriA H6) cs2 ys := Paired.mapP hp3 fun c v ⟨t, e, ht⟩ => ⟨t, e, old6 _ _ ht (ne_of ht hx3 (by intro z; cases z))⟩
    -- self._outgoing
    refine ⟨_, rfl, ?_⟩
    refine comp_sel (K := K) (tc := q) (cs := cs2) (vs := ys) (fun c => c.1) (fun c => atI_nat (j := 0) rfl) (fun R hR => ⟨_, rfl, x, C, dx, _, _, rfl, hx6, T.cl, T.nC, lk_ch3, q, rfl, ⟨_, SqT.of hq6⟩, hR⟩) hq6 hp6 (by omega) (fun _ => rfl) (fun _ => rfl) fun D2 H7 s7 nD2 hD2 => ?_
    refine ⟨n, D2, _, rfl, hn, hD2, by rw [List.length_map]; omega, ends _ fun c => .inl rfl, fun H8 r2 s8 nr2 rows2 => ?_⟩
    have s68 : Same H6 H8 := s7.trans s8
    refine ⟨_, rfl, x, C, dx, _, rfl, s68 _ _ hx6, T.cl, T.nO, by show 3 < 1000; decide, ?_⟩
    have nx8 : ∀ {b xs}, H8 b = some (.tup xs) → b ≠ x := fun {b xs} e => ne_of e (s68 _ _ hx6) (by intro z; cases z)
    refine k _ cs2 hcp hsort (fun b o e ne => ?_) ⟨dx, q, r, r2, ys, ?_, ?_, ?_, ?_, ?_⟩
    · rw [upd_ne ne]
      exact s68 _ _ (old6 _ _ (old3 _ _ e ne) ne)
    · rw [upd_same, fields4]
    · rw [upd_ne (Ne.symm qx)]
      exact s68 _ _ hq6
    · exact Paired.mapP hp6 fun c v ⟨t, e, ht⟩ => ⟨t, e, by rw [upd_ne (nx8 (s68 _ _ ht))]; exact s68 _ _ ht⟩
    · obtain ⟨ts, a1, a2, a3⟩ := rows6.same s68
      exact ⟨ts, by rw [upd_ne (nx8 a1)]; exact a1, a2, fun j v e => let ⟨t, e1, e2⟩ := a3 j v e; ⟨t, e1, by rw [upd_ne (nx8 e2)]; exact e2⟩⟩
    · obtain ⟨ts, a1, a2, a3⟩ := rows2
      exact ⟨ts, by rw [upd_ne (nx8 a1)]; exact a1, a2, fun j v e => let ⟨t, e1, e2⟩ := a3 j v e; ⟨t, e1, by rw [upd_ne (nx8 e2)]; exact e2⟩⟩
end
end WC

set_option maxHeartbeats 4000000
namespace WC
open PySem PySem.Spec PyProof.Rows L2
/-- what is read off the class Net, at N -/
structure NetK (K : PySem.W.Frag) (mg : Str → Option Value) (N : Addr) : Prop where
  gN : mg "Net" = some (.ref N)
  cr : ∃ mc, ClX.CRead K N mc ∧ (∃ u, ClX.CVal K N mc "MOST_STAGES" (.int 40) u) ∧ (∃ u, ClX.CVal K N mc "MOST_CHANNELS" (.int 120) u) ∧ (∃ u, ClX.CVal K N mc "MOST_CAPACITY" (.int 999) u) ∧ ∃ u, ClX.CVal K N mc "MOST_COUNTER" (.int 999) u
def spCap (K : PySem.W.Frag) : Sp := fun vs H Q _ => ∃ x, vs = [x] ∧ Known K H x ∧ Q (.bl (btw x 1 999)) H
def spJoins (K : PySem.W.Frag) : Sp := fun vs H Q _ => ∃ (n : Nat) (v : V) (c : Tri), vs = [.int n, v] ∧ TriA H c v ∧ ChOk n c ∧ ∀ H2, Same H H2 → Q (.bl true) H2
def spWith : Sp := fun vs H Q _ => ∃ (v d : V) (c : Tri), vs = [v, d] ∧ TriA H c v ∧ ∀ p, H p = none → Q (.ref p) (upd H p (.tup [.int c.1, .int c.2.1, .int c.2.2]))
theorem nv {K : PySem.W.Frag} {H : Hp} (i : Int) : Known K H (.int i) := trivial
theorem btw_in {i lo hi : Int} (h1 : lo ≤ i) (h2 : i ≤ hi) : btw (.int i) lo hi = true := by simp [btw, h1, h2]
section
variable {P : Program} {w : World} {K : PySem.W.Frag} {mg : Str → Option Value} {base : Heap}
theorem ok_is_capacity {N f : Addr} {fd : FuncData} (F : Fun K "is_capacity" "Net.is_capacity" s_Net_is_capacity f fd) (Z : NetK K mg N) (G : DefR P w K mg base "is_between" 1 (spBtw K)) : FnOk P w K mg base (L2.CX P w) 2 f fd ["value"] (spCap K) := by
  refine F.okX sc_Net_is_capacity (fun vs H Q E h => ?_) (fun cdv A outer s H vs Q E hr h => ?_)
  · obtain ⟨x, rfl, _⟩ := h
    rfl
  · obtain ⟨x, rfl, hk, k⟩ := h
    obtain ⟨mc, r, _, _, ⟨u, c⟩, _⟩ := Z.cr
    refine ⟨_, pss_one (ps_ret (pe_cd G hr psE (pa_cons (pv 0) (pa_cons pe_int (pa_cons (ClX.pe_cval (pe_glob (v := .ref N) (by rfl) Z.gN rfl)) pa_nil))))), ?_⟩
    exact ⟨_, rfl, N, mc, _, u, rfl, r, c, _, _, _, rfl, hk, k⟩
theorem ok_joins {f : Addr} {fd : FuncData} (F : Fun K "_joins_two_stages" "_joins_two_stages" s_joins_two_stages f fd) (B : Blt mg) (G : DefR P w K mg base "is_between" 1 (spBtw K)) : FnOk P w K mg base (L2.CX P w) 2 f fd ["stages", "channel"] (spJoins K) := by
  refine F.okX sc_joins_two_stages (fun vs H Q E h => ?_) (fun cdv A outer s H vs Q E hr h => ?_)
  · obtain ⟨n, v, c, rfl, _⟩ := h
    rfl
  · obtain ⟨n, v, c, rfl, ⟨t, rfl, ht⟩, ⟨⟨c1, c2⟩, ⟨c3, c4⟩, c5, c6, c7⟩, k⟩ := h
    -- slots 0 stages, 1 channel, 2 ends, 3 end
    refine ⟨_, pss_cons (ps_if (PW.pt (pw_or (pt_not (pt_val (pe_callB call_isi (by rfl) B.isi bt_isi (pa_cons (pv 1) (pa_cons (pe_bltn (v := .ty "tuple") (by rfl) B.tuple bt_tuple rfl) pa_nil)))))
        (pw_or1 (pt_cmpR op_notIn_seq (pe_callB call_len_seq (by rfl) B.len bt_len (pa_cons (pv 1) pa_nil)) (pe_tup (pa_cons pe_int (pa_cons pe_int pa_nil))) (by rfl))))) (pss_one (ps_ret pe_bl)) pss_nil)
      (pss_cons (ps_set (i := 2) sc_joins_two_stages.nd rfl (Or.inl rfl) (pe_slice sl_tup (pv 1) po_none (po_some pe_int)))
      (pss_cons (ps_if (pt_not (pt_val (pe_callB (cr_all rfl) (by rfl) B.all bt_all (pa_cons (pe_lc (own := [("end", 3)]) rfl sc_joins_two_stages.nd (pi_tup (pv 2)) (blkOk_by (N := nn_joins_two_stages) (sc := defScope s_joins_two_stages) (own := [("end", 3)]) (by decide +kernel)) (fun _ _ _ _ _ => pg_name (i := 3) sc_joins_two_stages.nd rfl (Or.inl rfl)) (fun _ _ _ _ _ => pts_nil)
          (fun _ _ _ _ _ => pe_cd G (by exact hr) passL (pa_cons (pv 3) (pa_cons pe_int (pa_cons (pe_op op_sub (pv 0) pe_int) pa_nil))))) pa_nil)))) (pss_one (ps_ret pe_bl)) pss_nil)
      (pss_one (ps_ret (pe_cmpR op_ne (pe_ix ix_tup (pv 2) pe_int (fun _ _ => rfl)) (pe_ix ix_tup (pv 2) pe_int (fun _ _ => rfl)) (nomark _)))))), ?_⟩
    refine ⟨_, rfl, _, _, _, _, _, rfl, .ty _, .base (.tup ht), kit_ty (r := true) (by decide +kernel), _, rfl, ?_⟩
    refine iteF ⟨_, rfl, t, _, rfl, .inr (SqT.of ht), by show 2 ≤ sizeLine; decide, fun p hp => ⟨p, _, rfl, .inr (SqT.of upd_same), rfl, rfl, _, rfl, ?_⟩⟩
    refine iteF ⟨_, rfl, _, rfl, t, _, rfl, SqT.of (by rw [upd_ne (ne_of_none ht hp)]; exact ht), ?_, fun q hq => ?_⟩
    · intro z
      have z2 := z.2
      simp [HT.sIx] at z2
    have s2 : Same H (upd (upd H p (.tup [.int 2, .int 3])) q (.tup [.int c.1, .int c.2.1])) := Same.trans (Same.new hp) (Same.new hq)
    have eq : cutV [V.int c.1, V.int c.2.1, V.int c.2.2] none (some 2) = [V.int c.1, V.int c.2.1] := rfl
    rw [eq]
    obtain ⟨H2, eH⟩ : ∃ H2, H2 = upd (upd H p (.tup [.int 2, .int 3])) q (.tup [.int c.1, .int c.2.1]) := ⟨_, rfl⟩
    rw [← eH] at s2 ⊢
    have hq2 : H2 q = some (.tup [.int c.1, .int c.2.1]) := by rw [eH, upd_same]
    refine ⟨_, rfl, q, rfl, ⟨_, SqT.of hq2⟩, fun D hD => lc_tup (K := K) (a := q) (xs := [.int c.1, .int c.2.1]) (fun i H3 => Same H2 H3 ∧ H3 D = some (.lst ((List.replicate i true).map V.bl))) ⟨Same.new hD, upd_same⟩ (fun i H3 _ z => SqT.of (z.1 _ _ hq2)) ?_ ?_⟩
    · rintro i x H3 hx ⟨s3, hd⟩
      have hx2 : ∃ m : Int, x = .int m ∧ 0 ≤ m ∧ m ≤ n - 1 := by
        match i, hx with
        | 0, hx => exact ⟨c.1, (Option.some.inj hx).symm, c1, by omega⟩
        | 1, hx => exact ⟨c.2.1, (Option.some.inj hx).symm, c3, by omega⟩
        | _ + 2, hx => simp at hx
      obtain ⟨m, rfl, m1, m2⟩ := hx2
      refine ⟨rfl, yes ⟨_, rfl, _, rfl, _, _, rfl, rfl, _, _, _, rfl, nv _, _, hd, ?_, Same.newer s3 hD, ?_⟩⟩
      · have : i < 2 := (List.getElem?_eq_some_iff.mp hx).1
        rw [List.length_map, List.length_replicate]
        exact line_lt (by omega)
      · rw [upd_same, btw_in m1 m2, List.replicate_succ', List.map_append]
        rfl
    · rintro H3 ⟨s3, hd⟩
      refine ⟨D, _, rfl, SqL.of hd, _, rfl, ?_⟩
      refine iteF ⟨_, rfl, q, _, _, _, rfl, rfl, SqT.of (s3 _ _ hq2), atI_nat (j := 0) rfl, _, rfl, q, _, _, _, rfl, rfl, SqT.of (s3 _ _ hq2), atI_nat (j := 1) rfl, rfl, ?_⟩
      have q2 : (!decide (V.int c.1 = V.int c.2.1)) = true := by simp [c5]
      rw [q2]
      exact k H3 (s2.trans s3)
theorem ok_with_capacity {f : Addr} {fd : FuncData} (F : Fun K "_with_capacity" "_with_capacity" s_with_capacity f fd) (B : Blt mg) : FnOk P w K mg base (L2.CX P w) 1 f fd ["channel", "capacity"] spWith := by
  refine F.okX sc_with_capacity (fun vs H Q E h => ?_) (fun cdv A outer s H vs Q E hr h => ?_)
  · obtain ⟨v, d, c, rfl, _⟩ := h
    rfl
  · obtain ⟨v, d, c, rfl, ⟨t, rfl, ht⟩, k⟩ := h
    refine ⟨_, pss_cons (ps_set (i := 2) sc_with_capacity.nd rfl (Or.inl rfl) (pe_ifExp (pt_cmpR op_eq (pe_callB call_len_seq (by rfl) B.len bt_len (pa_cons (pv 0) pa_nil)) pe_int (nomark _)) (pe_ix ix_tup (pv 0) pe_int (fun _ _ => rfl)) (pv 1)))
      (pss_one (ps_ret (pe_tup (pa_cons (pe_ix ix_tup (pv 0) pe_int (fun _ _ => rfl)) (pa_cons (pe_ix ix_tup (pv 0) pe_int (fun _ _ => rfl)) (pa_cons (pv 2) pa_nil)))))), ?_⟩
    refine ⟨_, rfl, t, _, rfl, .inr (SqT.of ht), rfl, _, rfl, ?_⟩
    refine iteT ⟨_, rfl, t, _, _, _, rfl, rfl, SqT.of ht, atI_nat (j := 2) rfl, ?_⟩
    exact ⟨_, rfl, t, _, _, _, rfl, rfl, SqT.of ht, atI_nat (j := 0) rfl, _, rfl, t, _, _, _, rfl, rfl, SqT.of ht, atI_nat (j := 1) rfl, _, rfl, by show 3 ≤ sizeLine; decide, fun p hp => k p hp⟩
end
end WC

set_option maxHeartbeats 4000000
namespace WC
open PySem PySem.Spec PyProof.Rows L2
/-- has_circle of channels without one -/
def spNoCircle : Sp := fun vs H Q _ => ∃ (l : Addr) (cs : List Tri) (ws : List V), vs = [.ref l] ∧ H l = some (.lst ws) ∧ Paired (TriA H) cs ws ∧ Acyc cs ∧ cs.length ≤ 1000 ∧ ∀ H2, Same H H2 → Q (.bl false) H2
/-- what is fed: the keys of the dict at D -/
def Fed (H : Hp) (D : Addr) (cs : List Tri) (m : Nat) : Prop := ∃ kvs : List (Key × V), H D = some (.dK kvs) ∧ kvs.length ≤ m ∧ ∀ p : Int, (valV kvs (Sum.inl p)).isSome = decide (∃ c ∈ cs, c.2.1 = p)
theorem seqW {c : TT} {tb u : TS} {D : Ends} {σ : L2.St} {H : Hp} (h : tWhile c tb { D with nx := u D } σ H) : tSeq (tWhile c tb) u D σ H := h
def leftLen (σ : L2.St) (H : Hp) : Nat := match σ[1]? with
  | some (some (V.ref a)) => (match H a with
    | some (.lst xs) => xs.length
    | _ => 0)
  | _ => 0
section
variable {P : Program} {w : World} {K : PySem.W.Frag} {mg : Str → Option Value} {base : Heap}
theorem ok_has_circle {f : Addr} {fd : FuncData} (F : Fun K "has_circle" "has_circle" s_has_circle f fd) (B : Blt mg) : FnOk P w K mg base (L2.CX P w) 1 f fd ["channels"] spNoCircle := by
  refine F.okX sc_has_circle (fun vs H Q E h => ?_) (fun cdv A outer s H vs Q E hr h => ?_)
  · obtain ⟨l, cs, ws, rfl, _⟩ := h
    rfl
  · obtain ⟨l, cs, ws, rfl, hl, hp, ac, hlen, k⟩ := h
    have hu := hu_of hr
    -- slots 0 channels, 1 left, 2 fed, 3 _, 4 consumer, 5 kept, 6 channel
    refine ⟨_, pss_cons (ps_set (i := 1) sc_has_circle.nd rfl (Or.inl rfl) (pv 0))
      (pss_cons (ps_while (passes_of rfl) (pt_truth (pv 1) (by intro _; rfl))
        (pss_cons (ps_set (i := 2) sc_has_circle.nd rfl (Or.inr rfl) (pe_dc (own := [("_", 3), ("consumer", 4)]) rfl sc_has_circle.nd (pi_list (pv 1)) (blkOk_by (N := nn_has_circle) (sc := defScope s_has_circle) (own := [("_", 3), ("consumer", 4)]) (by decide +kernel))
            (fun _ _ _ _ _ => pg_tupK (K := K) (n := 3) rfl (pgs_cons (pg_name (i := 3) sc_has_circle.nd rfl (Or.inl rfl)) (pgs_cons (pg_name (i := 4) sc_has_circle.nd rfl (Or.inl rfl)) (pgs_cons (pg_name (i := 3) sc_has_circle.nd rfl (Or.inl rfl)) pgs_nil)))) (fun _ _ _ _ _ => pts_nil) (fun _ _ _ _ _ => pv 4) (fun _ _ _ _ _ => pe_bl)))
        (pss_cons (ps_setLc (i := 5) (own := [("channel", 6)]) rfl sc_has_circle.nd rfl rfl (sw_true rfl rfl rfl (by decide +kernel)) (pi_list (pv 1)) (blkOk_by (N := nn_has_circle) (sc := defScope s_has_circle) (own := [("channel", 6)]) (by decide +kernel))
            (fun _ _ _ _ _ => pg_name (i := 6) sc_has_circle.nd rfl (Or.inl rfl)) (fun _ _ _ _ _ => pts_one (pt_cmp (pc_din (by exact hu) (pe_ix (i_tup (K := K)) (pv 6) pe_int (fun _ _ => rfl)) (pv 2)))) (fun _ _ _ _ _ => pv 6))
        (pss_cons (ps_if (pt_cmpR op_eq (pe_callB call_len_seq (by rfl) B.len bt_len (pa_cons (pv 5) pa_nil)) (pe_callB call_len_seq (by rfl) B.len bt_len (pa_cons (pv 1) pa_nil)) (nomark _)) (pss_one (ps_ret pe_bl)) pss_nil)
        (pss_one (ps_set (i := 1) sc_has_circle.nd rfl (Or.inl rfl) (pv 5)))))))
      (pss_one (ps_ret pe_bl))), ?_⟩
    refine ⟨_, rfl, ?_⟩
    dsimp only [gName]
    refine seqW ?_
    refine while_by (fun σ H2 => ∃ (a : Addr) (ds : List Tri) (us : List V) (v2 v3 v4 v5 v6 : Option V), σ = [some (.ref l), some (.ref a), v2, v3, v4, v5, v6] ∧ Same H H2 ∧ H2 a = some (.lst us) ∧ Paired (TriA H2) ds us ∧ ds.length ≤ 1000 ∧ ∀ c ∈ ds, c ∈ cs)
      leftLen ⟨l, cs, ws, _, _, _, _, _, rfl, Same.refl H, hl, hp, hlen, fun _ z => z⟩ ?_ ?_
    · rintro σ H2 ⟨a, ds, us, v2, v3, v4, v5, v6, rfl, s2, ha, hpd, hdl, sub⟩
      refine ⟨_, rfl, _, .inl ⟨us, SqL.of ha, rfl⟩, ?_⟩
      cases hE : us with
      | nil =>
        refine iteF ?_
        exact k H2 s2
      | cons u0 us0 =>
        refine iteT ?_
        rw [hE] at ha hpd
        -- fed
        refine ⟨_, rfl, a, rfl, ⟨_, SqL.of ha⟩, fun D hD => dc_lst (K := K) (a := a) (xs := u0 :: us0) (fun i H3 => Same H2 H3 ∧ Fed H3 D (ds.take i) i) ⟨Same.new hD, [], upd_same, by simp, fun p => by simp [valV]⟩ (fun i H3 _ q => SqL.of (q.1 _ _ ha)) ?_ ?_⟩
        · rintro i x H3 hx ⟨s3, kvs, d1, d2, d3⟩
          obtain ⟨c, hc, t, rfl, ht⟩ := pr_at hpd hx
          have hi := (List.getElem?_eq_some_iff.mp hc).1
          refine ⟨t, _, rfl, SqT.of (s3 _ _ ht), rfl, _, _, rfl, _, _, rfl, _, _, rfl, rfl, rfl, yes ⟨_, rfl, kvs, Sum.inl c.2.1, rfl, d1, line_lt (by omega), Same.newer s3 hD, _, upd_same, ?_, fun p => ?_⟩⟩
          · exact Nat.le_trans (pk_len _ _ _) (by omega)
          · rw [valV_put, take_snoc hc]
            by_cases e : p = c.2.1
            · subst e
              rw [if_pos rfl]
              simp
            · rw [if_neg (fun z => e (Sum.inl.inj z)), d3 p]
              congr 1
              apply propext
              constructor
              · rintro ⟨c2, m, e2⟩
                exact ⟨c2, List.mem_append_left _ m, e2⟩
              · rintro ⟨c2, m, e2⟩
                rcases List.mem_append.mp m with m | m
                · exact ⟨c2, m, e2⟩
                · rw [List.mem_singleton.mp m] at e2
                  exact absurd e2.symm e
        · rintro H3 ⟨s3, kvs, d1, d2, d3⟩
          rw [← hpd.length, List.take_length] at d3
          -- kept
          refine ⟨_, rfl, a, rfl, ⟨_, SqL.of (s3 _ _ ha)⟩, fun R hR => lc_list (K := K) (a := a) (xs := u0 :: us0) (fun i H4 => Same H3 H4 ∧ ∃ ks, H4 R = some (.lst ks) ∧ Paired (TriA H4) ((ds.take i).filter fun c => decide (∃ d ∈ ds, d.2.1 = c.1)) ks) ⟨Same.new hR, [], upd_same, .nil⟩ (fun i H4 _ q => SqL.of (q.1 _ _ (s3 _ _ ha))) ?_ ?_⟩
          · rintro i x H4 hx ⟨s4, ks, r1, r2⟩
            obtain ⟨c, hc, t, rfl, ht⟩ := pr_at hpd hx
            have hi := (List.getElem?_eq_some_iff.mp hc).1
            have ht4 := s4 _ _ (s3 _ _ ht)
            refine ⟨rfl, _, rfl, t, _, _, _, rfl, rfl, SqT.of ht4, atI_nat (j := 0) rfl, _, rfl, D, _, rfl, DGet.k (k := Sum.inl c.1) (s4 _ _ d1), _, rfl, ?_⟩
            have hks : ks.length ≤ i := by
              rw [← r2.length]
              exact Nat.le_trans (List.length_filter_le _ _) (by rw [List.length_take]; omega)
            have e3 := d3 c.1
            cases hv : valV kvs (Sum.inl c.1 : Key) with
            | some v =>
              rw [hv] at e3
              have e4 : decide (∃ d ∈ ds, d.2.1 = c.1) = true := e3.symm
              refine iteT ⟨_, rfl, ks, r1, line_lt (by omega), Same.newer s4 hR, _, upd_same, ?_⟩
              rw [take_snoc hc, List.filter_append]
              have nx : ∀ {b xs}, H4 b = some (.tup xs) → b ≠ R := fun {b xs} e => ne_of e r1 (by intro z; cases z)
              refine pr_snoc (a := c) ?_ ?_ |> fun z => by
                have q : [c].filter (fun c => decide (∃ d ∈ ds, d.2.1 = c.1)) = [c] := by simp only [List.filter, e4]
                rw [q]
                exact z
              · exact Paired.mapP r2 fun c2 v2 ⟨t2, q1, q2⟩ => ⟨t2, q1, by rw [upd_ne (nx q2)]; exact q2⟩
              · exact ⟨t, rfl, by rw [upd_ne (nx ht4)]; exact ht4⟩
            | none =>
              rw [hv] at e3
              have e4 : decide (∃ d ∈ ds, d.2.1 = c.1) = false := e3.symm
              refine iteF ⟨s4, ks, r1, ?_⟩
              rw [take_snoc hc, List.filter_append]
              have q : [c].filter (fun c => decide (∃ d ∈ ds, d.2.1 = c.1)) = [] := by simp only [List.filter, e4]
              rw [q, List.append_nil]
              exact r2
          · rintro H4 ⟨s4, ks, r1, r2⟩
            rw [← hpd.length, List.take_length] at r2
            have ha4 := s4 _ _ (s3 _ _ ha)
            refine ⟨_, rfl, R, _, rfl, .inl (SqL.of r1), _, rfl, a, _, rfl, .inl (SqL.of ha4), rfl, _, rfl, ?_⟩
            have dne : ds ≠ [] := fun z => by
              rw [z] at hpd
              have q := hpd.length
              simp at q
            obtain ⟨c0, m0, q0⟩ := (ac.sub sub).first dne
            have hlt : ks.length < (u0 :: us0).length := by
              rw [← r2.length, ← hpd.length]
              refine Nat.lt_of_le_of_ne (List.length_filter_le _ _) fun z => ?_
              have y := List.length_filter_eq_length_iff.mp z c0 m0
              obtain ⟨d, md, ed⟩ := of_decide_eq_true y
              exact q0 d md ed
            have q1 : decide (V.int (ks.length : Int) = V.int ((u0 :: us0).length : Int)) = false := by
              apply decide_eq_false
              intro z
              injection z with z
              omega
            rw [q1]
            refine iteF ⟨_, rfl, ⟨R, _, ks, _, _, _, _, _, rfl, s2.trans (s3.trans s4), r1, r2, Nat.le_trans (List.length_filter_le _ _) hdl, fun c hc => sub c (List.mem_filter.mp hc).1⟩, ?_⟩
            have e1 : leftLen [some (V.ref l), some (V.ref R), some (V.ref D), v3, v4, some (V.ref R), v6] H4 = ks.length := by simp only [leftLen, List.getElem?_cons_succ, List.getElem?_cons_zero, r1]
            have e2 : leftLen [some (V.ref l), some (V.ref a), v2, v3, v4, v5, v6] H2 = (u0 :: us0).length := by simp only [leftLen, List.getElem?_cons_succ, List.getElem?_cons_zero, ha]
            show leftLen _ _ < leftLen _ _
            rw [e2]
            show leftLen [some (V.ref l), some (V.ref R), some (V.ref D), v3, v4, some (V.ref R), v6] H4 < _
            rw [e1]
            exact hlt
    · rintro σ H2 Q1 Q2 hm ⟨v, e, kk, t, q⟩
      exact ⟨v, e, kk, t, hm _ _ q⟩
end
end WC

set_option maxHeartbeats 4000000
namespace WC
open PySem PySem.Spec PyProof.Rows L2
def flI : List V → List (Str × V)
  | [r, p] => [("position", p), ("reason", r)]
  | _ => []
def pairOf (c : Tri) : Int × Int := (c.1, c.2.1)
def spCheckCh : Sp := fun vs H Q _ => ∃ (n : Nat) (t : Addr) (cs : List Tri) (ws : List V), vs = [.int n, .ref t] ∧ H t = some (.tup ws) ∧ Paired (TriA H) cs ws ∧ (∀ c ∈ cs, ChOk n c) ∧ (cs.map pairOf).Nodup ∧ cs.length ≤ 1000 ∧ ∀ H2, Same H H2 → Q .non H2
theorem cut2 (a b c : V) : cutV [a, b, c] none (some 2) = [a, b] := rfl
theorem cut2n {a b c : V} : ¬ (HT.sIx [a, b, c].length 0 none = 0 ∧ HT.sIx [a, b, c].length [a, b, c].length (some 2) = [a, b, c].length) := by
  intro z
  have z2 := z.2
  simp [HT.sIx] at z2
section
variable {P : Program} {w : World} {K : PySem.W.Frag} {mg : Str → Option Value} {base : Heap}
theorem ok_InvalidNet_init {f C : Addr} {fd : FuncData} (F : Fun K "__init__" "InvalidNet.__init__" s_InvalidNet_init f fd) (T : OexC K C) (h1 : PySem.W.findIn K (.ref C) "reason" = some none) (h2 : PySem.W.findIn K (.ref C) "position" = some none) :
    FnOk P w K mg base (L2.CX P w) 1 f fd ["self", "reason", "position"] (spX C 2 flI) := by
  refine F.okX sc_InvalidNet_init (fun vs H Q E h => ?_) (fun cdv A outer s H vs Q E hr h => ?_)
  · obtain ⟨a, ws, rfl, hl, _⟩ := h
    simp [hl]
  · obtain ⟨a, ws, rfl, hl, ha, k⟩ := h
    match ws, hl with
    | [v, u], _ =>
      refine ⟨_, pss_cons (ps_ost (pv 0) (pv 1)) (pss_one (ps_ost (pv 0) (pv 2))), ?_⟩
      refine ⟨_, rfl, _, rfl, a, C, rfl, T, h1, .inl ⟨ha, fun d hd hne => ⟨_, rfl, _, rfl, a, C, rfl, T, h2, .inr ⟨d, _, upd_same, by rw [upd_ne hne, upd_same], Nat.le_of_ble_eq_true rfl, ?_⟩⟩⟩⟩
      have q : upd (upd (upd H d (exd d [("reason", v)])) a (exo a C (some d))) d (exd d [("position", u), ("reason", v)]) = upd (upd H d (exd d [("position", u), ("reason", v)])) a (exo a C (some d)) := by
        funext b
        by_cases e : b = d
        · subst e
          rw [upd_same, upd_ne hne, upd_same]
        · by_cases e2 : b = a
          · subst e2
            rw [upd_ne e, upd_same, upd_same]
          · rw [upd_ne e, upd_ne e2, upd_ne e, upd_ne e2, upd_ne e]
      show Q .non (upd (upd (upd H d (exd d [("reason", v)])) a (exo a C (some d))) d (exd d [("position", u), ("reason", v)]))
      rw [q]
      exact k d hd hne
theorem ok_check_channels {f N CI : Addr} {fd : FuncData} (F : Fun K "_check_channels" "_check_channels" s_check_channels f fd) (B : Blt mg) (Z : NetK K mg N) (G1 : DefR P w K mg base "_joins_two_stages" 2 (spJoins K)) (G2 : StaR P w K mg base N "is_capacity" 2 (spCap K))
    (T : ExcR P w K mg base "InvalidNet" CI 1 2 flI) : FnOk P w K mg base (L2.CX P w) 3 f fd ["stages", "channels"] spCheckCh := by
  refine F.okX sc_check_channels (fun vs H Q E h => ?_) (fun cdv A outer s H vs Q E hr h => ?_)
  · obtain ⟨n, t, cs, ws, rfl, _⟩ := h
    rfl
  · obtain ⟨n, t, cs, ws, rfl, ht, hp, hok, nd, hlen, k⟩ := h
    have hu := hu_of hr
    -- slots 0 stages, 1 channels, 2 earlier, 3 position, 4 channel
    refine ⟨_, pss_cons (ps_set (i := 2) sc_check_channels.nd rfl (Or.inl rfl) pe_dnewT)
      (pss_one (ps_for (passes_of rfl) rfl (pi_et B.enum (pa_cons (pv 1) pa_nil)) (pg_tup rfl (pgs_cons (pg_name (i := 3) sc_check_channels.nd rfl (Or.inl rfl)) (pgs_cons (pg_name (i := 4) sc_check_channels.nd rfl (Or.inl rfl)) pgs_nil)))
        (pss_cons (ps_if (pt_not (pt_val (pe_cd G1 hr psE (pa_cons (pv 0) (pa_cons (pv 4) pa_nil))))) (pss_one (ps_raise rfl (takes_of rfl rfl rfl rfl) (pmk_x T hr (pa_cons pe_str (pa_cons (pv 3) pa_nil))))) pss_nil)
        (pss_cons (ps_if (PW.pt (pw_and (pt_cmpR op_eq (pe_callB call_len_seq (by rfl) B.len bt_len (pa_cons (pv 4) pa_nil)) pe_int (nomark _)) (pw_and1 (pt_not (pt_val (pe_sta G2 (pe_glob (v := .ref N) (by rfl) Z.gN rfl) hr psE (pa_cons (pe_ix ix_tup (pv 4) pe_int (fun _ _ => rfl)) pa_nil))))))) (pss_one (ps_raise rfl (takes_of rfl rfl rfl rfl) (pmk_x T hr (pa_cons pe_str (pa_cons (pv 3) pa_nil))))) pss_nil)
        (pss_cons (ps_if (pt_cmp (pc_din hu (pe_slice sl_tup (pv 4) po_none (po_some pe_int)) (pv 2))) (pss_one (ps_raise rfl (takes_of rfl rfl rfl rfl) (pmk_x T hr (pa_cons pe_str (pa_cons (pv 3) pa_nil))))) pss_nil)
        (pss_one (ps_dput hu (pv 2) (pe_slice sl_tup (pv 4) po_none (po_some pe_int)) pe_bl rfl))))))), ?_⟩
    intro d hd
    refine ⟨_, rfl, t, ws, rfl, SqT.of (by rw [upd_ne (ne_of_none ht hd)]; exact ht), for_it (walk_et (xs := ws)) (fun i σ H2 => ∃ v3 v4, σ = [some (.int n), some (.ref t), some (.ref d), v3, v4] ∧ Same H H2 ∧ ∃ kvs : List (List Key × V), H2 d = some (.dT kvs) ∧ kvs.length ≤ i ∧ ∀ a b, (valV kvs [Sum.inl a, Sum.inl b]).isSome = true → ∃ c ∈ cs.take i, pairOf c = (a, b))
      ⟨_, _, rfl, Same.new hd, [], upd_same, by simp, fun a b z => by simp [valV] at z⟩ ?_ ?_ ?_⟩
    · rintro i σ H2 _ ⟨_, _, _, s2, _⟩
      exact SqT.of (s2 _ _ ht)
    · rintro i x σ H2 H3 hi ⟨v3, v4, rfl, s2, kvs, k1, k2, k3⟩ ⟨T1, x1, y1, rfl, hT, rfl, e1, e2⟩
      cases e1
      obtain ⟨c, hc, t1, rfl, ht1⟩ := pr_at hp e2
      have ilt := (List.getElem?_eq_some_iff.mp hc).1
      have cok := hok c (List.mem_of_getElem? hc)
      have s3 : Same H2 (upd H2 T1 (.tup [.int (i : Nat), .ref t1])) := Same.new hT
      have ht3 := s3 _ _ (s2 _ _ ht1)
      refine ⟨T1, _, rfl, SqT.of upd_same, rfl, _, _, rfl, _, _, rfl, rfl, _, rfl, _, rfl, n, _, c, rfl, ⟨t1, rfl, ht3⟩, cok, fun H4 s4 => ⟨_, rfl, ?_⟩⟩
      have ht4 := s4 _ _ ht3
      refine iteF ⟨_, rfl, t1, _, rfl, .inr (SqT.of ht4), rfl, _, rfl, ?_⟩
      refine iteT ⟨rfl, _, rfl, t1, _, _, _, rfl, rfl, SqT.of ht4, atI_nat (j := 2) rfl, _, rfl, nv _, _, rfl, ?_⟩
      rw [btw_in cok.2.2.2.1 cok.2.2.2.2]
      refine iteF ⟨_, rfl, _, rfl, t1, _, rfl, SqT.of ht4, cut2n, fun q hq => ?_⟩
      rw [cut2]
      have kd : H4 d = some (.dT kvs) := s4 _ _ (s3 _ _ k1)
      have s5 : Same H4 (upd H4 q (.tup [.int c.1, .int c.2.1])) := Same.new hq
      refine ⟨_, rfl, d, _, rfl, DGet.t (k := [Sum.inl c.1, Sum.inl c.2.1]) (s5 _ _ kd) upd_same, _, rfl, ?_⟩
      cases hv : valV kvs [Sum.inl c.1, Sum.inl c.2.1] with
      | some v =>
        obtain ⟨c2, m2, p2⟩ := k3 c.1 c.2.1 (by rw [hv]; rfl)
        exfalso
        obtain ⟨j, hj⟩ := List.mem_iff_getElem?.mp m2
        have jl : j < i := by
          have q1 := (List.getElem?_eq_some_iff.mp hj).1
          rw [List.length_take] at q1
          omega
        rw [List.getElem?_take_of_lt jl] at hj
        have a1 : (cs.map pairOf)[j]? = some (c.1, c.2.1) := by rw [List.getElem?_map, hj]; exact congrArg some p2
        have a2 : (cs.map pairOf)[i]? = some (c.1, c.2.1) := by rw [List.getElem?_map, hc]; rfl
        have a3 := (List.getElem?_inj (by rw [List.length_map]; omega) nd).mp (a1.trans a2.symm)
        omega
      | none =>
        refine iteF ⟨_, rfl, _, rfl, _, rfl, t1, _, rfl, SqT.of (s5 _ _ ht4), cut2n, fun q2 hq2 => ?_⟩
        rw [cut2]
        have s6 : Same (upd H4 q (.tup [.int c.1, .int c.2.1])) (upd (upd H4 q (.tup [.int c.1, .int c.2.1])) q2 (.tup [.int c.1, .int c.2.1])) := Same.new hq2
        refine ⟨d, _, rfl, DPut.t (k := [Sum.inl c.1, Sum.inl c.2.1]) (s6 _ _ (s5 _ _ kd)) upd_same (line_lt (by omega)), _, _, rfl, ?_, _, upd_same, ?_, ?_⟩
        · exact Same.newer (s2.trans (s3.trans (s4.trans (s5.trans s6)))) hd
        · exact Nat.le_trans (pk_len _ _ _) (by omega)
        · intro a b z
          rw [valV_put] at z
          rw [take_snoc hc]
          by_cases e : ([Sum.inl a, Sum.inl b] : List Key) = [Sum.inl c.1, Sum.inl c.2.1]
          · have e2 : a = c.1 ∧ b = c.2.1 := by simpa using e
            exact ⟨c, by simp, by rw [e2.1, e2.2]; rfl⟩
          · rw [if_neg e] at z
            obtain ⟨c2, m2, p2⟩ := k3 a b z
            exact ⟨c2, List.mem_append_left _ m2, p2⟩
    · rintro σ H2 ⟨_, _, _, s2, _⟩
      exact k H2 s2
end
end WC

set_option maxHeartbeats 4000000
namespace WC
open PySem PySem.Spec PyProof.Rows L2
/-- a net is made of these channels: what is asked, and what stands behind -/
def spMake (C : Addr) (x : Addr) (n : Nat) (cs : List Tri) (H : Hp) (Q : VK) : Prop := ∀ H2 cs2, cs2.Perm cs → cs2.Pairwise (fun a b => key a ≤ key b) → (∀ b o, H b = some o → b ≠ x → H2 b = some o) → NetAt H2 x C n cs2 → Q .non H2
def spPipe (C : Addr) : Sp := fun vs H Q _ => ∃ (x dx : Addr) (n : Nat) (cs : List Tri) (ws : List V), vs = .ref x :: .int n :: ws ∧ H x = some (.ins C dx []) ∧ 1 ≤ n ∧ n ≤ 40 ∧ Paired (TriA H) cs ws ∧ (∀ c ∈ cs, ChOk n c) ∧ (cs.map pairOf).Nodup ∧ Acyc cs ∧ cs.length ≤ 120 ∧ spMake C x n cs H Q
def spPipeB (C : Addr) : Sp := fun vs H Q _ => ∃ (x dx t : Addr) (n : Nat) (cs : List Tri) (ws : List V), vs = [.ref x, .int n, .int 1, .ref t] ∧ H x = some (.ins C dx []) ∧ 1 ≤ n ∧ n ≤ 40 ∧ H t = some (.tup ws) ∧ Paired (TriA H) cs ws ∧ (∀ c ∈ cs, ChOk n c) ∧ (cs.map pairOf).Nodup ∧ Acyc cs ∧ cs.length ≤ 120 ∧ spMake C x n cs H Q
section
variable {P : Program} {w : World} {K : PySem.W.Frag} {mg : Str → Option Value} {base : Heap}
theorem ok_Pipeline_init {f cc C N CI g : Addr} {Dk : Addr} {u : Value} (F : SFun P K "__init__" "Pipeline.__init__" s_Pipeline_init f cc C (.ref Dk)) (hD : PySem.W.nsIn K Dk "capacity" = some (some u)) (hu1 : RelV (.int 1) u) (B : Blt mg) (Z : NetK K mg N)
    (G0 : DefR P w K mg base "is_between" 1 (spBtw K)) (G1 : DefR P w K mg base "_check_channels" 3 spCheckCh) (G2 : StaR P w K mg base N "is_capacity" 2 (spCap K)) (G3 : DefR P w K mg base "_with_capacity" 1 spWith) (G4 : DefR P w K mg base "has_circle" 1 spNoCircle)
    (T : ExcR P w K mg base "InvalidNet" CI 1 2 flI) (SP : SupTxt P K mg C C g "__init__") (G5 : FnR P w K mg base (L2.CX P w) 2 g (spNetInit C)) : FnR P w K mg base (L2.CX P w) 4 f (spPipe C) := by
  refine FnR.imp (F.star (k := 3) (ps := ["self", "stages"]) (ks := ["capacity"]) (pv := "channels") (kv := [u]) (kvV := [.int 1]) (sp := spPipeB C) sc_Pipeline_init (.cons hu1 .nil) rfl (fun doc pm an cdv ct => BindStar.of_kw hD fun u1 u2 hl => ?_) ⟨_, rfl, rfl⟩ rfl rfl (fun cdv A outer s H vs Q E hr SZ h => ?_)) (fun vs H Q E h => ?_)
  · match u1, u2, hl with
    | [a, b], [], _ => exact ⟨_, _, _, _, _, _, rfl, rfl, rfl⟩
    | [a, b], r :: rs, _ => exact ⟨_, _, _, _, _, _, rfl, rfl, rfl⟩
  · obtain ⟨x, dx, t, n, cs, ws, rfl, hx, n1, n2, ht, hp, hok, nd, ac, hlen, k⟩ := h
    obtain ⟨mc, cr, ⟨u1, c1⟩, ⟨u2, c2⟩, _, _⟩ := Z.cr
    -- slots 0 self, 1 stages, 2 capacity, 3 channels, 4 triples, 5 channel
    refine ⟨_, px_cons (ps_if (pt_not (pt_val (pe_cd G0 hr psS (pa_cons (pv 1) (pa_cons pe_int (pa_cons (ClX.pe_cval (pe_glob (v := .ref N) (by rfl) Z.gN rfl)) pa_nil)))))) (pss_one (ps_raise rfl (takes_of rfl rfl rfl rfl) (pmk_x T hr (pa_cons pe_str (pa_cons pe_non pa_nil))))) pss_nil)
      (px_cons (ps_if (pt_cmpR op_gt (pe_callB call_len_seq (by rfl) B.len bt_len (pa_cons (pv 3) pa_nil)) (ClX.pe_cval (pe_glob (v := .ref N) (by rfl) Z.gN rfl)) (nomark _)) (pss_one (ps_raise rfl (takes_of rfl rfl rfl rfl) (pmk_x T hr (pa_cons pe_str (pa_cons pe_non pa_nil))))) pss_nil)
      (px_cons (ps_expr (pe_cd G1 hr psS (pa_cons (pv 1) (pa_cons (pv 3) pa_nil))))
      (px_cons (ps_if (pt_not (pt_val (pe_sta G2 (pe_glob (v := .ref N) (by rfl) Z.gN rfl) hr psS (pa_cons (pv 2) pa_nil)))) (pss_one (ps_raise rfl (takes_of rfl rfl rfl rfl) (pmk_x T hr (pa_cons pe_str (pa_cons pe_non pa_nil))))) pss_nil)
      (px_cons (ps_setLc (i := 4) (own := [("channel", 5)]) rfl sc_Pipeline_init.nod rfl rfl (sw_true rfl rfl rfl (by decide +kernel)) (pi_tup (pv 3)) (blkOk_by (N := nn_Pipeline_init) (sc := defScope s_Pipeline_init) (own := [("channel", 5)]) (by decide +kernel))
            (fun _ _ _ _ _ => pg_name (i := 5) sc_Pipeline_init.nod rfl (Or.inl rfl)) (fun _ _ _ _ _ => pts_nil) (fun _ _ _ _ _ => pe_cd G3 (by exact hr) passL (pa_cons (pv 5) (pa_cons (pv 2) pa_nil))))
      (px_cons (ps_if (pt_val (pe_cd G4 hr psS (pa_cons (pv 4) pa_nil))) (pss_one (ps_raise rfl (takes_of rfl rfl rfl rfl) (pmk_x T hr (pa_cons pe_str (pa_cons pe_non pa_nil))))) pss_nil)
      (px_sup (i := 0) SP SZ G5 (hr.mono (by decide)) psS rfl (pa_cons (pv 1) (pa_cons (pv 4) pa_nil)) (px_of pss_nil))))))), ?_⟩
    refine ⟨_, rfl, N, mc, _, u1, rfl, cr, c1, _, _, _, rfl, nv _, _, rfl, ?_⟩
    rw [btw_in (by omega) (by omega)]
    refine iteF ⟨_, rfl, t, _, rfl, .inr (SqT.of ht), N, mc, _, u2, rfl, cr, c2, _, _, rfl, rfl, _, rfl, ?_⟩
    have hwl : ws.length = cs.length := hp.length.symm
    have q1 : decide ((120 : Int) < (ws.length : Int)) = false := by apply decide_eq_false; omega
    rw [q1]
    refine iteF ⟨_, rfl, _, rfl, n, t, cs, ws, rfl, ht, hp, hok, nd, by omega, fun H2 s2 => ?_⟩
    refine ⟨rfl, _, rfl, _, rfl, nv _, _, rfl, iteF ⟨_, rfl, t, rfl, ⟨_, SqT.of (s2 _ _ ht)⟩, fun D hD2 => ?_⟩⟩
    refine lc_tup (K := K) (a := t) (xs := ws) (fun i H3 => Same H2 H3 ∧ ∃ ks, H3 D = some (.lst ks) ∧ Paired (TriA H3) (cs.take i) ks) ⟨Same.new hD2, [], upd_same, .nil⟩ (fun i H3 _ q => SqT.of (q.1 _ _ (s2 _ _ ht))) ?_ ?_
    · rintro i y H3 hy ⟨s3, ks, k1, k2⟩
      obtain ⟨c, hc, t1, rfl, ht1⟩ := pr_at hp hy
      have hi := (List.getElem?_eq_some_iff.mp hc).1
      have ht3 := s3 _ _ (s2 _ _ ht1)
      refine ⟨rfl, yes ⟨_, rfl, _, rfl, _, _, c, rfl, ⟨t1, rfl, ht3⟩, fun p hp3 => ⟨ks, by rw [upd_ne (ne_of_none k1 hp3)]; exact k1, ?_, ?_, ks ++ [.ref p], upd_same, ?_⟩⟩⟩
      · rw [← k2.length, List.length_take]
        exact line_lt (by omega)
      · exact Same.newer (Same.newer s3 (Same.free s3 hp3)) hD2
      · have pD : p ≠ D := (ne_of_none k1 hp3).symm
        rw [take_snoc hc]
        refine pr_snoc (Paired.mapP k2 fun c2 v2 ⟨t2, e1, e2⟩ => ⟨t2, e1, ?_⟩) ⟨p, rfl, by rw [upd_ne pD, upd_same]⟩
        rw [upd_ne (ne_of e2 k1 (by intro z; cases z)), upd_ne (ne_of_none e2 hp3)]
        exact e2
    · rintro H3 ⟨s3, ks, k1, k2⟩
      rw [hwl, List.take_length] at k2
      refine ⟨_, rfl, D, cs, ks, rfl, k1, k2, ac, by omega, fun H4 s4 => ⟨_, rfl, iteF ?_⟩⟩
      have s24 : Same H H4 := s2.trans (s3.trans s4)
      exact ⟨x, dx, _, rfl, s24 _ _ hx, _, rfl, _, rfl, x, dx, D, n, cs, ks, rfl, s24 _ _ hx, n2, hlen, s4 _ _ k1, tris_same s4 k2, hok, fun H5 cs2 a b c d => k H5 cs2 a b (fun b2 o e ne => c b2 o (s24 _ _ e) ne) d⟩
  · obtain ⟨x, dx, n, cs, ws, rfl, hx, n1, n2, hp, hok, nd, ac, hlen, k⟩ := h
    refine ⟨[.ref x, .int n], ws, rfl, rfl, by rw [← hp.length]; exact line_of (by omega), fun p hp2 => ⟨x, dx, p, n, cs, ws, rfl, ?_, n1, n2, upd_same, tris_same (Same.new hp2) hp, hok, nd, ac, hlen, fun H2 cs2 a b c d => k H2 cs2 a b (fun b2 o e ne => c b2 o ?_ ne) d⟩⟩
    · rw [upd_ne (ne_of_none hx hp2)]
      exact hx
    · rw [upd_ne (ne_of_none e hp2)]
      exact e
end
end WC

set_option maxHeartbeats 4000000
namespace WC
open PySem PySem.Spec PyProof.Rows L2
theorem key_lt {n : Nat} {a b : Tri} (hn : n ≤ 40) (ha : ChOk n a) (hb : ChOk n b) (h : a.1 < b.1) : key a < key b := by
  obtain ⟨⟨a1, a2⟩, ⟨a3, a4⟩, a5, a6, a7⟩ := ha
  obtain ⟨⟨b1, b2⟩, ⟨b3, b4⟩, b5, b6, b7⟩ := hb
  unfold key
  omega
theorem keys_inc {n : Nat} {cs : List Tri} (hn : n ≤ 40) (hok : ∀ c ∈ cs, ChOk n c) (h : Inc cs) : cs.Pairwise fun a b => key a < key b := List.Pairwise.imp_of_mem (fun {a b} ma mb z => key_lt hn (hok a ma) (hok b mb) z) h
/-- capacities -/
def CapsOk (ns : List Int) : Prop := ∀ c ∈ ns, 1 ≤ c ∧ c ≤ 999
theorem rowOf_ok {ns : List Int} (h : CapsOk ns) : ∀ c ∈ rowOf ns, ChOk (ns.length + 1) c := fun c hc => by
  obtain ⟨i, q, hq, rfl⟩ := rowOf_mem hc
  have hi := (List.getElem?_eq_some_iff.mp hq).1
  obtain ⟨h1, h2⟩ := h q (List.mem_of_getElem? hq)
  refine ⟨⟨?_, ?_⟩, ⟨?_, ?_⟩, ?_, h1, h2⟩ <;> dsimp only <;> omega
theorem ringOf_ok {ns : List Int} (h : CapsOk ns) (h3 : 3 ≤ ns.length) : ∀ c ∈ ringOf ns, ChOk ns.length c := fun c hc => by
  obtain ⟨i, q, hq, rfl⟩ := ringOf_mem hc
  have hi := (List.getElem?_eq_some_iff.mp hq).1
  obtain ⟨h1, h2⟩ := h q (List.mem_of_getElem? hq)
  have e : ((i : Int) + 1) % (ns.length : Int) = if i + 1 = ns.length then 0 else (i : Int) + 1 := by
    split
    · rename_i z
      have z2 : (i : Int) + 1 = (ns.length : Int) := by omega
      rw [z2, Int.emod_self]
    · exact Int.emod_eq_of_lt (by omega) (by omega)
  refine ⟨⟨?_, ?_⟩, ⟨?_, ?_⟩, ?_, h1, h2⟩ <;> dsimp only <;> (try rw [e]) <;> (try split) <;> omega
def spRow (C : Addr) : Sp := fun vs H Q _ => ∃ ns : List Int, vs = .ref C :: ns.map V.int ∧ CapsOk ns ∧ ns.length ≤ 39 ∧ ∀ H2 x, Same H H2 → H x = none → NetAt H2 x C (ns.length + 1) (rowOf ns) → Q (.ref x) H2
def spRowB (C : Addr) : Sp := fun vs H Q _ => ∃ (ns : List Int) (t : Addr), vs = [.ref C, .ref t] ∧ H t = some (.tup (ns.map V.int)) ∧ CapsOk ns ∧ ns.length ≤ 39 ∧ ∀ H2 x, Same H H2 → H x = none → NetAt H2 x C (ns.length + 1) (rowOf ns) → Q (.ref x) H2
def spRing (C : Addr) : Sp := fun vs H Q _ => ∃ (x dx : Addr) (ns : List Int), vs = .ref x :: ns.map V.int ∧ H x = some (.ins C dx []) ∧ CapsOk ns ∧ 3 ≤ ns.length ∧ ns.length ≤ 40 ∧ ∀ H2, (∀ b o, H b = some o → b ≠ x → H2 b = some o) → NetAt H2 x C ns.length (ringOf ns) → Q .non H2
def spRingB (C : Addr) : Sp := fun vs H Q _ => ∃ (x dx t : Addr) (ns : List Int), vs = [.ref x, .ref t] ∧ H x = some (.ins C dx []) ∧ H t = some (.tup (ns.map V.int)) ∧ CapsOk ns ∧ 3 ≤ ns.length ∧ ns.length ≤ 40 ∧ ∀ H2, (∀ b o, H b = some o → b ≠ x → H2 b = some o) → NetAt H2 x C ns.length (ringOf ns) → Q .non H2
section
variable {P : Program} {w : World} {K : PySem.W.Frag} {mg : Str → Option Value} {base : Heap}
theorem ok_row {f C : Addr} {oc : Value} {od : Option Addr} {kV doc pm : Value} {an : Option Addr} {cdv ct : Value} {osl : Array (Option Value)} (lk : K.lookup f = some ⟨oc, od, .func (PySem.W.fnOf "row" "Pipeline.row" (defArgs s_Pipeline_row) (defBody s_Pipeline_row) (defScope s_Pipeline_row) .none kV doc pm an cdv ct), osl⟩)
    (hcd : PySem.W.codeIn K cdv "Pipeline.row" = true) (B : Blt mg) (G : ClsR P w K mg base C 4 (spPipe C)) : FnR P w K mg base (L2.CX P w) 6 f (spRow C) := by
  refine FnR.imp (fn_starP (k := 5) (ps := ["cls"]) (ks := []) (kv := []) (kvV := []) (pv := "capacities") (sp := spRowB C) lk hcd sc_Pipeline_row StX.cxUp (.of_eq fun u1 u2 hl => ?_) .nil rfl (fun A outer s H vs Q E hr h => ?_)) (fun vs H Q E h => ?_)
  · match u1, u2, hl with
    | [a], [], _ => rfl
    | [a], r :: rs, _ => rfl
  · obtain ⟨ns, t, rfl, ht, hc, hlen, k⟩ := h
    -- slots 0 cls, 1 capacities, 2 stages, 3 channels, 4 stage, 5 capacity
    refine ⟨_, pss_cons (ps_set (i := 2) sc_Pipeline_row.nd rfl (Or.inl rfl) (pe_op op_add (pe_callB call_len_seq (by rfl) B.len bt_len (pa_cons (pv 1) pa_nil)) pe_int))
      (pss_cons (ps_setLc (i := 3) (own := [("stage", 4), ("capacity", 5)]) rfl sc_Pipeline_row.nd rfl rfl (sw_true rfl rfl rfl (by decide +kernel)) (pi_et B.enum (pa_cons (pv 1) pa_nil)) (blkOk_by (N := nn_Pipeline_row) (sc := defScope s_Pipeline_row) (own := [("stage", 4), ("capacity", 5)]) (by decide +kernel))
          (fun _ _ _ _ _ => pg_tupK (K := K) (n := 2) rfl (pgs_cons (pg_name (i := 4) sc_Pipeline_row.nd rfl (Or.inl rfl)) (pgs_cons (pg_name (i := 5) sc_Pipeline_row.nd rfl (Or.inl rfl)) pgs_nil))) (fun _ _ _ _ _ => pts_nil) (fun _ _ _ _ _ => pe_tup (pa_cons (pv 4) (pa_cons (pe_op op_add (pv 4) pe_int) (pa_cons (pv 5) pa_nil)))))
      (pss_one (ps_ret (pe_cls (i := 0) G rfl (Or.inl rfl) hr psE (pa_cons (pv 2) (StX.pa_star (pv 3) pa_nil)))))), ?_⟩
    refine ⟨_, rfl, t, _, rfl, .inr (SqT.of ht), _, _, rfl, rfl, _, rfl, t, _, rfl, SqT.of ht, fun D hD => lc_it (walk_et (xs := ns.map V.int)) (fun i H2 => Same H H2 ∧ ∃ ks, H2 D = some (.lst ks) ∧ Paired (TriA H2) ((rowOf ns).take i) ks) ⟨Same.new hD, [], upd_same, .nil⟩ (fun i H2 _ q => SqT.of (q.1 _ _ ht)) ?_ ?_⟩
    · rintro i x H2 H3 hi ⟨s2, ks, k1, k2⟩ ⟨T1, x1, y1, rfl, hT, rfl, e1, e2⟩
      cases e1
      rw [List.length_map] at hi
      have q : ns[i]? = some ns[i] := by simp [hi]
      have e2 : (ns.map V.int)[i]? = some y1 := e2
      rw [List.getElem?_map, q] at e2
      obtain rfl := Option.some.inj e2
      refine ⟨T1, _, rfl, SqT.of upd_same, rfl, _, _, rfl, _, _, rfl, rfl, rfl, yes ⟨_, rfl, _, rfl, _, _, rfl, rfl, _, rfl, by show 3 ≤ sizeLine; decide, fun p hp => ⟨ks, ?_, ?_, ?_, ks ++ [.ref p], upd_same, ?_⟩⟩⟩
      · rw [upd_ne (ne_of_none (Same.new hT _ _ k1) hp), upd_ne (ne_of_none k1 hT)]
        exact k1
      · rw [← k2.length, List.length_take, rowOf_len]
        exact line_lt (by omega)
      · exact Same.newer (Same.newer (Same.newer s2 (Same.free s2 hT)) (Same.free (Same.newer s2 (Same.free s2 hT)) hp)) hD
      · have pD : p ≠ D := (ne_of_none (Same.new hT _ _ k1) hp).symm
        rw [take_snoc (rowOf_at q)]
        refine pr_snoc (Paired.mapP k2 fun c2 v2 ⟨t2, e1, e2⟩ => ⟨t2, e1, ?_⟩) ⟨p, rfl, by rw [upd_ne pD, upd_same]⟩
        rw [upd_ne (ne_of e2 k1 (by intro z; cases z)), upd_ne (ne_of_none (Same.new hT _ _ e2) hp), upd_ne (ne_of_none e2 hT)]
        exact e2
    · rintro H2 ⟨s2, ks, k1, k2⟩
      have el : (ns.map V.int).length = (rowOf ns).length := by rw [List.length_map, rowOf_len]
      rw [el, List.take_length] at k2
      have hok := rowOf_ok hc
      refine ⟨rfl, _, rfl, _, rfl, D, _, rfl, .inr (SqL.of k1), fun x dx hx hdx hne => ?_⟩
      rw [List.append_nil]
      have s3 : Same H2 (upd (upd H2 dx (.own x)) x (.ins C dx [])) := fun b o e => by
        rw [upd_ne (ne_of_none e hx), upd_ne (ne_of_none e hdx)]
        exact e
      refine ⟨x, dx, ns.length + 1, rowOf ns, ks, ?_, upd_same, by omega, by omega, tris_same s3 k2, hok, nodup_of_inc (f := fun c : Tri => c.1) (fun _ => rfl) (rowOf_inc ns), ⟨Int.toNat, fun c hc2 => ?_⟩, by rw [rowOf_len]; omega, fun H3 cs2 a b c d => ⟨rfl, ?_⟩⟩
      · rw [List.length_map]
        rfl
      · obtain ⟨i, q, _, rfl⟩ := rowOf_mem hc2
        show (i : Int).toNat < ((i : Int) + 1).toNat
        omega
      · have e := sorted_one a b (keys_inc (by omega) hok (rowOf_inc ns))
        subst e
        exact k H3 x (fun b2 o e => c b2 o (s3 _ _ (s2 _ _ e)) (ne_of_none (s2 _ _ e) hx)) (Same.free s2 hx) d
  · obtain ⟨ns, rfl, hc, hlen, k⟩ := h
    refine ⟨[.ref C], ns.map V.int, rfl, rfl, by rw [List.length_map]; exact line_of (by omega), fun p hp => ⟨ns, p, rfl, upd_same, hc, hlen, fun H2 x a b c => k H2 x ((Same.new hp).trans a) (Same.free (Same.new hp) b) c⟩⟩
end
end WC

set_option maxHeartbeats 4000000
namespace WC
open PySem PySem.Spec PyProof.Rows L2
section
variable {P : Program} {w : World} {K : PySem.W.Frag} {mg : Str → Option Value} {base : Heap}
theorem ok_Ring_init {f cc C N CI g : Addr} {kV lr : Value} (F : SFun P K "__init__" "Ring.__init__" s_Ring_init f cc C kV) (B : Blt mg) (Z : NetK K mg N) (hL : mg "LEAST_RING" = some lr) (hL3 : RelV (.int 3) lr)
    (G2 : StaR P w K mg base N "is_capacity" 2 (spCap K)) (T : ExcR P w K mg base "InvalidNet" CI 1 2 flI) (SP : SupTxt P K mg C C g "__init__") (G5 : FnR P w K mg base (L2.CX P w) 2 g (spNetInit C)) : FnR P w K mg base (L2.CX P w) 4 f (spRing C) := by
  refine FnR.imp (F.star (k := 3) (ps := ["self"]) (ks := []) (pv := "capacities") (kv := []) (kvV := []) (sp := spRingB C) sc_Ring_init .nil rfl (fun doc pm an cdv ct => .of_eq fun u1 u2 hl => ?_) ⟨_, rfl, rfl⟩ rfl rfl (fun cdv A outer s H vs Q E hr SZ h => ?_)) (fun vs H Q E h => ?_)
  · match u1, u2, hl with
    | [a], [], _ => rfl
    | [a], r :: rs, _ => rfl
  · obtain ⟨x, dx, t, ns, rfl, hx, ht, hc, h3, h40, k⟩ := h
    obtain ⟨mc, cr, ⟨u1, c1⟩, _, _, _⟩ := Z.cr
    -- slots 0 self, 1 capacities, 2 stages, 3 position, 4 capacity, 5 channels, 6 stage
    refine ⟨_, px_cons (ps_set (i := 2) sc_Ring_init.nod rfl (Or.inr rfl) (pe_callB call_len_seq (by rfl) B.len bt_len (pa_cons (pv 1) pa_nil)))
      (px_cons (ps_if (PW.pt (pw_or (pt_cmpR op_lt (pv 2) (pe_glob (v := .int 3) (by rfl) hL hL3) (nomark _)) (pw_or1 (pt_cmpR op_gt (pv 2) (ClX.pe_cval (pe_glob (v := .ref N) (by rfl) Z.gN rfl)) (nomark _))))) (pss_one (ps_raise rfl (takes_of rfl rfl rfl rfl) (pmk_x T hr (pa_cons pe_str (pa_cons pe_non pa_nil))))) pss_nil)
      (px_cons (ps_for (passes_of rfl) rfl (pi_et B.enum (pa_cons (pv 1) pa_nil)) (pg_tup rfl (pgs_cons (pg_name (i := 3) sc_Ring_init.nod rfl (Or.inl rfl)) (pgs_cons (pg_name (i := 4) sc_Ring_init.nod rfl (Or.inl rfl)) pgs_nil)))
        (pss_one (ps_if (pt_not (pt_val (pe_sta G2 (pe_glob (v := .ref N) (by rfl) Z.gN rfl) hr psS (pa_cons (pv 4) pa_nil)))) (pss_one (ps_raise rfl (takes_of rfl rfl rfl rfl) (pmk_x T hr (pa_cons pe_str (pa_cons (pv 3) pa_nil))))) pss_nil)))
      (px_cons (ps_setLc (i := 5) (own := [("stage", 6), ("capacity", 4)]) rfl sc_Ring_init.nod rfl rfl (sw_true rfl rfl rfl (by decide +kernel)) (pi_et B.enum (pa_cons (pv 1) pa_nil)) (blkOk_by (N := nn_Ring_init) (sc := defScope s_Ring_init) (own := [("stage", 6), ("capacity", 4)]) (by decide +kernel))
          (fun _ _ _ _ _ => pg_tupK (K := K) (n := 2) rfl (pgs_cons (pg_name (i := 6) sc_Ring_init.nod rfl (Or.inl rfl)) (pgs_cons (pg_name (i := 4) sc_Ring_init.nod rfl (Or.inl rfl)) pgs_nil))) (fun _ _ _ _ _ => pts_nil) (fun _ _ _ _ _ => pe_tup (pa_cons (pv 6) (pa_cons (pe_op op_modN (pe_op op_add (pv 6) pe_int) (pv 2)) (pa_cons (pv 4) pa_nil)))))
      (px_sup (i := 0) SP SZ G5 (hr.mono (by decide)) psS rfl (pa_cons (pv 2) (pa_cons (pv 5) pa_nil)) (px_of pss_nil))))), ?_⟩
    have hl : (ns.map V.int).length = ns.length := List.length_map _
    refine ⟨_, rfl, t, _, rfl, .inr (SqT.of ht), _, rfl, _, _, rfl, rfl, _, rfl, ?_⟩
    have q1 : decide (((ns.map V.int).length : Int) < 3) = false := by apply decide_eq_false; omega
    rw [q1]
    refine iteF ⟨_, rfl, N, mc, _, u1, rfl, cr, c1, _, _, rfl, rfl, _, rfl, ?_⟩
    have q2 : decide ((40 : Int) < ((ns.map V.int).length : Int)) = false := by apply decide_eq_false; omega
    rw [q2]
    refine iteF ⟨_, rfl, t, _, rfl, SqT.of ht, for_it (walk_et (xs := ns.map V.int)) (fun i σ H2 => ∃ v3 v4, σ = [some (.ref x), some (.ref t), some (.int ns.length), v3, v4, none, none] ∧ Same H H2) ⟨_, _, by rw [← hl]; rfl, Same.refl H⟩ ?_ ?_ ?_⟩
    · rintro i σ H2 _ ⟨_, _, _, s2⟩
      exact SqT.of (s2 _ _ ht)
    · rintro i y σ H2 H3 hi ⟨v3, v4, rfl, s2⟩ ⟨T1, x1, y1, rfl, hT, rfl, e1, e2⟩
      cases e1
      rw [List.length_map] at hi
      have q : ns[i]? = some ns[i] := by simp [hi]
      have e2 : (ns.map V.int)[i]? = some y1 := e2
      rw [List.getElem?_map, q] at e2
      obtain rfl := Option.some.inj e2
      obtain ⟨b1, b2⟩ := hc _ (List.mem_of_getElem? q)
      refine ⟨T1, _, rfl, SqT.of upd_same, rfl, _, _, rfl, _, _, rfl, rfl, rfl, _, rfl, _, rfl, nv _, _, rfl, ?_⟩
      rw [btw_in b1 b2]
      exact iteF ⟨_, _, rfl, Same.newer s2 (Same.free s2 hT)⟩
    · rintro σ H1 ⟨v3, v4, rfl, s1⟩
      have ht1 := s1 _ _ ht
      refine ⟨_, rfl, t, _, rfl, SqT.of ht1, fun D hD => lc_it (walk_et (xs := ns.map V.int)) (fun i H2 => Same H1 H2 ∧ ∃ ks, H2 D = some (.lst ks) ∧ Paired (TriA H2) ((ringOf ns).take i) ks) ⟨Same.new hD, [], upd_same, .nil⟩ (fun i H2 _ q => SqT.of (q.1 _ _ ht1)) ?_ ?_⟩
      · rintro i y H2 H3 hi ⟨s2, ks, k1, k2⟩ ⟨T1, x1, y1, rfl, hT, rfl, e1, e2⟩
        cases e1
        rw [List.length_map] at hi
        have q : ns[i]? = some ns[i] := by simp [hi]
        have e2 : (ns.map V.int)[i]? = some y1 := e2
        rw [List.getElem?_map, q] at e2
        obtain rfl := Option.some.inj e2
        refine ⟨T1, _, rfl, SqT.of upd_same, rfl, _, _, rfl, _, _, rfl, rfl, rfl, yes ⟨_, rfl, _, rfl, _, _, rfl, rfl, _, rfl, _, _, rfl, rfl, by omega, _, rfl, by show 3 ≤ sizeLine; decide, fun p hp => ⟨ks, ?_, ?_, ?_, ks ++ [.ref p], upd_same, ?_⟩⟩⟩
        · rw [upd_ne (ne_of_none (Same.new hT _ _ k1) hp), upd_ne (ne_of_none k1 hT)]
          exact k1
        · rw [← k2.length, List.length_take, ringOf_len]
          exact line_lt (by omega)
        · exact Same.newer (Same.newer (Same.newer s2 (Same.free s2 hT)) (Same.free (Same.newer s2 (Same.free s2 hT)) hp)) hD
        · have pD : p ≠ D := (ne_of_none (Same.new hT _ _ k1) hp).symm
          rw [take_snoc (ringOf_at q)]
          refine pr_snoc (Paired.mapP k2 fun c2 v2 ⟨t2, e1, e2⟩ => ⟨t2, e1, ?_⟩) ⟨p, rfl, ?_⟩
          · rw [upd_ne (ne_of e2 k1 (by intro z; cases z)), upd_ne (ne_of_none (Same.new hT _ _ e2) hp), upd_ne (ne_of_none e2 hT)]
            exact e2
          · have fe : Int.fmod ((i : Int) + 1) (ns.length : Int) = ((i : Int) + 1) % (ns.length : Int) := Int.fmod_eq_emod_of_nonneg _ (by omega)
            rw [upd_ne pD, upd_same]
            dsimp only
            rw [fe]
      · rintro H2 ⟨s2, ks, k1, k2⟩
        have el : (ns.map V.int).length = (ringOf ns).length := by rw [List.length_map, ringOf_len]
        rw [el, List.take_length] at k2
        have hok := ringOf_ok hc h3
        have s02 : Same H H2 := s1.trans s2
        refine ⟨x, dx, _, rfl, s02 _ _ hx, _, rfl, _, rfl, x, dx, D, ns.length, ringOf ns, ks, rfl, s02 _ _ hx, h40, by rw [ringOf_len]; omega, k1, k2, hok, fun H3 cs2 a b c d => ?_⟩
        have e := sorted_one a b (keys_inc h40 hok (ringOf_inc ns))
        subst e
        exact k H3 (fun b2 o e ne => c b2 o (s02 _ _ e) ne) d
  · obtain ⟨x, dx, ns, rfl, hx, hc, h3, h40, k⟩ := h
    refine ⟨[.ref x], ns.map V.int, rfl, rfl, by rw [List.length_map]; exact line_of (by omega), fun p hp => ⟨x, dx, p, ns, rfl, ?_, upd_same, hc, h3, h40, fun H2 a b => k H2 (fun b2 o e ne => a b2 o ?_ ne) b⟩⟩
    · rw [upd_ne (ne_of_none hx hp)]
      exact hx
    · rw [upd_ne (ne_of_none e hp)]
      exact e
end
end WC

set_option maxHeartbeats 4000000
namespace WC
open PySem PySem.Spec PyProof.Rows L2
def keepOf (ds : List Tri) : List Tri := ds.filter fun c => decide (∃ d ∈ ds, d.2.1 = c.1)
theorem rk_le {f : Tri → Nat} : ∀ {l : List Tri} {d : Tri}, d ∈ l → f d ≤ (l.map f).sum
  | x :: l, d, h => by
    rw [List.map_cons, List.sum_cons]
    rcases List.mem_cons.mp h with e | h
    · rw [e]; omega
    · have := rk_le (f := f) h
      omega
/-- what is kept has no circle: then there is none -/
theorem keep_acyc {ds : List Tri} (h : Acyc (keepOf ds)) : Acyc ds := by
  obtain ⟨r, hr⟩ := h
  classical
  refine ⟨fun p => if ∃ d ∈ ds, d.2.1 = p then r p + 1 else 0, fun c hc => ?_⟩
  dsimp only
  rw [if_pos (⟨c, hc, rfl⟩ : ∃ d ∈ ds, d.2.1 = c.2.1)]
  by_cases e : ∃ d ∈ ds, d.2.1 = c.1
  · rw [if_pos e]
    have := hr c (List.mem_filter.mpr ⟨hc, decide_eq_true e⟩)
    omega
  · rw [if_neg e]
    omega
theorem acyc_nil : Acyc [] := ⟨fun _ => 0, fun _ h => by cases h⟩
/-- has_circle of any channels -/
def spCir8 : Sp := fun vs H Q _ => ∃ (l : Addr) (cs : List Tri) (ws : List V), vs = [.ref l] ∧ H l = some (.lst ws) ∧ Paired (TriA H) cs ws ∧ cs.length ≤ 1000 ∧ ∀ H2 r, Same H H2 → (r = false ↔ Acyc cs) → Q (.bl r) H2
section
variable {P : Program} {w : World} {K : PySem.W.Frag} {mg : Str → Option Value} {base : Heap}
theorem ok_circle8 {f : Addr} {fd : FuncData} (F : Fun K "has_circle" "has_circle" s_has_circle f fd) (B : Blt mg) : FnOk P w K mg base (L2.CX P w) 1 f fd ["channels"] spCir8 := by
  refine F.okX sc_has_circle (fun vs H Q E h => ?_) (fun cdv A outer s H vs Q E hr h => ?_)
  · obtain ⟨l, cs, ws, rfl, _⟩ := h
    rfl
  · obtain ⟨l, cs, ws, rfl, hl, hp, hlen, k⟩ := h
    have hu := hu_of hr
    -- slots 0 channels, 1 left, 2 fed, 3 _, 4 consumer, 5 kept, 6 channel
    refine ⟨_, pss_cons (ps_set (i := 1) sc_has_circle.nd rfl (Or.inl rfl) (pv 0))
      (pss_cons (ps_while (passes_of rfl) (pt_truth (pv 1) (by intro _; rfl))
        (pss_cons (ps_set (i := 2) sc_has_circle.nd rfl (Or.inr rfl) (pe_dc (own := [("_", 3), ("consumer", 4)]) rfl sc_has_circle.nd (pi_list (pv 1)) (blkOk_by (N := nn_has_circle) (sc := defScope s_has_circle) (own := [("_", 3), ("consumer", 4)]) (by decide +kernel))
            (fun _ _ _ _ _ => pg_tupK (K := K) (n := 3) rfl (pgs_cons (pg_name (i := 3) sc_has_circle.nd rfl (Or.inl rfl)) (pgs_cons (pg_name (i := 4) sc_has_circle.nd rfl (Or.inl rfl)) (pgs_cons (pg_name (i := 3) sc_has_circle.nd rfl (Or.inl rfl)) pgs_nil)))) (fun _ _ _ _ _ => pts_nil) (fun _ _ _ _ _ => pv 4) (fun _ _ _ _ _ => pe_bl)))
        (pss_cons (ps_setLc (i := 5) (own := [("channel", 6)]) rfl sc_has_circle.nd rfl rfl (sw_true rfl rfl rfl (by decide +kernel)) (pi_list (pv 1)) (blkOk_by (N := nn_has_circle) (sc := defScope s_has_circle) (own := [("channel", 6)]) (by decide +kernel))
            (fun _ _ _ _ _ => pg_name (i := 6) sc_has_circle.nd rfl (Or.inl rfl)) (fun _ _ _ _ _ => pts_one (pt_cmp (pc_din (by exact hu) (pe_ix (i_tup (K := K)) (pv 6) pe_int (fun _ _ => rfl)) (pv 2)))) (fun _ _ _ _ _ => pv 6))
        (pss_cons (ps_if (pt_cmpR op_eq (pe_callB call_len_seq (by rfl) B.len bt_len (pa_cons (pv 5) pa_nil)) (pe_callB call_len_seq (by rfl) B.len bt_len (pa_cons (pv 1) pa_nil)) (nomark _)) (pss_one (ps_ret pe_bl)) pss_nil)
        (pss_one (ps_set (i := 1) sc_has_circle.nd rfl (Or.inl rfl) (pv 5)))))))
      (pss_one (ps_ret pe_bl))), ?_⟩
    refine ⟨_, rfl, ?_⟩
    dsimp only [gName]
    refine seqW ?_
    refine while_by (fun σ H2 => ∃ (a : Addr) (ds : List Tri) (us : List V) (v2 v3 v4 v5 v6 : Option V), σ = [some (.ref l), some (.ref a), v2, v3, v4, v5, v6] ∧ Same H H2 ∧ H2 a = some (.lst us) ∧ Paired (TriA H2) ds us ∧ ds.length ≤ 1000 ∧ (Acyc ds ↔ Acyc cs))
      leftLen ⟨l, cs, ws, _, _, _, _, _, rfl, Same.refl H, hl, hp, hlen, Iff.rfl⟩ ?_ ?_
    · rintro σ H2 ⟨a, ds, us, v2, v3, v4, v5, v6, rfl, s2, ha, hpd, hdl, sub⟩
      refine ⟨_, rfl, _, .inl ⟨us, SqL.of ha, rfl⟩, ?_⟩
      cases hE : us with
      | nil =>
        refine iteF ?_
        rw [hE] at hpd
        have e0 : ds = [] := List.eq_nil_of_length_eq_zero hpd.length
        exact k H2 false s2 ⟨fun _ => sub.mp (e0 ▸ acyc_nil), fun _ => rfl⟩
      | cons u0 us0 =>
        refine iteT ?_
        rw [hE] at ha hpd
        -- fed
        refine ⟨_, rfl, a, rfl, ⟨_, SqL.of ha⟩, fun D hD => dc_lst (K := K) (a := a) (xs := u0 :: us0) (fun i H3 => Same H2 H3 ∧ Fed H3 D (ds.take i) i) ⟨Same.new hD, [], upd_same, by simp, fun p => by simp [valV]⟩ (fun i H3 _ q => SqL.of (q.1 _ _ ha)) ?_ ?_⟩
        · rintro i x H3 hx ⟨s3, kvs, d1, d2, d3⟩
          obtain ⟨c, hc, t, rfl, ht⟩ := pr_at hpd hx
          have hi := (List.getElem?_eq_some_iff.mp hc).1
          refine ⟨t, _, rfl, SqT.of (s3 _ _ ht), rfl, _, _, rfl, _, _, rfl, _, _, rfl, rfl, rfl, yes ⟨_, rfl, kvs, Sum.inl c.2.1, rfl, d1, line_lt (by omega), Same.newer s3 hD, _, upd_same, ?_, fun p => ?_⟩⟩
          · exact Nat.le_trans (pk_len _ _ _) (by omega)
          · rw [valV_put, take_snoc hc]
            by_cases e : p = c.2.1
            · subst e
              rw [if_pos rfl]
              simp
            · rw [if_neg (fun z => e (Sum.inl.inj z)), d3 p]
              congr 1
              apply propext
              constructor
              · rintro ⟨c2, m, e2⟩
                exact ⟨c2, List.mem_append_left _ m, e2⟩
              · rintro ⟨c2, m, e2⟩
                rcases List.mem_append.mp m with m | m
                · exact ⟨c2, m, e2⟩
                · rw [List.mem_singleton.mp m] at e2
                  exact absurd e2.symm e
        · rintro H3 ⟨s3, kvs, d1, d2, d3⟩
          rw [← hpd.length, List.take_length] at d3
          -- kept
          refine ⟨_, rfl, a, rfl, ⟨_, SqL.of (s3 _ _ ha)⟩, fun R hR => lc_list (K := K) (a := a) (xs := u0 :: us0) (fun i H4 => Same H3 H4 ∧ ∃ ks, H4 R = some (.lst ks) ∧ Paired (TriA H4) ((ds.take i).filter fun c => decide (∃ d ∈ ds, d.2.1 = c.1)) ks) ⟨Same.new hR, [], upd_same, .nil⟩ (fun i H4 _ q => SqL.of (q.1 _ _ (s3 _ _ ha))) ?_ ?_⟩
          · rintro i x H4 hx ⟨s4, ks, r1, r2⟩
            obtain ⟨c, hc, t, rfl, ht⟩ := pr_at hpd hx
            have hi := (List.getElem?_eq_some_iff.mp hc).1
            have ht4 := s4 _ _ (s3 _ _ ht)
            refine ⟨rfl, _, rfl, t, _, _, _, rfl, rfl, SqT.of ht4, atI_nat (j := 0) rfl, _, rfl, D, _, rfl, DGet.k (k := Sum.inl c.1) (s4 _ _ d1), _, rfl, ?_⟩
            have hks : ks.length ≤ i := by
              rw [← r2.length]
              exact Nat.le_trans (List.length_filter_le _ _) (by rw [List.length_take]; omega)
            have e3 := d3 c.1
            cases hv : valV kvs (Sum.inl c.1 : Key) with
            | some v =>
              rw [hv] at e3
              have e4 : decide (∃ d ∈ ds, d.2.1 = c.1) = true := e3.symm
              refine iteT ⟨_, rfl, ks, r1, line_lt (by omega), Same.newer s4 hR, _, upd_same, ?_⟩
              rw [take_snoc hc, List.filter_append]
              have nx : ∀ {b xs}, H4 b = some (.tup xs) → b ≠ R := fun {b xs} e => ne_of e r1 (by intro z; cases z)
              refine pr_snoc (a := c) ?_ ?_ |> fun z => by
                have q : [c].filter (fun c => decide (∃ d ∈ ds, d.2.1 = c.1)) = [c] := by simp only [List.filter, e4]
                rw [q]
                exact z
              · exact Paired.mapP r2 fun c2 v2 ⟨t2, q1, q2⟩ => ⟨t2, q1, by rw [upd_ne (nx q2)]; exact q2⟩
              · exact ⟨t, rfl, by rw [upd_ne (nx ht4)]; exact ht4⟩
            | none =>
              rw [hv] at e3
              have e4 : decide (∃ d ∈ ds, d.2.1 = c.1) = false := e3.symm
              refine iteF ⟨s4, ks, r1, ?_⟩
              rw [take_snoc hc, List.filter_append]
              have q : [c].filter (fun c => decide (∃ d ∈ ds, d.2.1 = c.1)) = [] := by simp only [List.filter, e4]
              rw [q, List.append_nil]
              exact r2
          · rintro H4 ⟨s4, ks, r1, r2⟩
            rw [← hpd.length, List.take_length] at r2
            have ha4 := s4 _ _ (s3 _ _ ha)
            refine ⟨_, rfl, R, _, rfl, .inl (SqL.of r1), _, rfl, a, _, rfl, .inl (SqL.of ha4), rfl, _, rfl, ?_⟩
            have dne : ds ≠ [] := fun z => by
              rw [z] at hpd
              have q := hpd.length
              simp at q
            by_cases full : ks.length = (u0 :: us0).length
            · rw [full, show decide (V.int ((u0 :: us0).length : Int) = V.int ((u0 :: us0).length : Int)) = true from decide_eq_true rfl]
              refine iteT (k _ true (s2.trans (s3.trans s4)) ⟨fun z => (by cases z), fun ac => ?_⟩)
              exfalso
              obtain ⟨c0, m0, q0⟩ := (sub.mpr ac).first dne
              have z : (keepOf ds).length = ds.length := by
                have := r2.length
                unfold keepOf
                rw [this, full, hpd.length]
              have y := List.length_filter_eq_length_iff.mp z c0 m0
              obtain ⟨d, md, ed⟩ := of_decide_eq_true y
              exact q0 d md ed
            have hlt : ks.length < (u0 :: us0).length := by
              refine Nat.lt_of_le_of_ne ?_ full
              rw [← r2.length, ← hpd.length]
              exact List.length_filter_le _ _
            have q1 : decide (V.int (ks.length : Int) = V.int ((u0 :: us0).length : Int)) = false := by
              apply decide_eq_false
              intro z
              injection z with z
              omega
            rw [q1]
            refine iteF ⟨_, rfl, ⟨R, _, ks, _, _, _, _, _, rfl, s2.trans (s3.trans s4), r1, r2, Nat.le_trans (List.length_filter_le _ _) hdl, ⟨fun z => sub.mp (keep_acyc z), fun z => (sub.mpr z).sub fun c hc => (List.mem_filter.mp hc).1⟩⟩, ?_⟩
            have e1 : leftLen [some (V.ref l), some (V.ref R), some (V.ref D), v3, v4, some (V.ref R), v6] H4 = ks.length := by simp only [leftLen, List.getElem?_cons_succ, List.getElem?_cons_zero, r1]
            have e2 : leftLen [some (V.ref l), some (V.ref a), v2, v3, v4, v5, v6] H2 = (u0 :: us0).length := by simp only [leftLen, List.getElem?_cons_succ, List.getElem?_cons_zero, ha]
            show leftLen _ _ < leftLen _ _
            rw [e2]
            show leftLen [some (V.ref l), some (V.ref R), some (V.ref D), v3, v4, some (V.ref R), v6] H4 < _
            rw [e1]
            exact hlt
    · rintro σ H2 Q1 Q2 hm ⟨v, e, kk, t, q⟩
      exact ⟨v, e, kk, t, hm _ _ q⟩
end
end WC

set_option maxHeartbeats 8000000
namespace WC
open PySem PySem.Spec PyProof.Rows L2 SX
open Builtin.Float in
def iL (i : Int) : List Nat := if i < 0 then 45 :: TL.numL i.natAbs else TL.numL i.natAbs
theorem digs (n : Nat) : ((toString n : String)).toList = Nat.toDigits 10 n := Nat.toList_repr
theorem int_str (i : Int) : Str.ofString (toString i) = S (iL i) := by
  refine TL.ext_tl ?_
  show TL.tl (Str.ofString (toString i)) = iL i
  cases i with
  | ofNat n =>
    unfold iL
    rw [if_neg (by show ¬ (Int.ofNat n) < 0; exact Int.not_lt.mpr (Int.natCast_nonneg n))]
    exact TL.tl_num n
  | negSucc m =>
    unfold iL
    rw [if_pos (Int.negSucc_lt_zero m), TL.tl_ofString]
    show (String.toList ("-" ++ Nat.repr (m + 1))).map Char.toNat = 45 :: (Nat.toDigits 10 (m + 1)).map Char.toNat
    rw [String.toList_append, List.map_append, Nat.toList_repr]
    rfl
theorem iL_nat (n : Nat) : iL (n : Int) = TL.numL n := by
  unfold iL
  rw [if_neg (by omega)]
  rfl
def padR (w : Nat) (l : List Nat) : List Nat := List.replicate (w - l.length) 32 ++ l
def padL (w : Nat) (l : List Nat) : List Nat := l ++ List.replicate (w - l.length) 32
theorem rjust_S (l : List Nat) (w : Nat) : Txt.rjust (S l) (w : Int) = S (padR w l) := by
  unfold Txt.rjust
  rw [S_len]
  split
  · next h =>
    unfold padR
    rw [show w - l.length = 0 by omega]
    rfl
  · refine TL.ext_tl ?_
    unfold Builtin.Str.padded padR
    show (Array.replicate _ 32 ++ l.toArray ++ Array.replicate 0 32).toList = _
    rw [Int.toNat_natCast]
    simp
theorem ljust_S (l : List Nat) (w : Nat) : Txt.ljust (S l) (w : Int) = S (padL w l) := by
  unfold Txt.ljust
  rw [S_len]
  split
  · next h =>
    unfold padL
    rw [show w - l.length = 0 by omega]
    simp
  · refine TL.ext_tl ?_
    unfold Builtin.Str.padded padL
    show (Array.replicate 0 32 ++ l.toArray ++ Array.replicate _ 32).toList = _
    rw [Int.toNat_natCast]
    simp
theorem digs_ne (n : Nat) : ((Nat.toDigits 10 n).map Char.toNat).isEmpty = false := by
  have := TL.numL_ne n
  unfold TL.numL at this
  cases h : (Nat.toDigits 10 n).map Char.toNat with
  | nil => exact absurd h this
  | cons a b => rfl
theorem spec_r {sp : Str} {w : Nat} (hp : Builtin.Float.parseFormatSpec sp.cps.toList "int" 62 = .ok f) (h1 : f.fill = 32) (h2 : f.align = 62) (h3 : f.sign = none) (h4 : f.grouping = none) (h5 : f.width = some w) (i : Int) : intSpecTextOf sp i = S (padR w (iL i)) := by
  unfold intSpecTextOf
  rw [hp]
  show intSpecText f i = _
  unfold intSpecText intField'
  simp only [h1, h2, h3, h4, h5, show ((100 : Nat) == 88) = false by decide, Bool.false_eq_true, if_false, digs_ne]
  refine TL.ext_tl ?_
  unfold padR iL TL.numL
  by_cases hi : i < 0
  · simp [hi]
    omega
  · simp [hi]
theorem spec_l {sp : Str} {w : Nat} (hp : Builtin.Float.parseFormatSpec sp.cps.toList "int" 62 = .ok f) (h1 : f.fill = 32) (h2 : f.align = 60) (h3 : f.sign = none) (h4 : f.grouping = none) (h5 : f.width = some w) (i : Int) : intSpecTextOf sp i = S (padL w (iL i)) := by
  unfold intSpecTextOf
  rw [hp]
  show intSpecText f i = _
  unfold intSpecText intField'
  simp only [h1, h2, h3, h4, h5, show ((100 : Nat) == 88) = false by decide, Bool.false_eq_true, if_false, digs_ne]
  refine TL.ext_tl ?_
  unfold padL iL TL.numL
  by_cases hi : i < 0
  · simp [hi]
    omega
  · simp [hi]
theorem sp_r3 (i : Int) : intSpecTextOf (Str.ofString ">3") i = S (padR 3 (iL i)) := spec_r (by rfl) rfl rfl rfl rfl rfl i
theorem sp_r2 (i : Int) : intSpecTextOf (Str.ofString ">2") i = S (padR 2 (iL i)) := spec_r (by rfl) rfl rfl rfl rfl rfl i
theorem sp_r4 (i : Int) : intSpecTextOf (Str.ofString ">4") i = S (padR 4 (iL i)) := spec_r (by rfl) rfl rfl rfl rfl rfl i
theorem sp_l2 (i : Int) : intSpecTextOf (Str.ofString "<2") i = S (padL 2 (iL i)) := spec_l (by rfl) rfl rfl rfl rfl rfl i
theorem sp_l3 (i : Int) : intSpecTextOf (Str.ofString "<3") i = S (padL 3 (iL i)) := spec_l (by rfl) rfl rfl rfl rfl rfl i
end WC

set_option maxHeartbeats 4000000
namespace WC
open PySem PySem.Spec PyProof.Rows L2
def spCell (K : PySem.W.Frag) : Sp := fun vs H Q _ => ∃ (a : Addr) (ns : List Int) (k : Nat), vs = [.ref a, .int k] ∧ SqL K H a (ns.map V.int) ∧ ∀ (i : Int) H2, Same H H2 → Q (.int i) H2
def spBag (K : PySem.W.Frag) : Sp := fun vs H Q _ => ∃ (a : Addr) (ns : List Int) (k : Nat), vs = [.ref a, .int k] ∧ SqL K H a (ns.map V.int) ∧ ∀ b H2, Same H H2 → H b = none → BagAt H2 b → Q (.ref b) H2
def spDraw : Sp := fun vs H Q _ => ∃ (b : Addr) (m : Int), vs = [.ref b, .int m] ∧ BagAt H b ∧ 0 < m ∧ m < 1073741824 ∧ ∀ (d : Int) H2, 0 ≤ d → d < m → SameB b H H2 → BagAt H2 b → Q (.int d) H2
def spSame : Sp := fun vs H Q _ => ∃ v, vs = [v, v] ∧ plainV v = true ∧ Q (.bl true) H
def spSameRow : Sp := fun vs H Q _ => ∃ (t d : Addr) (xs : List Int), vs = [.ref t, .ref d] ∧ H t = some (.tup (xs.map V.int)) ∧ H d = some (.lst (xs.map V.int)) ∧ xs.length ≤ 1000 ∧ ∀ H2, Same H H2 → Q (.bl true) H2
theorem mod_rng (i : Int) {m : Int} (h : 0 < m) : 0 ≤ Int.fmod i m ∧ Int.fmod i m < m := ⟨Int.fmod_nonneg_of_pos i h, Int.fmod_lt_of_pos i h⟩
theorem mul_ok {i j : Int} (h : -(2 ^ 64) < j ∧ j < 2 ^ 64) : CMul i j := .inr h
theorem mul_okl {i j : Int} (h : -(2 ^ 64) < i ∧ i < 2 ^ 64) : CMul i j := .inl h
section
variable {P : Program} {w : World} {K : PySem.W.Frag} {mg : Str → Option Value} {base : Heap}
theorem ok_cell {f : Addr} {fd : FuncData} (F : Fun K "_law_cell" "_law_cell" s_law_cell f fd) (B : Blt mg) : FnOk P w K mg base (L2.CX P w) 1 f fd ["script", "k"] (spCell K) := by
  refine F.okX sc_law_cell (fun vs H Q E h => ?_) (fun cdv A outer s H vs Q E hr h => ?_)
  · obtain ⟨a, ns, k, rfl, _⟩ := h
    rfl
  · obtain ⟨a, ns, k, rfl, ha, q⟩ := h
    refine ⟨_, pss_cons (ps_if (pt_cmpR op_lt (pv 1) (pe_callB call_len_seq (by rfl) B.len bt_len (pa_cons (pv 0) pa_nil)) (nomark _)) (pss_one (ps_ret (pe_ix ix_list (pv 0) (pv 1) (fun _ _ => rfl)))) pss_nil)
      (pss_one (ps_ret (pe_op op_add (pe_op op_add (pe_op op_mul (pe_op op_modN (pe_callTy (T := "int") call_int1 (by rfl) B.int bt_int (pa_cons (pe_callB (cr_sum rfl) (by rfl) B.sum bt_sum (pa_cons (pe_slice sl_list (pv 0) po_none (po_some pe_int)) pa_nil)) pa_nil)) pe_int) pe_int) (pe_op op_mul (pv 1) pe_int)) pe_int))), ?_⟩
    refine ⟨_, rfl, _, rfl, a, _, rfl, .inl ha, _, _, rfl, rfl, _, rfl, ?_⟩
    refine ite2 (fun e => ?_) (fun e => ?_)
    · have hk : k < ns.length := by
        have e := of_decide_eq_true e
        rw [List.length_map] at e
        omega
      exact ⟨_, rfl, _, rfl, a, _, _, .int ns[k], rfl, rfl, ha, atI_nat (by simp [hk]), q _ H (Same.refl H)⟩
    · refine ⟨_, rfl, _, rfl, a, _, rfl, ha, fun p hp => ⟨p, ns.take 2, rfl, SqL.of ?_, .inl ⟨_, rfl, _, _, rfl, rfl, by show (_ : Int) ≠ 0; decide, _, _, rfl, rfl, mul_ok (by decide), _, rfl, _, _, rfl, rfl, mul_ok (by decide), _, _, rfl, rfl, _, _, rfl, rfl, q _ _ (Same.new hp)⟩⟩⟩
      rw [upd_same, List.map_take]
      congr 2
      unfold cutV
      have e1 : HT.sIx (ns.map V.int).length 0 none = 0 := rfl
      have e2 : HT.sIx (ns.map V.int).length (ns.map V.int).length (some (2 : Int)) = min 2 (ns.map V.int).length := HT.sIx_nat _ _ 2
      rw [e1, e2, List.drop_zero, Nat.sub_zero]
      by_cases h2 : 2 ≤ (ns.map V.int).length
      · rw [Nat.min_eq_left h2]
      · rw [Nat.min_eq_right (by omega), List.take_of_length_le (Nat.le_refl _), List.take_of_length_le (by omega)]
theorem ok_bag {f : Addr} {fd : FuncData} (F : Fun K "_law_bag" "_law_bag" s_law_bag f fd) (B : Blt mg) (G : DefR P w K mg base "_law_cell" 1 (spCell K)) : FnOk P w K mg base (L2.CX P w) 2 f fd ["script", "k"] (spBag K) := by
  refine F.okX sc_law_bag (fun vs H Q E h => ?_) (fun cdv A outer s H vs Q E hr h => ?_)
  · obtain ⟨a, ns, k, rfl, _⟩ := h
    rfl
  · obtain ⟨a, ns, k, rfl, ha, q⟩ := h
    refine ⟨_, pss_cons (ps_set (i := 2) sc_law_bag.nd rfl (Or.inl rfl) (pe_cd G hr psE (pa_cons (pv 0) (pa_cons (pv 1) pa_nil))))
      (pss_cons (ps_if (pt_cmpR op_ge (pv 2) (pe_op op_pow pe_int pe_int) (nomark _)) (pss_one (ps_ret (pe_lst (pa_cons (pe_op op_sub (pv 2) (pe_op op_pow pe_int pe_int)) (pa_cons pe_int pa_nil))))) pss_nil)
      (pss_one (ps_ret (pe_lst (pa_cons (pe_op op_modN (pe_callTy (T := "int") call_int1 (by rfl) B.int bt_int (pa_cons (pv 2) pa_nil)) pe_int) (pa_cons pe_int pa_nil)))))), ?_⟩
    refine ⟨_, rfl, _, rfl, a, ns, k, rfl, ha, fun i H2 s2 => ⟨_, rfl, _, _, rfl, rfl, ⟨by decide, by decide, by decide⟩, _, _, rfl, rfl, _, rfl, ?_⟩⟩
    refine ite2 (fun e => ?_) (fun e => ?_)
    · exact ⟨_, rfl, _, _, rfl, rfl, ⟨by decide, by decide, by decide⟩, _, _, rfl, rfl, by show 2 ≤ sizeLine; decide, fun p hp => q p _ (Same.newer s2 (Same.free s2 hp)) (Same.free s2 hp) ⟨_, _, upd_same⟩⟩
    · exact ⟨_, rfl, .inl ⟨_, rfl, _, _, rfl, rfl, (by show (_ : Int) ≠ 0; decide), by show 2 ≤ sizeLine; decide, fun p hp => q p _ (Same.newer s2 (Same.free s2 hp)) (Same.free s2 hp) ⟨_, _, upd_same⟩⟩⟩
theorem ok_draw {f : Addr} {fd : FuncData} (F : Fun K "_law_draw" "_law_draw" s_law_draw f fd) (B : Blt mg) : FnOk P w K mg base (L2.CX P w) 1 f fd ["bag", "many"] spDraw := by
  refine F.okX sc_law_draw (fun vs H Q E h => ?_) (fun cdv A outer s H vs Q E hr h => ?_)
  · obtain ⟨b, m, rfl, _⟩ := h
    rfl
  · obtain ⟨b, m, rfl, ⟨x, f0, hb⟩, m0, m1, q⟩ := h
    have i0 : ∀ {X : Cx} {e : Expr} {t : TE} {pos : Pos}, PE X e t → True := fun _ => trivial
    refine ⟨_, pss_cons (ps_if (pt_cmpR op_eq (pe_ix ix_list (pv 0) pe_int (fun _ _ => rfl)) pe_int (nomark _))
        (pss_cons (ps_set (i := 2) sc_law_draw.nd rfl (Or.inl rfl) (pe_op op_modN (pe_callTy (T := "int") call_int1 (by rfl) B.int bt_int (pa_cons (pe_ix ix_list (pv 0) pe_int (fun _ _ => rfl)) pa_nil)) (pv 1)))
        (pss_cons (ps_asg (pe_op op_fdivN (pe_ix ix_list (pv 0) pe_int (fun _ _ => rfl)) (pv 1)) (pg_sub (pv 0) pe_int set_list))
        (pss_one (ps_ret (pv 2))))) pss_nil)
      (pss_cons (ps_set (i := 3) sc_law_draw.nd rfl (Or.inl rfl) (pe_op op_modN (pe_callTy (T := "int") call_int1 (by rfl) B.int bt_int (pa_cons (pe_op op_add (pe_op op_add (pe_op op_mul (pe_ix ix_list (pv 0) pe_int (fun _ _ => rfl)) pe_int) (pe_op op_mul (pe_ix ix_list (pv 0) pe_int (fun _ _ => rfl)) pe_int)) pe_int) pa_nil)) pe_int))
      (pss_cons (ps_set (i := 3) sc_law_draw.nd rfl (Or.inl rfl) (pe_op op_modN (pe_callTy (T := "int") call_int1 (by rfl) B.int bt_int (pa_cons (pe_op op_add (pe_op op_add (pe_op op_mul (pv 3) (pv 3)) (pe_op op_mul (pe_ix ix_list (pv 0) pe_int (fun _ _ => rfl)) pe_int)) pe_int) pa_nil)) pe_int))
      (pss_cons (ps_set (i := 3) sc_law_draw.nd rfl (Or.inl rfl) (pe_op op_modN (pe_callTy (T := "int") call_int1 (by rfl) B.int bt_int (pa_cons (pe_op op_add (pe_op op_add (pe_op op_mul (pv 3) (pv 3)) (pe_ix ix_list (pv 0) pe_int (fun _ _ => rfl))) pe_int) pa_nil)) pe_int))
      (pss_cons (ps_asg (pe_op op_add (pe_ix ix_list (pv 0) pe_int (fun _ _ => rfl)) pe_int) (pg_sub (pv 0) pe_int set_list))
      (pss_one (ps_ret (pe_op op_modN (pe_callTy (T := "int") call_int1 (by rfl) B.int bt_int (pa_cons (pe_op op_fdivN (pv 3) pe_int) pa_nil)) (pv 1)))))))), ?_⟩
    have g0 : atI [V.int x, V.int f0] (0 : Int) = some (V.int x) := atI_nat (j := 0) rfl
    have g1 : atI [V.int x, V.int f0] (1 : Int) = some (V.int f0) := atI_nat (j := 1) rfl
    refine ⟨_, rfl, b, _, _, _, rfl, rfl, SqL.of hb, g1, rfl, _, rfl, ?_⟩
    refine ite2 (fun e => ?_) (fun e => ?_)
    · refine ⟨_, rfl, b, _, _, _, rfl, rfl, SqL.of hb, g0, .inl ⟨_, rfl, _, rfl, _, _, rfl, rfl, by omega, ?_⟩⟩
      refine ⟨_, rfl, b, _, _, _, rfl, rfl, SqL.of hb, g0, _, rfl, _, _, rfl, rfl, ⟨by omega, by omega⟩, _, rfl, b, _, _, 0, rfl, rfl, hb, rfl, ?_⟩
      exact ⟨_, rfl, q _ _ (mod_rng x m0).1 (mod_rng x m0).2 (SameB.refl b H).upd ⟨_, _, upd_same⟩⟩
    · refine ⟨_, rfl, b, _, _, _, rfl, rfl, SqL.of hb, g0, _, _, rfl, rfl, mul_ok (by decide), _, rfl, b, _, _, _, rfl, rfl, SqL.of hb, g1, _, _, rfl, rfl, mul_ok (by decide), _, _, rfl, rfl, _, _, rfl, rfl, .inl ⟨_, rfl, _, _, rfl, rfl, (by show (_ : Int) ≠ 0; decide), ?_⟩⟩
      have r1 := mod_rng (x * 48271 + f0 * 69621 + 13) (m := 2147483629) (by decide)
      refine ⟨_, rfl, _, rfl, _, _, rfl, rfl, mul_okl (by omega), _, rfl, b, _, _, _, rfl, rfl, SqL.of hb, g1, _, _, rfl, rfl, mul_ok (by decide), _, _, rfl, rfl, _, _, rfl, rfl, .inl ⟨_, rfl, _, _, rfl, rfl, (by show (_ : Int) ≠ 0; decide), ?_⟩⟩
      have r2 := mod_rng ((Int.fmod (x * 48271 + f0 * 69621 + 13) 2147483629) * (Int.fmod (x * 48271 + f0 * 69621 + 13) 2147483629) + f0 * 16807 + 5) (m := 2147483587) (by decide)
      refine ⟨_, rfl, _, rfl, _, _, rfl, rfl, mul_okl (by omega), _, rfl, b, _, _, _, rfl, rfl, SqL.of hb, g0, _, _, rfl, rfl, _, _, rfl, rfl, .inl ⟨_, rfl, _, _, rfl, rfl, (by show (_ : Int) ≠ 0; decide), ?_⟩⟩
      refine ⟨_, rfl, b, _, _, _, rfl, rfl, SqL.of hb, g1, _, _, rfl, rfl, _, rfl, b, _, _, 1, rfl, rfl, hb, rfl, ?_⟩
      exact ⟨_, rfl, _, _, rfl, rfl, ⟨by decide, by decide⟩, .inl ⟨_, rfl, _, rfl, _, _, rfl, rfl, by omega, q _ _ (mod_rng _ m0).1 (mod_rng _ m0).2 (SameB.refl b H).upd ⟨_, _, upd_same⟩⟩⟩
end
end WC

set_option maxHeartbeats 4000000
namespace WC
open PySem PySem.Spec PyProof.Rows L2
section
variable {P : Program} {w : World} {K : PySem.W.Frag} {mg : Str → Option Value} {base : Heap}
theorem okQ {x qual : Str} {st : Stmt} {f : Addr} {fd : FuncData} {N ps : List Str} {k : Nat} {sp : Sp} (F : Fun K x qual st f fd) (S : FnScope N ps (defScope st)) (len : ∀ vs H Q E, sp vs H Q E → vs.length = ps.length)
    (hbody : ∀ (cdv : Value) (A : Around) (outer : List Env) (s : Shared) (H : Hp) (vs : List V) (Q : VK), L2H.RoomH k (A.deeper (envOfC qual (defScope st) s.heap.objs.size f cdv)) → sp vs H Q E0 →
      ∃ t, PSs (cxQ (L2.CX P w) P w K mg base N qual (defScope st) f cdv A outer s H) (defBody st) t ∧ t { nx := fun _ H' => Q .non H', rt := Q } (start N vs) H) : FnQ P w K mg base (k + 1) f fd ps sp := by
  obtain ⟨oc, od, kV, doc, pm, an, cdv, ct, osl, rfl, lk, hcd⟩ := F.ex
  exact fn_ofQ lk hcd S len fun A outer s H vs Q hr hsp => hbody cdv A outer s H vs Q hr hsp
theorem kit_str {K : PySem.W.Frag} {H : Hp} {x : V} (k : Known K H x) : PySem.W.kitOne K (.type (tyN H x)) (.type "str") = some (match x with | .str _ => true | _ => false) := by
  cases x with
  | int i => exact kb "int" "str" false (by decide +kernel) rfl
  | bl b => exact kb "bool" "str" false (by decide +kernel) rfl
  | non  => exact kb "NoneType" "str" false (by decide +kernel) rfl
  | str z => exact kb "str" "str" true (by decide +kernel) rfl
  | ref a =>
    rcases @tyN_ref H a with q | q
    · exact kb "tuple" "str" false (by decide +kernel) q
    · exact kb "list" "str" false (by decide +kernel) q
  | byt b => exact k.elim
  | flt b => exact k.elim
  | ty n => exact k.elim
theorem known_plain {K : PySem.W.Frag} {H : Hp} {v : V} (h : plainV v = true) : Known K H v := by
  cases v with
  | int i => trivial
  | bl b => trivial
  | non => trivial
  | str z => trivial
  | ref a => cases h
  | byt b => cases h
  | flt b => cases h
  | ty n => cases h
theorem ok_same {f : Addr} {fd : FuncData} (F : Fun K "_law_same" "_law_same" s_law_same f fd) (B : Blt mg) : FnQ P w K mg base 1 f fd ["told", "due"] spSame := by
  refine okQ F sc_law_same (fun vs H Q E h => ?_) (fun cdv A outer s H vs Q hr h => ?_)
  · obtain ⟨v, rfl, _⟩ := h
    rfl
  · obtain ⟨v, rfl, hp, q⟩ := h
    have hk : Known K H v := known_plain hp
    refine ⟨_, pss_cons (ps_if (pt_cmpR op_isN (pv 1) pe_non (nomark _)) (pss_one (ps_ret (pe_cmpR op_isN (pv 0) pe_non (nomark _)))) pss_nil)
      (pss_cons (ps_if (pt_cmpR op_isB (pv 1) pe_bl (nomark _)) (pss_one (ps_ret (pe_cmpR op_isB (pv 0) pe_bl (nomark _)))) pss_nil)
      (pss_cons (ps_if (pt_cmpR op_isB (pv 1) pe_bl (nomark _)) (pss_one (ps_ret (pe_cmpR op_isB (pv 0) pe_bl (nomark _)))) pss_nil)
      (pss_cons (ps_if (pt_val (pe_callB call_isi (by rfl) B.isi bt_isi (pa_cons (pv 1) (pa_cons (pe_bltn (v := .ty "int") (by rfl) B.int bt_int rfl) pa_nil))))
        (pss_one (ps_ret (pe_and (pe_callB call_isi (by rfl) B.isi bt_isi (pa_cons (pv 0) (pa_cons (pe_bltn (v := .ty "int") (by rfl) B.int bt_int rfl) pa_nil)))
          (pe_and (pe_not (pe_callB call_isi (by rfl) B.isi bt_isi (pa_cons (pv 0) (pa_cons (pe_bltn (v := .ty "bool") (by rfl) B.bool (by decide +kernel) rfl) pa_nil)))) (pe_one (pe_cmpR op_eq (pv 0) (pv 1) (nomark _))))))) pss_nil)
      (pss_one (ps_ret (pe_and (pe_callB call_isi (by rfl) B.isi bt_isi (pa_cons (pv 0) (pa_cons (pe_bltn (v := .ty "str") (by rfl) B.str (by decide +kernel) rfl) pa_nil))) (pe_one (pe_cmpR op_eq (pv 0) (pv 1) (nomark _))))))))), ?_⟩
    refine ⟨_, rfl, rfl, _, rfl, ?_⟩
    cases v with
    | non => exact iteT ⟨_, rfl, rfl, q⟩
    | bl b =>
      refine iteF ⟨_, rfl, _, rfl, rfl, _, rfl, ?_⟩
      cases b with
      | true => exact iteT ⟨_, rfl, _, rfl, rfl, q⟩
      | false => exact iteF ⟨_, rfl, _, rfl, rfl, _, rfl, iteT ⟨_, rfl, _, rfl, rfl, q⟩⟩
    | int i =>
      refine iteF ⟨_, rfl, _, rfl, rfl, _, rfl, iteF ⟨_, rfl, _, rfl, rfl, _, rfl, iteF ⟨_, rfl, _, _, _, _, _, rfl, .ty _, hk.ty, kit_int hk, _, rfl, ?_⟩⟩⟩
      refine iteT ⟨_, rfl, _, _, _, _, _, rfl, .ty _, hk.ty, kit_int hk, _, rfl, ?_⟩
      refine iteT ⟨_, rfl, _, _, _, _, _, rfl, .ty _, hk.ty, kit_bool hk, _, rfl, _, rfl, ?_⟩
      exact iteT ⟨_, rfl, _, rfl, rfl, by simpa using q⟩
    | str z =>
      refine iteF ⟨_, rfl, _, rfl, rfl, _, rfl, iteF ⟨_, rfl, _, rfl, rfl, _, rfl, iteF ⟨_, rfl, _, _, _, _, _, rfl, .ty _, hk.ty, kit_int hk, _, rfl, ?_⟩⟩⟩
      refine iteF ⟨_, rfl, _, _, _, _, _, rfl, .ty _, hk.ty, kit_str hk, _, rfl, ?_⟩
      exact iteT ⟨_, rfl, _, rfl, rfl, by simpa using q⟩
    | ref a => cases hp
    | byt b => cases hp
    | flt b => cases hp
    | ty n => cases hp
end
end WC

set_option maxHeartbeats 4000000
namespace WC
open PySem PySem.Spec PyProof.Rows L2
theorem sqx_or {K : PySem.W.Frag} {H : Hp} {k : Bool} {a : Addr} {xs : List V} (h : SqX K H k a xs) : SqL K H a xs ∨ SqT K H a xs := by
  cases k with
  | true => exact .inr h
  | false => exact .inl h
theorem sqx_same {K : PySem.W.Frag} {H H2 : Hp} {k : Bool} {a : Addr} {xs : List V} (h : SqX K H k a xs) (s : Same H H2) : SqX K H2 k a xs := by
  cases k with
  | true => exact (show L2.SqT K H a xs from h).elim (fun h => .inl (h.elim (fun h => .inl (s _ _ h)) fun ⟨o, h⟩ => .inr ⟨o, s _ _ h⟩)) fun h => .inr h
  | false => exact (show L2.SqL K H a xs from h).elim (fun h => .inl (h.elim (fun h => .inl (s _ _ h)) fun ⟨o, h⟩ => .inr ⟨o, s _ _ h⟩)) fun h => .inr h
theorem sqx_ix {K : PySem.W.Frag} {H : Hp} {k : Bool} {a : Addr} {xs : List V} {i : Int} {v : V} {Q : VK} (h : SqX K H k a xs) (e : atI xs i = some v) (q : Q v H) : rIx K (.ref a) (.int i) H Q := by
  cases k with
  | true => exact .inr (.inl ⟨a, xs, i, v, rfl, rfl, h, e, q⟩)
  | false => exact .inl ⟨a, xs, i, v, rfl, rfl, h, e, q⟩
/-- a row told: the same values in the same order -/
def spSR (K : PySem.W.Frag) : Sp := fun vs H Q _ => ∃ (t d : Addr) (k : Bool) (xs : List V), vs = [.ref t, .ref d] ∧ H t = some (.tup xs) ∧ SqX K H k d xs ∧ xs.length ≤ 1000000 ∧ (∀ x ∈ xs, plainV x = true) ∧ ∀ H2, Same H H2 → Q (.bl true) H2
def RowV (H : Hp) (xs : List V) (v : V) : Prop := ∃ t, v = .ref t ∧ H t = some (.tup xs)
def spSRs (K : PySem.W.Frag) : Sp := fun vs H Q _ => ∃ (t d : Addr) (k : Bool) (ts ds : List V) (rows : List (List V)), vs = [.ref t, .ref d] ∧ H t = some (.tup ts) ∧ SqX K H k d ds ∧ Paired (RowV H) rows ts ∧ Paired (RowV H) rows ds ∧ rows.length ≤ 1000000 ∧ (∀ r ∈ rows, r.length ≤ 1000000 ∧ ∀ x ∈ r, plainV x = true) ∧ ∀ H2, Same H H2 → Q (.bl true) H2
section
variable {P : Program} {w : World} {K : PySem.W.Frag} {mg : Str → Option Value} {base : Heap}
theorem ok_same_row {f : Addr} {fd : FuncData} (F : Fun K "_law_same_row" "_law_same_row" s_law_same_row f fd) (B : Blt mg) (g_law_same : DefQ P w K mg base "_law_same" 1 spSame) : FnOk P w K mg base (L2.CX P w) 2 f fd ["told", "due"] (spSR K) := by
  refine F.okX sc_law_same_row (fun vs H Q E h => ?_) (fun cdv A outer s H vs Q E hr h => ?_)
  · obtain ⟨t, d, k, xs, rfl, _⟩ := h
    rfl
  · obtain ⟨t, d, k, xs, rfl, ht, hd, hlen, pl, q⟩ := h
    have hrq := L2H.roomH_of hr
    -- slots: 0 told, 1 due, 2 k
    refine ⟨_, (pss_cons (ps_if (PW.pt (pw_or (pt_not (pt_val (pe_callB call_isi (by rfl) B.isi bt_isi (pa_cons (pv 0) (pa_cons (pe_bltn (v := .ty "tuple") (by rfl) B.tuple bt_tuple rfl) pa_nil))))) (pw_or1 (pt_cmpR op_ne (pe_callB call_len_seq (by rfl) B.len bt_len (pa_cons (pv 0) pa_nil)) (pe_callB call_len_seq (by rfl) B.len bt_len (pa_cons (pv 1) pa_nil)) (nomark _))))) (pss_one (ps_ret pe_bl)) pss_nil)
      (pss_cons (ps_for (passes_of rfl) rfl (pi_range1 (by rfl) B.range (pa_cons (pe_callB call_len_seq (by rfl) B.len bt_len (pa_cons (pv 1) pa_nil)) pa_nil)) (pg_name (i := 2) sc_law_same_row.nd rfl (Or.inl rfl))
        (pss_one (ps_if (pt_not (pt_val (pe_cq g_law_same hrq (pa_cons (pe_ix ix_tup (pv 0) (pv 2) (fun _ _ => rfl)) (pa_cons (pe_ix ix_seq (pv 1) (pv 2) (fun _ _ => rfl)) pa_nil))))) (pss_one (ps_ret pe_bl)) pss_nil)))
      (pss_one (ps_ret pe_bl)))), ?_⟩
    refine ⟨_, rfl, _, _, _, _, _, rfl, .ty _, .base (.tup ht), kit_ty (r := true) (by decide +kernel), _, rfl, ?_⟩
    refine iteF ⟨_, rfl, t, _, rfl, .inr (SqT.of ht), _, rfl, d, _, rfl, sqx_or hd, rfl, _, rfl, ?_⟩
    have e0 : (!decide (V.int (xs.length : Nat) = V.int (xs.length : Nat))) = false := by simp
    rw [e0]
    refine iteF ⟨_, rfl, d, _, rfl, sqx_or hd, _, rfl, by omega, by omega, for_range (lo := 0) (n := xs.length) (fun i σ H2 => ∃ v2, σ = [some (.ref t), some (.ref d), v2] ∧ Same H H2) ⟨_, rfl, Same.refl H⟩ ?_ ?_⟩
    · rintro i σ H2 hi ⟨v2, rfl, s2⟩
      have e1 : xs[i]? = some xs[i] := by simp [hi]
      have e2 : atI xs ((0 : Int) + i) = some xs[i] := by rw [Int.zero_add]; exact atI_nat e1
      refine ⟨_, rfl, _, rfl, t, _, _, _, rfl, rfl, SqT.of (s2 _ _ ht), e2, _, rfl, _, rfl, sqx_ix (sqx_same hd s2) e2 ⟨_, rfl, pl _ (List.getElem_mem hi), _, rfl, iteF ⟨_, rfl, s2⟩⟩⟩
    · rintro σ H2 ⟨v2, rfl, s2⟩
      exact q _ s2
theorem ok_same_rows {f : Addr} {fd : FuncData} (F : Fun K "_law_same_rows" "_law_same_rows" s_law_same_rows f fd) (B : Blt mg) (g_law_same_row : DefR P w K mg base "_law_same_row" 2 (spSR K)) : FnOk P w K mg base (L2.CX P w) 3 f fd ["told", "due"] (spSRs K) := by
  refine F.okX sc_law_same_rows (fun vs H Q E h => ?_) (fun cdv A outer s H vs Q E hr h => ?_)
  · obtain ⟨t, d, k, ts, ds, rows, rfl, _⟩ := h
    rfl
  · obtain ⟨t, d, k, ts, ds, rows, rfl, ht, hd, pt_, pd, hlen, pl, q⟩ := h
    -- slots: 0 told, 1 due, 2 k
    refine ⟨_, (pss_cons (ps_if (PW.pt (pw_or (pt_not (pt_val (pe_callB call_isi (by rfl) B.isi bt_isi (pa_cons (pv 0) (pa_cons (pe_bltn (v := .ty "tuple") (by rfl) B.tuple bt_tuple rfl) pa_nil))))) (pw_or1 (pt_cmpR op_ne (pe_callB call_len_seq (by rfl) B.len bt_len (pa_cons (pv 0) pa_nil)) (pe_callB call_len_seq (by rfl) B.len bt_len (pa_cons (pv 1) pa_nil)) (nomark _))))) (pss_one (ps_ret pe_bl)) pss_nil)
      (pss_cons (ps_for (passes_of rfl) rfl (pi_range1 (by rfl) B.range (pa_cons (pe_callB call_len_seq (by rfl) B.len bt_len (pa_cons (pv 1) pa_nil)) pa_nil)) (pg_name (i := 2) sc_law_same_rows.nd rfl (Or.inl rfl))
        (pss_one (ps_if (pt_not (pt_val (pe_cd g_law_same_row hr psE (pa_cons (pe_ix ix_tup (pv 0) (pv 2) (fun _ _ => rfl)) (pa_cons (pe_ix ix_seq (pv 1) (pv 2) (fun _ _ => rfl)) pa_nil))))) (pss_one (ps_ret pe_bl)) pss_nil)))
      (pss_one (ps_ret pe_bl)))), ?_⟩
    have lt := pt_.length
    have ll := pd.length
    refine ⟨_, rfl, _, _, _, _, _, rfl, .ty _, .base (.tup ht), kit_ty (r := true) (by decide +kernel), _, rfl, ?_⟩
    refine iteF ⟨_, rfl, t, _, rfl, .inr (SqT.of ht), _, rfl, d, _, rfl, sqx_or hd, rfl, _, rfl, ?_⟩
    have e0 : (!decide (V.int (ts.length : Nat) = V.int (ds.length : Nat))) = false := by simp; omega
    rw [e0]
    refine iteF ⟨_, rfl, d, _, rfl, sqx_or hd, _, rfl, by omega, by omega, for_range (lo := 0) (n := ds.length) (fun i σ H2 => ∃ v2, σ = [some (.ref t), some (.ref d), v2] ∧ Same H H2) ⟨_, rfl, Same.refl H⟩ ?_ ?_⟩
    · rintro i σ H2 hi ⟨v2, rfl, s2⟩
      have h0 : i < rows.length := by omega
      have hr0 : rows[i]? = some rows[i] := by simp [h0]
      obtain ⟨v, e1, t1, rfl, ht1⟩ := pr_to pt_ hr0
      obtain ⟨u, e2, d1, rfl, hd1⟩ := pr_to pd hr0
      have a1 : atI ts ((0 : Int) + i) = some (.ref t1) := by rw [Int.zero_add]; exact atI_nat e1
      have a2 : atI ds ((0 : Int) + i) = some (.ref d1) := by rw [Int.zero_add]; exact atI_nat e2
      obtain ⟨p1, p2⟩ := pl _ (List.getElem_mem h0)
      refine ⟨_, rfl, _, rfl, t, _, _, _, rfl, rfl, SqT.of (s2 _ _ ht), a1, _, rfl, _, rfl, sqx_ix (sqx_same hd s2) a2 ⟨t1, d1, true, _, rfl, s2 _ _ ht1, SqT.of (s2 _ _ hd1), p1, p2, fun H3 s3 => ⟨_, rfl, iteF ⟨_, rfl, s2.trans s3⟩⟩⟩⟩
    · rintro σ H2 ⟨v2, rfl, s2⟩
      exact q _ s2
end
end WC

set_option maxHeartbeats 4000000
namespace WC
open PySem PySem.Spec PyProof.Rows L2
/-- 0, 1, .. n - 1 -/
def upto (n : Nat) : List Int := (List.range n).map Int.ofNat
theorem upto_len (n : Nat) : (upto n).length = n := by unfold upto; simp
theorem upto_succ (n : Nat) : upto (n + 1) = upto n ++ [(n : Int)] := by
  unfold upto
  rw [List.range_succ, List.map_append]
  rfl
theorem upto_mem {n : Nat} {x : Int} : x ∈ upto n ↔ 0 ≤ x ∧ x < n := by
  unfold upto
  rw [List.mem_map]
  constructor
  · rintro ⟨i, hi, rfl⟩
    rw [List.mem_range] at hi
    exact ⟨Int.natCast_nonneg i, Int.ofNat_lt.mpr hi⟩
  · rintro ⟨h0, h1⟩
    exact ⟨x.toNat, by rw [List.mem_range]; omega, by show (x.toNat : Int) = x; omega⟩
theorem upto_nodup (n : Nat) : (upto n).Nodup := by
  unfold upto
  rw [List.Nodup, List.pairwise_map]
  refine List.nodup_range.imp fun {a b} h e => h (Int.ofNat.inj e)
theorem seq_at {i : Int} {n : Nat} (h0 : 0 ≤ i) (h1 : i < n) : seqIndex? i n = some i.toNat := by
  have e : (decide (0 ≤ i) && decide (i < (n : Int))) = true := by simp [h0, h1]
  unfold seqIndex?
  simp only [show ¬ i < 0 by omega, if_false]
  rw [if_pos e]
theorem perm_pop {y : Int} : ∀ {l : List Int} {k : Nat}, l[k]? = some y → (y :: l.eraseIdx k).Perm l
  | [], k, h => by simp at h
  | a :: l, 0, h => by
    have e : a = y := by simpa using h
    rw [e]
    exact .refl _
  | a :: l, k + 1, h => by
    have h : l[k]? = some y := by simpa using h
    exact (List.Perm.swap a y _).trans ((perm_pop h).cons a)
theorem map_erase {α β : Type} (g : α → β) : ∀ (l : List α) (k : Nat), (l.map g).eraseIdx k = (l.eraseIdx k).map g
  | [], _ => by simp
  | a :: l, 0 => by simp
  | a :: l, k + 1 => by simp [map_erase g l k]
/-- _law_order: a drawn order of 0 .. n - 1 -/
def spOrder : Sp := fun vs H Q _ => ∃ (b : Addr) (n : Nat), vs = [.ref b, .int n] ∧ BagAt H b ∧ n ≤ 1000 ∧ ∀ (r : Addr) (ps : List Int) H2, SameB b H H2 → BagAt H2 b → H r = none → H2 r = some (.lst (ps.map V.int)) → ps.Perm (upto n) → Q (.ref r) H2
/-- while a row is drawn: L what is left, R what was drawn -/
structure Drw (H H2 : Hp) (b L R : Addr) (n i : Nat) (lft rw : List Int) : Prop where
  same : SameB b H H2
  bag : BagAt H2 b
  nL : H L = none
  nR : H R = none
  ne : L ≠ R
  hL : H2 L = some (.lst (lft.map V.int))
  hR : H2 R = some (.lst (rw.map V.int))
  perm : (rw ++ lft).Perm (upto n)
  len : lft.length = n - i
  rlen : rw.length = i
section
variable {P : Program} {w : World} {K : PySem.W.Frag} {mg : Str → Option Value} {base : Heap}
theorem ok_order {f : Addr} {fd : FuncData} (F : Fun K "_law_order" "_law_order" s_law_order f fd) (B : Blt mg) (G : DefR P w K mg base "_law_draw" 1 spDraw) : FnOk P w K mg base (L2.CX P w) 2 f fd ["bag", "many"] spOrder := by
  refine F.okX sc_law_order (fun vs H Q E h => ?_) (fun cdv A outer s H vs Q E hr h => ?_)
  · obtain ⟨b, n, rfl, _⟩ := h
    rfl
  · obtain ⟨b, n, rfl, hb, hn, q⟩ := h
    -- slots 0 bag, 1 many, 2 left, 3 k, 4 row
    refine ⟨_, pss_cons (ps_setLc (i := 2) (own := [("k", 3)]) rfl sc_law_order.nd rfl rfl (sw_true rfl rfl rfl (by decide +kernel)) (pi_range1 (by rfl) B.range (pa_cons (pv 1) pa_nil)) (blkOk_by (N := nn_law_order) (sc := defScope s_law_order) (own := [("k", 3)]) (by decide +kernel))
        (fun _ _ _ _ _ => pg_name (i := 3) sc_law_order.nd rfl (Or.inl rfl)) (fun _ _ _ _ _ => pts_nil) (fun _ _ _ _ _ => pv 3))
      (pss_cons (ps_set (i := 4) sc_law_order.nd rfl (Or.inl rfl) (pe_lst pa_nil))
      (pss_cons (ps_for (passes_of rfl) rfl (pi_range1 (by rfl) B.range (pa_cons (pv 1) pa_nil)) (pg_name (i := 3) sc_law_order.nd rfl (Or.inl rfl))
        (pss_one (ps_expr (pe_bm PySem.F.plainAttrs_list PySem.F.slot_list_append PySem.F.type_list_append mt_append (pv 4) (pa_cons
          (pe_bm PySem.F.plainAttrs_list PySem.F.slot_list_pop PySem.F.type_list_pop mt_popAt (pv 2) (pa_cons (pe_cd G hr psE (pa_cons (pv 0) (pa_cons (pe_callB call_len_seq (by rfl) B.len bt_len (pa_cons (pv 2) pa_nil)) pa_nil))) pa_nil)) pa_nil)))))
      (pss_one (ps_ret (pv 4))))), ?_⟩
    refine ⟨_, rfl, (n : Int), rfl, by omega, by omega, fun D hD => lc_range (lo := 0) (n := n) (fun i H2 => Same H H2 ∧ H2 D = some (.lst ((upto i).map V.int))) ⟨Same.new hD, upd_same⟩ ?_ ?_⟩
    · rintro i H2 hi ⟨s2, e2⟩
      refine ⟨rfl, yes ⟨_, rfl, _, e2, by rw [List.length_map, upto_len]; exact line_lt (by omega), Same.newer s2 hD, ?_⟩⟩
      rw [upd_same, upto_succ, List.map_append, Int.zero_add]
      rfl
    · rintro H2 ⟨s2, e2⟩
      refine ⟨by show 0 ≤ sizeLine; decide, fun R hR => ?_⟩
      have DR : D ≠ R := fun z => by rw [← z, e2] at hR; cases hR
      have hb2 : BagAt H2 b := hb.same s2
      have nbR : b ≠ R := fun z => by obtain ⟨x, y, e⟩ := hb2; rw [z, hR] at e; cases e
      refine ⟨_, rfl, (n : Int), rfl, by omega, by omega, for_range (lo := 0) (n := n) (fun i σ H3 => ∃ v3 lft rw, σ = [some (.ref b), some (.int n), some (.ref D), v3, some (.ref R)] ∧ Drw H H3 b D R n i lft rw) ⟨_, upto n, [], rfl, ⟨(SameB.of s2).put (Same.free s2 hR), hb2.same (Same.new hR), hD, Same.free s2 hR, DR, by rw [upd_ne DR]; exact e2, upd_same, by simp, by rw [upto_len]; rfl, rfl⟩⟩ ?_ ?_⟩
      · rintro i σ H3 hi ⟨v3, lft, rw_, rfl, d⟩
        have nbD : b ≠ D := fun z => by obtain ⟨x, y, e⟩ := d.bag; have := d.hL; rw [← z, e] at this; have z2 := hb; rw [z] at z2; obtain ⟨x2, y2, e2⟩ := z2; rw [d.nL] at e2; cases e2
        refine ⟨_, rfl, .inl ⟨rfl, _, SqL.of d.hR⟩, _, rfl, .inl ⟨rfl, _, SqL.of d.hL⟩, _, rfl, _, rfl, D, _, rfl, .inl (SqL.of d.hL), b, (lft.length : Int), by rw [List.length_map], d.bag, by have := d.len; omega, by have := d.len; omega, fun k H4 k0 k1 s4 b4 => ?_⟩
        have hL4 : H4 D = some (.lst (lft.map V.int)) := s4 _ _ d.hL (Ne.symm nbD)
        have hR4 : H4 R = some (.lst (rw_.map V.int)) := s4 _ _ d.hR (Ne.symm nbR)
        obtain ⟨y, hy⟩ : ∃ y, lft[k.toNat]? = some y := ⟨lft[k.toNat]'(by omega), by simp⟩
        have hk : k.toNat < lft.length := (List.getElem?_eq_some_iff.mp hy).1
        refine ⟨D, _, k, k.toNat, .int y, rfl, rfl, hL4, by have := d.len; omega, by have := d.len; omega, by rw [List.length_map]; exact seq_at k0 k1, by rw [List.getElem?_map, hy]; rfl, ?_⟩
        refine ⟨R, _, _, rfl, rfl, by rw [upd_ne (Ne.symm d.ne)]; exact hR4, by rw [List.length_map, d.rlen]; exact line_lt (by omega), ?_⟩
        refine ⟨_, lft.eraseIdx k.toNat, rw_ ++ [y], rfl, ⟨?_, ?_, d.nL, d.nR, d.ne, ?_, ?_, ?_, ?_, ?_⟩⟩
        · intro c o e n2
          rw [upd_ne (ne_of_none e d.nR), upd_ne (ne_of_none e d.nL)]
          exact s4 _ _ (d.same _ _ e n2) n2
        · obtain ⟨x, y2, e⟩ := b4
          exact ⟨x, y2, by rw [upd_ne nbR, upd_ne nbD]; exact e⟩
        · rw [upd_ne d.ne, upd_same, map_erase]
        · rw [upd_same, List.map_append]
          rfl
        · refine List.Perm.trans ?_ d.perm
          rw [List.append_assoc]
          exact (perm_pop hy).append_left _
        · rw [List.length_eraseIdx, if_pos hk, d.len]
          omega
        · rw [List.length_append, d.rlen]
          rfl
      · rintro σ H3 ⟨v3, lft, rw_, rfl, d⟩
        have e : lft = [] := List.length_eq_zero_iff.mp (by rw [d.len]; omega)
        subst e
        exact ⟨_, rfl, q R rw_ H3 d.same d.bag d.nR d.hR (by have := d.perm; rwa [List.append_nil] at this)⟩
end
end WC

set_option maxHeartbeats 4000000
namespace WC
open PySem PySem.Spec PyProof.Rows L2
def spSize : Sp := fun vs H Q _ => ∃ (b : Addr) (wd : Int), vs = [.ref b, .int wd] ∧ BagAt H b ∧ (1 ≤ wd ∧ wd ≤ 999) ∧ ∀ (c : Int) H2, 1 ≤ c ∧ c ≤ 999 → SameB b H H2 → BagAt H2 b → Q (.int c) H2
section
variable {P : Program} {w : World} {K : PySem.W.Frag} {mg : Str → Option Value} {base : Heap}
theorem ok_size {f : Addr} {fd : FuncData} (F : Fun K "_law_size" "_law_size" s_law_size f fd) (G : DefR P w K mg base "_law_draw" 1 spDraw) : FnOk P w K mg base (L2.CX P w) 2 f fd ["bag", "wide"] spSize := by
  refine F.okX sc_law_size (fun vs H Q E h => ?_) (fun cdv A outer s H vs Q E hr h => ?_)
  · obtain ⟨b, n, rfl, _⟩ := h
    rfl
  · obtain ⟨b, wd, rfl, hb, hw, q⟩ := h
    refine ⟨_, pss_cons (ps_set (i := 2) sc_law_size.nd rfl (Or.inl rfl) (pe_cd G hr psE (pa_cons (pv 0) (pa_cons pe_int pa_nil))))
      (pss_cons (ps_if (pt_cmpR op_eq (pv 2) pe_int (nomark _)) (pss_one (ps_ret (pe_op op_add pe_int (pe_cd G hr psE (pa_cons (pv 0) (pa_cons pe_int pa_nil)))))) pss_nil)
      (pss_cons (ps_if (pt_cmpR op_eq (pv 2) pe_int (nomark _)) (pss_one (ps_ret (pe_op op_sub pe_int (pe_op op_mul pe_int (pe_cd G hr psE (pa_cons (pv 0) (pa_cons pe_int pa_nil))))))) pss_nil)
      (pss_one (ps_ret (pe_op op_add pe_int (pe_cd G hr psE (pa_cons (pv 0) (pa_cons (pv 1) pa_nil)))))))), ?_⟩
    refine ⟨_, rfl, b, 8, rfl, hb, by decide, by decide, fun k H2 k0 k1 s2 b2 => ⟨_, rfl, rfl, _, rfl, ?_⟩⟩
    refine ite2 (fun e => ⟨_, rfl, b, 999, rfl, b2, by decide, by decide, fun m H3 m0 m1 s3 b3 => ⟨_, _, rfl, rfl, q _ _ (by omega) (s2.trans s3) b3⟩⟩) (fun e => ?_)
    refine ⟨_, rfl, rfl, _, rfl, ?_⟩
    refine ite2 (fun e => ⟨_, rfl, b, 2, rfl, b2, by decide, by decide, fun m H3 m0 m1 s3 b3 => ⟨_, _, rfl, rfl, mul_okl (by decide), _, _, rfl, rfl, q _ _ (by omega) (s2.trans s3) b3⟩⟩) (fun e => ?_)
    exact ⟨_, rfl, _, rfl, b, wd, rfl, b2, by omega, by omega, fun m H3 m0 m1 s3 b3 => ⟨_, _, rfl, rfl, q _ _ (by omega) (s2.trans s3) b3⟩⟩
end
end WC

set_option maxHeartbeats 8000000
namespace WC
open PySem PySem.Spec PyProof.Rows L2
/-- while links are drawn: T the order, D the dict -/
structure Lnk (H H2 : Hp) (b T D : Addr) (ts : List Int) (ms : List Tri) : Prop where
  same : SameB b H H2
  bag : BagAt H2 b
  bagO : BagAt H b
  nT : H T = none
  nD : H D = none
  ne : T ≠ D
  hT : H2 T = some (.lst (ts.map V.int))
  hD : H2 D = some (.dT (ms.map ent))
  nd : (ms.map pairOf2).Nodup
  ok : ∀ c ∈ ms, LkOk ts c
theorem bag_ne {H : Hp} {b p : Addr} (h : BagAt H b) (hp : H p = none) : b ≠ p := fun z => by
  obtain ⟨x, y, e⟩ := h
  rw [z, hp] at e
  cases e
theorem Lnk.put {H H2 H3 : Hp} {b T D q : Addr} {ts : List Int} {ms : List Tri} (L : Lnk H H2 b T D ts ms) (s3 : SameB b H2 H3) (b3 : BagAt H3 b) {i j : Nat} {x y c : Int} (hij : i < j) (hi : ts[i]? = some x) (hj : ts[j]? = some y) (hc : 1 ≤ c ∧ c ≤ 999) (hq : H3 q = none) (hl : ms.length < 1000) :
    ∃ H5 ms2, DPut (upd H3 q (.tup [.int x, .int y])) D (.ref q) (.int c) H5 ∧ Lnk H H5 b T D ts ms2 ∧ ms2.length ≤ ms.length + 1 := by
  obtain ⟨ms2, e1, e2, e3, e4⟩ := put_ent ms (x, y, c)
  have bT := bag_ne L.bagO L.nT
  have bD := bag_ne L.bagO L.nD
  have hT3 := s3 _ _ L.hT (Ne.symm bT)
  have hD3 := s3 _ _ L.hD (Ne.symm bD)
  have qD : D ≠ q := ne_of_none hD3 hq
  have qT : T ≠ q := ne_of_none hT3 hq
  have bq : b ≠ q := bag_ne b3 hq
  refine ⟨_, ms2, DPut.t (k := entK (x, y, c)) (kvs := ms.map ent) (by rw [upd_ne qD]; exact hD3) upd_same (by rw [List.length_map]; exact line_lt (by omega)), ⟨fun z o e n => ?_, ?_, L.bagO, L.nT, L.nD, L.ne, ?_, ?_, e3 L.nd, e2 _ L.ok ⟨⟨i, j, hij, hi, hj⟩, hc⟩⟩, e4⟩
  · have e5 := s3 z o (L.same z o e n) n
    rw [upd_ne (ne_of_none e L.nD), upd_ne (ne_of_none e5 hq)]
    exact e5
  · obtain ⟨u, v, e⟩ := b3
    exact ⟨u, v, by rw [upd_ne bD, upd_ne bq]; exact e⟩
  · rw [upd_ne L.ne, upd_ne qT]
    exact hT3
  · rw [upd_same, e1]
theorem Lnk.on {H H2 H3 : Hp} {b T D : Addr} {ts : List Int} {ms : List Tri} (L : Lnk H H2 b T D ts ms) (s3 : SameB b H2 H3) (b3 : BagAt H3 b) : Lnk H H3 b T D ts ms :=
  ⟨L.same.trans s3, b3, L.bagO, L.nT, L.nD, L.ne, s3 _ _ L.hT (Ne.symm (bag_ne L.bagO L.nT)), s3 _ _ L.hD (Ne.symm (bag_ne L.bagO L.nD)), L.nd, L.ok⟩
/-- channels of a pipeline of n stages, in order -/
structure LkRes (n : Nat) (cs : List Tri) : Prop where
  ok : ∀ c ∈ cs, ChOk n c
  nd : (cs.map pairOf2).Nodup
  acyc : Acyc cs
  srt : cs.Pairwise fun a b => key a ≤ key b
  len : cs.length ≤ 120
theorem LkOk.ch {n : Nat} {ts : List Int} {c : Tri} (hp : ts.Perm (upto n)) (h : LkOk ts c) : ChOk n c := by
  obtain ⟨⟨i, j, hij, h1, h2⟩, h3⟩ := h
  have nd : ts.Nodup := hp.nodup_iff.mpr (upto_nodup n)
  have m1 := upto_mem.mp (hp.mem_iff.mp (List.mem_of_getElem? h1))
  have m2 := upto_mem.mp (hp.mem_iff.mp (List.mem_of_getElem? h2))
  refine ⟨m1, m2, fun e => ?_, h3⟩
  rw [e] at h1
  have := (List.getElem?_inj (List.getElem?_eq_some_iff.mp h1).1 nd).mp (h1.trans h2.symm)
  omega
abbrev stL (b : Addr) (n : Nat) (wd : Int) (T D : Addr) (sh : Int) (v6 v7 v8 v9 v10 : Option V) : L2.St := [some (.ref b), some (.int n), some (.int wd), some (.ref T), some (.ref D), some (.int sh), v6, v7, v8, v9, v10]
def LkI (H : Hp) (b : Addr) (n : Nat) (wd : Int) (T D : Addr) (sh : Int) (ts : List Int) (p : Nat → Prop) : L2.St → Hp → Prop := fun σ H2 => ∃ v6 v7 v8 v9 v10 ms, σ = stL b n wd T D sh v6 v7 v8 v9 v10 ∧ Lnk H H2 b T D ts ms ∧ p ms.length
def spLinks : Sp := fun vs H Q _ => ∃ (b : Addr) (n : Nat) (wd : Int), vs = [.ref b, .int n, .int wd] ∧ BagAt H b ∧ 1 ≤ n ∧ n ≤ 6 ∧ (1 ≤ wd ∧ wd ≤ 999) ∧
  ∀ (r : Addr) (ws : List V) (cs : List Tri) H2, SameB b H H2 → BagAt H2 b → H r = none → H2 r = some (.lst ws) → Paired (TriA H2) cs ws → LkRes n cs → cs.length ≤ 8 → Q (.ref r) H2
section
variable {P : Program} {w : World} {K : PySem.W.Frag} {mg : Str → Option Value} {base : Heap}
theorem ok_links {f : Addr} {fd : FuncData} (F : Fun K "_law_links" "_law_links" s_law_links f fd) (B : Blt mg) (G0 : DefR P w K mg base "_law_draw" 1 spDraw) (G1 : DefR P w K mg base "_law_order" 2 spOrder) (G2 : DefR P w K mg base "_law_size" 2 spSize) :
    FnOk P w K mg base (L2.CX P w) 3 f fd ["bag", "count", "wide"] spLinks := by
  refine F.okX sc_law_links (fun vs H Q E h => ?_) (fun cdv A outer s H vs Q E hr h => ?_)
  · obtain ⟨b, n, wd, rfl, _⟩ := h
    rfl
  · obtain ⟨b, n, wd, rfl, hb, hn1, hn6, hw, q⟩ := h
    have hu := hu_of hr
    -- slots: 0 bag, 1 count, 2 wide, 3 turned, 4 found, 5 shape, 6 k, 7 first, 8 second, 9 many, 10 pair
    refine ⟨_, pss_cons (ps_set (i := 3) sc_law_links.nd rfl (Or.inl rfl) (pe_cd G1 hr psE (pa_cons (pv 0) (pa_cons (pv 1) pa_nil))))
      (pss_cons (ps_set (i := 4) sc_law_links.nd rfl (Or.inr rfl) pe_dnewT)
      (pss_cons (ps_set (i := 5) sc_law_links.nd rfl (Or.inl rfl) (pe_cd G0 hr psE (pa_cons (pv 0) (pa_cons pe_int pa_nil))))
      (pss_cons (ps_if (pt_cmpR op_lt (pv 5) pe_int (nomark _)) (pss_one (ps_for (passes_of rfl) rfl (pi_range1 (by rfl) B.range (pa_cons (pe_op op_sub (pv 1) pe_int) pa_nil)) (pg_name (i := 6) sc_law_links.nd rfl (Or.inl rfl))
        (pss_one (ps_dput hu (pv 4) (pe_tup (pa_cons (pe_ix ix_list (pv 3) (pv 6) (fun _ _ => rfl)) (pa_cons (pe_ix ix_list (pv 3) (pe_op op_add (pv 6) pe_int) (fun _ _ => rfl)) pa_nil))) (pe_cd G2 hr psE (pa_cons (pv 0) (pa_cons (pv 2) pa_nil))) rfl)))) pss_nil)
      (pss_cons (ps_if (pt_cmpR op_eq (pv 5) pe_int (nomark _)) (pss_one (ps_for (passes_of rfl) rfl (pi_range1 (by rfl) B.range (pa_cons (pv 1) pa_nil)) (pg_name (i := 7) sc_law_links.nd rfl (Or.inl rfl))
        (pss_one (ps_for (passes_of rfl) rfl (pi_range2 (by rfl) B.range (pa_cons (pe_op op_add (pv 7) pe_int) (pa_cons (pv 1) pa_nil))) (pg_name (i := 8) sc_law_links.nd rfl (Or.inl rfl))
          (pss_one (ps_if (pt_cmpR op_lt (pe_callB call_len_dT (by rfl) B.len bt_len (pa_cons (pv 4) pa_nil)) pe_int (nomark _))
            (pss_one (ps_dput hu (pv 4) (pe_tup (pa_cons (pe_ix ix_list (pv 3) (pv 7) (fun _ _ => rfl)) (pa_cons (pe_ix ix_list (pv 3) (pv 8) (fun _ _ => rfl)) pa_nil))) (pe_cd G2 hr psE (pa_cons (pv 0) (pa_cons (pv 2) pa_nil))) rfl)) pss_nil)))))) pss_nil)
      (pss_cons (ps_set (i := 9) sc_law_links.nd rfl (Or.inl rfl) (pe_cd G0 hr psE (pa_cons (pv 0) (pa_cons (pe_op op_sub pe_int (pe_callB call_len_dT (by rfl) B.len bt_len (pa_cons (pv 4) pa_nil))) pa_nil))))
      (pss_cons (ps_if (pt_cmpR op_eq (pv 1) pe_int (nomark _)) (pss_one (ps_set (i := 9) sc_law_links.nd rfl (Or.inl rfl) pe_int)) pss_nil)
      (pss_cons (ps_for (passes_of rfl) rfl (pi_range1 (by rfl) B.range (pa_cons (pv 9) pa_nil)) (pg_name (i := 6) sc_law_links.nd rfl (Or.inl rfl))
        (pss_cons (ps_set (i := 7) sc_law_links.nd rfl (Or.inl rfl) (pe_cd G0 hr psE (pa_cons (pv 0) (pa_cons (pe_op op_sub (pv 1) pe_int) pa_nil))))
        (pss_cons (ps_set (i := 8) sc_law_links.nd rfl (Or.inl rfl) (pe_op op_add (pe_op op_add (pv 7) pe_int) (pe_cd G0 hr psE (pa_cons (pv 0) (pa_cons (pe_op op_sub (pe_op op_sub (pv 1) pe_int) (pv 7)) pa_nil)))))
        (pss_one (ps_dput hu (pv 4) (pe_tup (pa_cons (pe_ix ix_list (pv 3) (pv 7) (fun _ _ => rfl)) (pa_cons (pe_ix ix_list (pv 3) (pv 8) (fun _ _ => rfl)) pa_nil))) (pe_cd G2 hr psE (pa_cons (pv 0) (pa_cons (pv 2) pa_nil))) rfl)))))
      (pss_one (ps_ret (pe_callB (cr_sortT (d := 3) (B := 1000) (by decide)) (by rfl) B.sorted bt_sorted (pa_cons
        (pe_lock (pe_lc (own := [("pair", 10)]) rfl sc_law_links.nd (pi_keys (pv 4)) (blkOk_by (N := nn_law_links) (sc := defScope s_law_links) (own := [("pair", 10)]) (by decide +kernel)) (fun _ _ _ _ _ => pg_name (i := 10) sc_law_links.nd rfl (Or.inl rfl)) (fun _ _ _ _ _ => pts_nil)
          (fun _ _ _ _ _ => pe_tup (pa_cons (pe_ix (i_tup (K := K)) (pv 10) pe_int (fun _ _ => rfl)) (pa_cons (pe_ix (i_tup (K := K)) (pv 10) pe_int (fun _ _ => rfl)) (pa_cons (pe_dget (by exact hu) (pv 4) (pv 10) (fun _ _ => rfl)) pa_nil)))))) pa_nil))))))))))), ?_⟩
    refine ⟨_, rfl, _, rfl, b, n, rfl, hb, by omega, fun T ts H1 s1 b1 nT hT hperm => ?_⟩
    intro D hD1
    have tl : ts.length = n := by rw [hperm.length_eq, upto_len]
    have TD : T ≠ D := ne_of_none hT hD1
    have nD : H D = none := s1.free b1 hD1
    have L0 : Lnk H (upd H1 D (.dT [])) b T D ts [] := ⟨s1.put nD, b1.same (Same.new hD1), hb, nT, nD, TD, by rw [upd_ne TD]; exact hT, upd_same, List.nodup_nil, fun c hc => by cases hc⟩
    refine ⟨_, rfl, b, 6, rfl, L0.bag, by decide, by decide, fun sh H2 sh0 sh1 s2 b2 => ?_⟩
    have L1 := L0.on s2 b2
    have at_ : ∀ {i : Nat} (hi : i < ts.length), atI (ts.map V.int) (i : Int) = some (.int ts[i]) := fun {i} hi => atI_nat (by simp [hi])
    have at2 : ∀ {x : Int} {i : Nat}, x = (i : Int) → (hi : i < ts.length) → atI (ts.map V.int) x = some (.int ts[i]) := fun {x i} e hi => by rw [e]; exact at_ hi
    dsimp only [gName]
    refine seq_mid (LkI H b n wd T D sh ts fun m => m ≤ 5 ∧ (sh < 2 ∨ m = 0)) (fun N hN => ?_) ?_
    · refine ⟨_, rfl, _, _, rfl, rfl, _, rfl, ?_⟩
      refine ite2 (fun e => ?_) (fun e => hN _ _ ⟨_, _, _, _, _, [], rfl, L1, by decide, .inr rfl⟩)
      have e := of_decide_eq_true e
      refine ⟨_, rfl, _, _, rfl, rfl, _, rfl, by omega, by omega, for_range (lo := 0) (n := ((n : Int) - 1).toNat) (fun i => LkI H b n wd T D sh ts fun m => m ≤ i) ⟨_, _, _, _, _, [], rfl, L1, by simp⟩ ?_ ?_⟩
      · rintro i σ H3 hi ⟨v6, v7, v8, v9, v10, ms, rfl, L, hm⟩
        have h1 : i < ts.length := by omega
        have h2 : i + 1 < ts.length := by omega
        refine ⟨_, rfl, _, rfl, b, wd, rfl, L.bag, hw, fun c H4 hc s4 b4 => ?_⟩
        have L4 := L.on s4 b4
        refine ⟨_, rfl, _, rfl, _, rfl, T, _, _, .int ts[i], rfl, rfl, SqL.of L4.hT, by rw [Int.zero_add]; exact at_ h1, _, rfl, _, rfl, _, _, rfl, rfl, T, _, _, .int ts[i + 1], rfl, rfl, SqL.of L4.hT, by rw [Int.zero_add]; exact at_ h2, by show 2 ≤ sizeLine; decide, fun p hp => ?_⟩
        obtain ⟨H5, ms2, d5, L5, l5⟩ := L.put (x := ts[i]) (y := ts[i + 1]) s4 b4 (Nat.lt_succ_self i) (by simp [h1]) (by simp [h2]) hc hp (by omega)
        exact ⟨D, H5, rfl, d5, _, _, _, _, _, ms2, rfl, L5, by omega⟩
      · rintro σ H3 ⟨v6, v7, v8, v9, v10, ms, rfl, L, hm⟩
        exact hN _ _ ⟨_, _, _, _, _, ms, rfl, L, by omega, .inl e⟩
    · rintro σ H3 ⟨v6, v7, v8, v9, v10, ms, rfl, L, hm5, hs⟩
      refine seq_mid (LkI H b n wd T D sh ts fun m => m ≤ 8) (fun N hN => ?_) ?_
      · refine ⟨_, rfl, rfl, _, rfl, ?_⟩
        refine ite2 (fun e => ?_) (fun e => hN _ _ ⟨_, _, _, _, _, ms, rfl, L, by omega⟩)
        refine ⟨_, rfl, _, rfl, by omega, by omega, for_range (lo := 0) (n := n) (fun i => LkI H b n wd T D sh ts fun m => m ≤ 8) ⟨_, _, _, _, _, ms, rfl, L, by omega⟩ ?_ ?_⟩
        · rintro i σ H4 hi ⟨v6, v7, v8, v9, v10, ms, rfl, L, hm⟩
          refine ⟨_, rfl, _, _, rfl, rfl, _, rfl, _, _, rfl, ⟨by omega, by omega, by omega, by omega⟩, for_range (lo := (0 : Int) + i + 1) (n := ((n : Int) - ((0 : Int) + i + 1)).toNat) (fun j σ H5 => ∃ v6 v8 v9 v10 ms, σ = stL b n wd T D sh v6 (some (.int ((0 : Int) + i))) v8 v9 v10 ∧ Lnk H H5 b T D ts ms ∧ ms.length ≤ 8) ⟨_, _, _, _, ms, rfl, L, hm⟩ ?_ ?_⟩
          · rintro j σ H5 hj ⟨v6, v8, v9, v10, ms, rfl, L, hm⟩
            refine ⟨_, rfl, D, _, rfl, L.hD, _, _, rfl, rfl, _, rfl, ?_⟩
            refine ite2 (fun e => ?_) (fun e => ⟨_, _, _, _, ms, rfl, L, hm⟩)
            have e := of_decide_eq_true e
            rw [List.length_map] at e
            have h1 : i < ts.length := by omega
            have h2 : i + 1 + j < ts.length := by omega
            have k2 : (0 : Int) + i + 1 + j = ((i + 1 + j : Nat) : Int) := by omega
            refine ⟨_, rfl, _, rfl, b, wd, rfl, L.bag, hw, fun c H6 hc s6 b6 => ?_⟩
            have L6 := L.on s6 b6
            refine ⟨_, rfl, _, rfl, _, rfl, T, _, _, .int ts[i], rfl, rfl, SqL.of L6.hT, by rw [Int.zero_add]; exact at_ h1, _, rfl, _, rfl, T, _, _, .int ts[i + 1 + j], rfl, rfl, SqL.of L6.hT, by rw [k2]; exact at_ h2, by show 2 ≤ sizeLine; decide, fun p hp => ?_⟩
            obtain ⟨H7, ms2, d7, L7, l7⟩ := L.put (x := ts[i]) (y := ts[i + 1 + j]) s6 b6 (show i < i + 1 + j by omega) (by simp [h1]) (by simp [h2]) hc hp (by omega)
            exact ⟨D, H7, rfl, d7, _, _, _, _, ms2, rfl, L7, by omega⟩
          · rintro σ H5 ⟨v6, v8, v9, v10, ms, rfl, L, hm⟩
            exact ⟨_, _, _, _, _, ms, rfl, L, hm⟩
        · rintro σ H4 ⟨v6, v7, v8, v9, v10, ms, rfl, L, hm⟩
          exact hN _ _ ⟨_, _, _, _, _, ms, rfl, L, hm⟩
      · rintro σ H4 ⟨v6, v7, v8, v9, v10, ms, rfl, L, hm⟩
        -- many = draw(9 - len(found))
        refine ⟨_, rfl, _, rfl, D, _, rfl, L.hD, _, _, rfl, rfl, b, 9 - (ms.length : Int), by rw [List.length_map], L.bag, by omega, by omega, fun m H5 m0 m1 s5 b5 => ?_⟩
        have L5 := L.on s5 b5
        dsimp only [gName]
        refine seq_mid (fun σ H6 => ∃ (v6 v7 v8 : Option V) (m : Int) (v10 : Option V), σ = stL b n wd T D sh v6 v7 v8 (some (.int m)) v10 ∧ Lnk H H6 b T D ts ms ∧ 0 ≤ m ∧ m ≤ 8 - ms.length ∧ (n = 1 → m = 0)) (fun N hN => ?_) ?_
        · refine ⟨_, rfl, rfl, _, rfl, ?_⟩
          refine ite2 (fun e => hN _ _ ⟨_, _, _, 0, _, rfl, L5, by omega, by omega, fun _ => rfl⟩) (fun e => hN _ _ ⟨_, _, _, m, _, rfl, L5, m0, by omega, fun e2 => ?_⟩)
          exact absurd (by subst e2; rfl) e
        · rintro σ H6 ⟨v6, v7, v8, m, v10, rfl, L, m0, m1, mn⟩
          refine seq_mid (LkI H b n wd T D sh ts fun m => m ≤ 8) (fun N hN => ?_) ?_
          · refine ⟨_, rfl, m, rfl, by omega, by omega, for_range (lo := 0) (n := m.toNat) (fun i => LkI H b n wd T D sh ts fun l => l ≤ ms.length + i) ⟨_, _, _, _, _, ms, rfl, L, by omega⟩ ?_ ?_⟩
            · rintro i σ H7 hi ⟨v6, v7, v8, v9, v10, ms7, rfl, L, hm7⟩
              have n2 : 2 ≤ n := by
                rcases Nat.lt_or_ge n 2 with z | z
                · have := mn (by omega)
                  omega
                · exact z
              refine ⟨_, rfl, _, rfl, _, _, rfl, rfl, b, (n : Int) - 1, rfl, L.bag, by omega, by omega, fun a H8 a0 a1 s8 b8 => ?_⟩
              have L8 := L.on s8 b8
              refine ⟨_, rfl, _, _, rfl, rfl, _, rfl, _, rfl, _, _, rfl, rfl, _, rfl, _, _, rfl, rfl, b, (n : Int) - 1 - a, rfl, L8.bag, by omega, by omega, fun g H9 g0 g1 s9 b9 => ⟨_, _, rfl, rfl, ?_⟩⟩
              have L9 := L8.on s9 b9
              refine ⟨_, rfl, _, rfl, b, wd, rfl, L9.bag, hw, fun c H10 hc s10 b10 => ?_⟩
              have L10 := L9.on s10 b10
              have h1 : a.toNat < ts.length := by omega
              have h2 : (a + 1 + g).toNat < ts.length := by omega
              have k1 : a = ((a.toNat : Nat) : Int) := by omega
              have k2 : a + 1 + g = (((a + 1 + g).toNat : Nat) : Int) := by omega
              refine ⟨_, rfl, _, rfl, _, rfl, T, _, _, .int ts[a.toNat], rfl, rfl, SqL.of L10.hT, at2 k1 h1, _, rfl, _, rfl, T, _, _, .int ts[(a + 1 + g).toNat], rfl, rfl, SqL.of L10.hT, at2 k2 h2, by show 2 ≤ sizeLine; decide, fun p hp => ?_⟩
              obtain ⟨H11, ms2, d11, L11, l11⟩ := L9.put (x := ts[a.toNat]) (y := ts[(a + 1 + g).toNat]) s10 b10 (show a.toNat < (a + 1 + g).toNat by omega) (by simp [h1]) (by simp [h2]) hc hp (by omega)
              exact ⟨D, H11, rfl, d11, _, _, _, _, _, ms2, rfl, L11, by omega⟩
            · rintro σ H7 ⟨v6, v7, v8, v9, v10, ms7, rfl, L, hm7⟩
              exact hN _ _ ⟨_, _, _, _, _, ms7, rfl, L, by omega⟩
          · rintro σ H7 ⟨v6, v7, v8, v9, v10, ms7, rfl, L, hm7⟩
            have nD7 := L.nD
            obtain ⟨HF, eF⟩ : ∃ HF : Obj → Hp, HF = fun od => upd H7 D (.frz od (.dT (ms7.map ent))) := ⟨_, rfl⟩
            refine ⟨D, _, L.hD, trivial, fun od => ?_⟩
            have hF : upd H7 D (.frz od (.dT (ms7.map ent))) D = some (.frz od (.dT (ms7.map ent))) := upd_same
            refine ⟨_, rfl, D, od, rfl, .inr ⟨ms7.map ent, hF, fun R hR => lc_it (walk_keysT (kvs := ms7.map ent)) (fun i H8 => Same (upd H7 D (.frz od (.dT (ms7.map ent)))) H8 ∧ ∃ ks, H8 R = some (.lst ks) ∧ Paired (TriA H8) (ms7.take i) ks) ⟨Same.new hR, [], upd_same, .nil⟩ (fun i H8 _ z => z.1 _ _ hF) ?_ ?_⟩⟩
            · rintro i x H8 H9 hi ⟨s8, ks, r8, p8⟩ ⟨rfl, k, v, tq, e1, rfl, e3⟩
              rw [List.length_map] at hi
              rw [List.getElem?_map] at e1
              have hc : ms7[i]? = some ms7[i] := by simp [hi]
              rw [hc] at e1
              obtain ⟨c, ec⟩ : ∃ c, c = ms7[i] := ⟨_, rfl⟩
              rw [← ec] at e1 hc
              have e4 : ent c = (k, v) := Option.some.inj e1
              have ek : k = entK c := (congrArg Prod.fst e4).symm
              have ev : v = .int c.2.2 := (congrArg Prod.snd e4).symm
              subst ek ev
              have hq8 : H9 tq = some (.tup [.int c.1, .int c.2.1]) := e3
              have hv := val_ent L.nd (List.mem_of_getElem? hc)
              refine ⟨rfl, yes ⟨_, rfl, tq, _, _, _, rfl, rfl, SqT.of hq8, atI_nat (j := 0) rfl, _, rfl, tq, _, _, _, rfl, rfl, SqT.of hq8, atI_nat (j := 1) rfl, _, rfl, _, rfl, D, .int c.2.2, rfl, .inr ⟨ms7.map ent, entK c, tq, .inr ⟨od, s8 _ _ hF⟩, rfl, e3, hv.symm⟩, by show 3 ≤ sizeLine; decide, fun p hp => ?_⟩⟩
              have pR : R ≠ p := ne_of_none r8 hp
              refine ⟨ks, by rw [upd_ne pR]; exact r8, ?_, Same.newer (Same.newer s8 (Same.free s8 hp)) hR, ks ++ [.ref p], upd_same, ?_⟩
              · rw [← p8.length]
                exact line_lt (by rw [List.length_take]; omega)
              · rw [take_snoc hc]
                refine pr_snoc (Paired.mapP p8 fun c2 v2 ⟨t2, z1, z2⟩ => ⟨t2, z1, ?_⟩) ⟨p, rfl, by rw [upd_ne pR.symm, upd_same]⟩
                rw [upd_ne (ne_of z2 r8 (by intro z; cases z)), upd_ne (ne_of_none z2 hp)]
                exact z2
            · rintro H8 ⟨s8, ks, r8, p8⟩
              rw [List.length_map, List.take_length] at p8
              have hD8 := s8 _ _ hF
              refine ⟨hD8, ?_⟩
              have RD : R ≠ D := ne_of r8 hD8 (by intro z; cases z)
              have p9 : Paired (TriA (upd H8 D (.dT (ms7.map ent)))) ms7 ks := Paired.mapP p8 fun c2 v2 ⟨t2, z1, z2⟩ => ⟨t2, z1, by rw [upd_ne (ne_of z2 hD8 (by intro z; cases z))]; exact z2⟩
              have hok : ∀ c ∈ ms7, ChOk n c := fun c hc => (L.ok c hc).ch hperm
              refine ⟨R, ks, rfl, SqL.of (by rw [upd_ne RD]; exact r8), by rw [← p8.length]; omega, fun v hv => ?_, fun ys p hpm hpw np => ?_⟩
              · obtain ⟨i, hi⟩ := List.mem_iff_getElem?.mp hv
                obtain ⟨c, hc, t, rfl, ht⟩ := pr_at p9 hi
                obtain ⟨⟨a1, a2⟩, ⟨a3, a4⟩, _, a5, a6⟩ := hok c (List.mem_of_getElem? hc)
                refine ⟨[c.1, c.2.1, c.2.2], ⟨t, rfl, SqT.of ht⟩, rfl, fun m hm => ?_⟩
                simp only [List.mem_cons, List.not_mem_nil, or_false] at hm
                rcases hm with e | e | e <;> rw [e] <;> omega
              · obtain ⟨cs2, hcp, hp2⟩ := pr_perm hpm p9
                have pD : p ≠ D := fun z => by rw [z, upd_same] at np; cases np
                have np8 : H8 p = none := by rw [upd_ne pD] at np; exact np
                have np7 : H7 p = none := by
                  have z := Same.free s8 np8
                  rw [upd_ne pD] at z
                  exact z
                have bD := bag_ne L.bagO L.nD
                have bp := bag_ne L.bag np7
                have up : ∀ {c : Addr} {o : HO}, H7 c = some o → c ≠ D → upd (upd H8 D (.dT (ms7.map ent))) p (.lst ys) c = some o := fun {c o} e n1 => by
                  rw [upd_ne (ne_of_none e np7), upd_ne n1]
                  exact s8 _ _ (by rw [upd_ne n1]; exact e)
                refine q p ys cs2 _ (fun c o e n1 => up (L.same c o e n1) (ne_of_none e nD7)) ?_ (L.same.free L.bag np7) upd_same (tris_same (Same.new np) hp2) ⟨fun c hc => hok c (hcp.mem_iff.mp hc), ((hcp.map _).nodup_iff).mpr L.nd, ?_, ?_, ?_⟩ ?_
                · obtain ⟨u, v, e⟩ := L.bag
                  exact ⟨u, v, up e bD⟩
                · obtain ⟨r, hr2⟩ := acyc_of (hperm.nodup_iff.mpr (upto_nodup n)) L.ok
                  exact ⟨r, fun c hc => hr2 c (hcp.mem_iff.mp hc)⟩
                · rw [List.pairwise_iff_getElem]
                  intro i j hi hj hij
                  obtain ⟨v1, e1, t1, rfl, f1⟩ := pr_to hp2 (i := i) (a := cs2[i]) (by simp [hi])
                  obtain ⟨v2, e2, t2, rfl, f2⟩ := pr_to hp2 (i := j) (a := cs2[j]) (by simp [hj])
                  obtain ⟨g1, g2⟩ := List.getElem?_eq_some_iff.mp e1
                  obtain ⟨g3, g4⟩ := List.getElem?_eq_some_iff.mp e2
                  have z := (List.pairwise_iff_getElem.mp hpw) i j g1 g3 hij
                  rw [g2, g4] at z
                  have y := z [cs2[i].1, cs2[i].2.1, cs2[i].2.2] [cs2[j].1, cs2[j].2.1, cs2[j].2.2] ⟨t1, rfl, SqT.of f1⟩ ⟨t2, rfl, SqT.of f2⟩
                  rw [code3, code3] at y
                  exact y
                · rw [hcp.length_eq]; omega
                · rw [hcp.length_eq]; exact hm7
end
end WC

set_option maxHeartbeats 8000000
namespace WC
open PySem PySem.Spec PyProof.Rows L2
abbrev SzOk (ns : List Int) : Prop := ∀ c ∈ ns, 1 ≤ c ∧ c ≤ 999
/-- the worlds that are drawn: stages, channels, ring or not -/
def WSm (n : Nat) (cs : List Tri) (ring : Bool) : Prop :=
  (ring = false ∧ 1 ≤ n ∧ n ≤ 6 ∧ LkRes n cs ∧ cs.length ≤ 8) ∨ (ring = true ∧ 3 ≤ n ∧ n ≤ 5 ∧ ∃ ns, cs = ringOf ns ∧ ns.length = n ∧ SzOk ns)
def WOk (n : Nat) (cs : List Tri) (ring : Bool) : Prop :=
  (ring = false ∧ 1 ≤ n ∧ n ≤ 40 ∧ LkRes n cs) ∨ (ring = true ∧ 3 ≤ n ∧ n ≤ 40 ∧ ∃ ns, cs = ringOf ns ∧ ns.length = n ∧ SzOk ns)
theorem WSm.ok {n : Nat} {cs : List Tri} {ring : Bool} (h : WSm n cs ring) : WOk n cs ring := by
  rcases h with ⟨a, b, c, d, _⟩ | ⟨a, b, c, d⟩
  · exact .inl ⟨a, b, by omega, d⟩
  · exact .inr ⟨a, b, by omega, d⟩
/-- a world kept at wr, apart from b -/
structure WorldAt (H : Hp) (b wr : Addr) (n : Nat) (cs : List Tri) (ring : Bool) : Prop where
  ex : ∃ (l : Addr) (ws : List V), H wr = some (.lst [.int n, .ref l, .bl ring]) ∧ H l = some (.lst ws) ∧ Paired (TriA H) cs ws ∧ wr ≠ b ∧ l ≠ b
theorem WorldAt.on {H H2 : Hp} {b wr : Addr} {n : Nat} {cs : List Tri} {ring : Bool} (h : WorldAt H b wr n cs ring) (hb : BagAt H b) (s : SameB b H H2) : WorldAt H2 b wr n cs ring := by
  obtain ⟨l, ws, h1, h2, h3, h4, h5⟩ := h.ex
  obtain ⟨u, v, e⟩ := hb
  exact ⟨l, ws, s _ _ h1 h4, s _ _ h2 h5, Paired.mapP h3 fun c v ⟨t, e1, e2⟩ => ⟨t, e1, s _ _ e2 (ne_of e2 e (by intro z; cases z))⟩, h4, h5⟩
theorem WorldAt.same {H H2 : Hp} {b wr : Addr} {n : Nat} {cs : List Tri} {ring : Bool} (h : WorldAt H b wr n cs ring) (s : Same H H2) : WorldAt H2 b wr n cs ring := by
  obtain ⟨l, ws, h1, h2, h3, h4, h5⟩ := h.ex
  exact ⟨l, ws, s _ _ h1, s _ _ h2, tris_same s h3, h4, h5⟩
/-- the list of its channels is new -/
def NewL (H H2 : Hp) (wr : Addr) : Prop := ∀ (l : Addr) (nn rr : V), H2 wr = some (.lst [nn, .ref l, rr]) → H l = none
theorem newl {H H1 : Hp} {r l : Addr} {nn rr : V} (h : H l = none) : NewL H (upd H1 r (.lst [nn, .ref l, rr])) r := fun l2 n2 r2 e => by
  rw [upd_same] at e
  cases e
  exact h
def spWorld : Sp := fun vs H Q _ => ∃ b : Addr, vs = [.ref b] ∧ BagAt H b ∧ ∀ (wr : Addr) (n : Nat) (cs : List Tri) (ring : Bool) H2, SameB b H H2 → BagAt H2 b → H wr = none → NewL H H2 wr → WorldAt H2 b wr n cs ring → WSm n cs ring → Q (.ref wr) H2
section
variable {P : Program} {w : World} {K : PySem.W.Frag} {mg : Str → Option Value} {base : Heap}
theorem ok_world {f : Addr} {fd : FuncData} (F : Fun K "_law_world" "_law_world" s_law_world f fd) (B : Blt mg) (G0 : DefR P w K mg base "_law_draw" 1 spDraw) (G2 : DefR P w K mg base "_law_size" 2 spSize) (G3 : DefR P w K mg base "_law_links" 3 spLinks) :
    FnOk P w K mg base (L2.CX P w) 4 f fd ["bag"] spWorld := by
  refine F.okX sc_law_world (fun vs H Q E h => ?_) (fun cdv A outer s H vs Q E hr h => ?_)
  · obtain ⟨b, rfl, _⟩ := h
    rfl
  · obtain ⟨b, rfl, hb, q⟩ := h
    -- slots: 0 bag, 1 wide, 2 count, 3 sizes, 4 k
    refine ⟨_, pss_cons (ps_set (i := 1) sc_law_world.nd rfl (Or.inr rfl) (pe_ix ix_list (pe_lst (pa_cons pe_int (pa_cons pe_int (pa_cons pe_int pa_nil)))) (pe_cd G0 hr psE (pa_cons (pv 0) (pa_cons pe_int pa_nil))) (fun _ _ => rfl)))
      (pss_cons (ps_if (pt_cmpR op_eq (pe_cd G0 hr psE (pa_cons (pv 0) (pa_cons pe_int pa_nil))) pe_int (nomark _))
        (pss_cons (ps_set (i := 2) sc_law_world.nd rfl (Or.inr rfl) (pe_op op_add pe_int (pe_cd G0 hr psE (pa_cons (pv 0) (pa_cons pe_int pa_nil)))))
        (pss_cons (ps_set (i := 3) sc_law_world.nd rfl (Or.inr rfl) (pe_lc (own := [("k", 4)]) rfl sc_law_world.nd (pi_range1 (by rfl) B.range (pa_cons (pv 2) pa_nil)) (blkOk_by (N := nn_law_world) (sc := defScope s_law_world) (own := [("k", 4)]) (by decide +kernel)) (fun _ _ _ _ _ => pg_name (i := 4) sc_law_world.nd rfl (Or.inl rfl)) (fun _ _ _ _ _ => pts_nil)
            (fun _ _ _ _ _ => pe_cd G2 (by exact hr) passL (pa_cons (pv 0) (pa_cons (pv 1) pa_nil)))))
        (pss_one (ps_ret (pe_lst (pa_cons (pv 2) (pa_cons
          (pe_lc (own := [("k", 4)]) rfl sc_law_world.nd (pi_range1 (by rfl) B.range (pa_cons (pv 2) pa_nil)) (blkOk_by (N := nn_law_world) (sc := defScope s_law_world) (own := [("k", 4)]) (by decide +kernel)) (fun _ _ _ _ _ => pg_name (i := 4) sc_law_world.nd rfl (Or.inl rfl)) (fun _ _ _ _ _ => pts_nil)
            (fun _ _ _ _ _ => pe_tup (pa_cons (pv 4) (pa_cons (pe_op op_modN (pe_callTy (T := "int") call_int1 (by rfl) B.int bt_int (pa_cons (pe_op op_add (pv 4) pe_int) pa_nil)) (pv 2)) (pa_cons (pe_ix (i_lst (K := K)) (pv 3) (pv 4) (fun _ _ => rfl)) pa_nil)))))
          (pa_cons pe_bl pa_nil)))))))) pss_nil)
      (pss_cons (ps_set (i := 2) sc_law_world.nd rfl (Or.inr rfl) (pe_ix ix_list (pe_lst (pa_cons pe_int (pa_cons pe_int (pa_cons pe_int (pa_cons pe_int (pa_cons pe_int (pa_cons pe_int (pa_cons pe_int (pa_cons pe_int pa_nil))))))))) (pe_cd G0 hr psE (pa_cons (pv 0) (pa_cons pe_int pa_nil))) (fun _ _ => rfl)))
      (pss_one (ps_ret (pe_lst (pa_cons (pv 2) (pa_cons (pe_cd G3 hr psE (pa_cons (pv 0) (pa_cons (pv 2) (pa_cons (pv 1) pa_nil)))) (pa_cons pe_bl pa_nil)))))))), ?_⟩
    refine ⟨by show 3 ≤ sizeLine; decide, fun p hp => ?_⟩
    have bp := bag_ne hb hp
    have hb1 : BagAt (upd H p (.lst [.int 3, .int 3, .int 30])) b := hb.same (Same.new hp)
    refine ⟨_, rfl, b, 3, rfl, hb1, by decide, by decide, fun k H2 k0 k1 s2 b2 => ?_⟩
    have s02 : SameB b H H2 := (SameB.of (Same.new hp)).trans s2
    obtain ⟨wd, w1, w2⟩ : ∃ wd : Int, atI [V.int 3, V.int 3, V.int 30] k = some (.int wd) ∧ 1 ≤ wd ∧ wd ≤ 999 := by
      rcases (by omega : k = 0 ∨ k = 1 ∨ k = 2) with e | e | e
      · exact ⟨3, by rw [e]; exact atI_nat (j := 0) rfl, by decide⟩
      · exact ⟨3, by rw [e]; exact atI_nat (j := 1) rfl, by decide⟩
      · exact ⟨30, by rw [e]; exact atI_nat (j := 2) rfl, by decide⟩
    refine ⟨p, _, _, _, rfl, rfl, SqL.of (s2 _ _ upd_same bp.symm), w1, ?_⟩
    refine ⟨_, rfl, b, 4, rfl, b2, by decide, by decide, fun d H3 d0 d1 s3 b3 => ⟨rfl, _, rfl, ?_⟩⟩
    have s03 := s02.trans s3
    refine ite2 (fun e => ?_) (fun e => ?_)
    · refine ⟨_, rfl, b, 3, rfl, b3, by decide, by decide, fun g H4 g0 g1 s4 b4 => ⟨_, _, rfl, rfl, ?_⟩⟩
      have s04 := s03.trans s4
      obtain ⟨n, hn⟩ : ∃ n : Nat, (3 : Int) + g = n := ⟨(3 + g).toNat, by omega⟩
      dsimp only
      rw [hn]
      refine ⟨_, rfl, (n : Int), rfl, by omega, by omega, fun R hR => lc_range (lo := 0) (n := n) (fun i H5 => ∃ zs : List Int, SameB b H4 H5 ∧ BagAt H5 b ∧ H5 R = some (.lst (zs.map V.int)) ∧ zs.length = i ∧ SzOk zs) ⟨[], (SameB.refl b H4).put hR, b4.same (Same.new hR), upd_same, rfl, fun c hc => by cases hc⟩ ?_ ?_⟩
      · rintro i H5 hi ⟨zs, s5, b5, r5, l5, z5⟩
        refine ⟨rfl, yes ⟨_, rfl, _, rfl, b, wd, rfl, b5, w2, fun c H6 hc s6 b6 => ?_⟩⟩
        have bR := bag_ne b4 hR
        refine ⟨_, s6 _ _ r5 bR.symm, by rw [List.length_map, l5]; exact line_lt (by omega), zs ++ [c], fun x o e1 n1 => ?_, ?_, ?_, by rw [List.length_append, l5]; rfl, fun x hx => ?_⟩
        · rw [upd_ne (ne_of_none e1 hR)]
          exact s6 _ _ (s5 _ _ e1 n1) n1
        · obtain ⟨u, v, e1⟩ := b6
          exact ⟨u, v, by rw [upd_ne bR]; exact e1⟩
        · rw [upd_same, List.map_append]
          rfl
        · rcases List.mem_append.mp hx with m | m
          · exact z5 x m
          · rw [List.mem_singleton.mp m]; exact hc
      · rintro H5 ⟨ns, s5, b5, r5, l5, z5⟩
        have s05 := s04.trans s5
        have bR := bag_ne b4 hR
        refine ⟨_, rfl, _, rfl, (n : Int), rfl, by omega, by omega, fun D hD => lc_range (lo := 0) (n := n) (fun i H6 => Same H5 H6 ∧ ∃ ks, H6 D = some (.lst ks) ∧ Paired (TriA H6) ((ringOf ns).take i) ks) ⟨Same.new hD, [], upd_same, .nil⟩ ?_ ?_⟩
        · rintro i H6 hi ⟨s6, ks, k6, p6⟩
          have hin : i < ns.length := by omega
          have en : ns[i]? = some ns[i] := by simp [hin]
          refine ⟨rfl, yes ⟨_, rfl, _, rfl, _, _, rfl, rfl, .inl ⟨_, rfl, _, rfl, _, _, rfl, rfl, by omega, _, rfl, _, rfl, R, _, _, .int ns[i], rfl, rfl, SqL.of (s6 _ _ r5), by rw [Int.zero_add]; exact atI_nat (by simp [hin]), by show 3 ≤ sizeLine; decide, fun p2 hp2 => ⟨ks, ?_, ?_, ?_, ks ++ [.ref p2], upd_same, ?_⟩⟩⟩⟩
          · rw [upd_ne (ne_of_none k6 hp2)]
            exact k6
          · rw [← p6.length, List.length_take, ringOf_len]
            exact line_lt (by omega)
          · exact Same.newer (Same.newer s6 (Same.free s6 hp2)) hD
          · have pD : p2 ≠ D := (ne_of_none k6 hp2).symm
            rw [take_snoc (ringOf_at en)]
            refine pr_snoc (Paired.mapP p6 fun c2 v2 ⟨t2, e1, e2⟩ => ⟨t2, e1, ?_⟩) ⟨p2, rfl, ?_⟩
            · rw [upd_ne (ne_of e2 k6 (by intro z; cases z)), upd_ne (ne_of_none e2 hp2)]
              exact e2
            · have fe : Int.fmod ((0 : Int) + i + 1) (n : Int) = ((i : Int) + 1) % (ns.length : Int) := by
                rw [Int.zero_add, l5]
                exact Int.fmod_eq_emod_of_nonneg _ (by omega)
              rw [upd_ne pD, upd_same]
              dsimp only
              rw [fe, Int.zero_add]
        · rintro H6 ⟨s6, ks, k6, p6⟩
          have el : n = (ringOf ns).length := by rw [ringOf_len, l5]
          have p6 : Paired (TriA H6) (ringOf ns) ks := by
            have z := p6
            rw [el, List.take_length] at z
            exact z
          refine ⟨by show 3 ≤ sizeLine; decide, fun r nr => ?_⟩
          have nr5 := Same.free s6 nr
          have bD := bag_ne b5 hD
          have b6 := b5.same s6
          have br := bag_ne b6 nr
          refine q r n (ringOf ns) true _ (s05.trans (SameB.of (Same.newer s6 nr5))) (b6.same (Same.new nr)) (s05.free b5 nr5) (newl (s05.free b5 hD)) ⟨D, ks, upd_same, by rw [upd_ne (ne_of_none k6 nr)]; exact k6, tris_same (Same.new nr) p6, br.symm, bD.symm⟩ (.inr (⟨rfl, by omega, by omega, ns, rfl, l5, z5⟩))
    · refine ⟨by show 8 ≤ sizeLine; decide, fun p2 hp2 => ?_⟩
      have bp2 := bag_ne b3 hp2
      refine ⟨_, rfl, b, 8, rfl, b3.same (Same.new hp2), by decide, by decide, fun g H4 g0 g1 s4 b4 => ?_⟩
      have s04 : SameB b H H4 := s03.trans ((SameB.of (Same.new hp2)).trans s4)
      obtain ⟨n, e1, n1, n6⟩ : ∃ n : Nat, atI [V.int 1, V.int 2, V.int 3, V.int 3, V.int 4, V.int 4, V.int 5, V.int 6] g = some (.int n) ∧ 1 ≤ n ∧ n ≤ 6 := by
        rcases (by omega : g = 0 ∨ g = 1 ∨ g = 2 ∨ g = 3 ∨ g = 4 ∨ g = 5 ∨ g = 6 ∨ g = 7) with e | e | e | e | e | e | e | e
        · exact ⟨1, by rw [e]; exact atI_nat (j := 0) rfl, by decide⟩
        · exact ⟨2, by rw [e]; exact atI_nat (j := 1) rfl, by decide⟩
        · exact ⟨3, by rw [e]; exact atI_nat (j := 2) rfl, by decide⟩
        · exact ⟨3, by rw [e]; exact atI_nat (j := 3) rfl, by decide⟩
        · exact ⟨4, by rw [e]; exact atI_nat (j := 4) rfl, by decide⟩
        · exact ⟨4, by rw [e]; exact atI_nat (j := 5) rfl, by decide⟩
        · exact ⟨5, by rw [e]; exact atI_nat (j := 6) rfl, by decide⟩
        · exact ⟨6, by rw [e]; exact atI_nat (j := 7) rfl, by decide⟩
      refine ⟨p2, _, _, _, rfl, rfl, SqL.of (s4 _ _ upd_same bp2.symm), e1, ?_⟩
      refine ⟨_, rfl, _, rfl, _, rfl, _, rfl, b, n, wd, rfl, b4, n1, n6, w2, fun l ws cs H5 s5 b5 nl hl p5 lk l8 => ?_⟩
      refine ⟨by show 3 ≤ sizeLine; decide, fun r nr => ?_⟩
      have br := bag_ne b5 nr
      have bl := bag_ne b4 nl
      refine q r n cs false _ (s04.trans (s5.put (s5.free b5 nr))) (b5.same (Same.new nr)) ((s04.trans s5).free b5 nr) (newl (s04.free b4 nl)) ⟨l, ws, upd_same, by rw [upd_ne (ne_of_none hl nr)]; exact hl, tris_same (Same.new nr) p5, br.symm, bl.symm⟩ (.inl ⟨rfl, n1, n6, lk, l8⟩)
end
end WC

set_option maxHeartbeats 16000000
namespace WC
open PySem PySem.Spec PyProof.Rows L2
theorem len_succ {α : Type} {l : List α} {n : Nat} (h : l.length = n + 1) : ∃ a t, l = a :: t ∧ t.length = n := by
  cases l with
  | nil => simp at h
  | cons a t => exact ⟨a, t, rfl, by simpa using h⟩
theorem len_ne {A B : Prop} {n : Nat} {k : Int} (h : (n : Int) ≠ k) (b : B) : if decide (V.int n = V.int k) = true then A else B := by
  rw [decide_eq_false (fun z => h (V.int.inj z))]
  exact iteF b
theorem len_eq {A B : Prop} {n : Nat} {k : Int} (h : (n : Int) = k) (a : A) : if decide (V.int n = V.int k) = true then A else B := by
  rw [decide_eq_true (congrArg V.int h)]
  exact iteT a
theorem mk_same {H H1 H2 : Hp} {x dx C : Addr} (s : Same H H1) (hx : H1 x = none) (hdx : H1 dx = none) (h : ∀ b o, upd (upd H1 dx (.own x)) x (.ins C dx []) b = some o → b ≠ x → H2 b = some o) : Same H H2 := fun b o e => by
  have e1 := s b o e
  have n1 := ne_of_none e1 hx
  exact h b o (by rw [upd_ne n1, upd_ne (ne_of_none e1 hdx)]; exact e1) n1
theorem mk_tri {H H1 : Hp} {x dx C : Addr} {cs : List Tri} {ws : List V} (s : Same H H1) (hx : H1 x = none) (hdx : H1 dx = none) (h : Paired (TriA H) cs ws) : Paired (TriA (upd (upd H1 dx (.own x)) x (.ins C dx []))) cs ws :=
  Paired.mapP h fun c v ⟨t, e1, e2⟩ => ⟨t, e1, by
    have e3 := s _ _ e2
    rw [upd_ne (ne_of_none e3 hx), upd_ne (ne_of_none e3 hdx)]
    exact e3⟩
theorem lk_strict {n : Nat} {cs : List Tri} (hn : n ≤ 40) (L : LkRes n cs) : cs.Pairwise fun a b => key a < key b := by
  have nd : cs.Pairwise fun a b => pairOf2 a ≠ pairOf2 b := by
    have z := L.nd
    rw [List.Nodup, List.pairwise_map] at z
    exact z
  refine List.Pairwise.imp_of_mem (fun {a b} ma mb z => ?_) (L.srt.and nd)
  obtain ⟨z1, z2⟩ := z
  obtain ⟨⟨a1, a2⟩, ⟨a3, a4⟩, _, a5, a6⟩ := L.ok a ma
  obtain ⟨⟨b1, b2⟩, ⟨b3, b4⟩, _, b5, b6⟩ := L.ok b mb
  have z3 : ¬ (a.1 = b.1 ∧ a.2.1 = b.2.1) := fun ⟨e1, e2⟩ => z2 (by unfold pairOf2; rw [e1, e2])
  unfold key at z1 ⊢
  omega
/-- a world, seen from a reader -/
structure WorldR (H : Hp) (wr : Addr) (n : Nat) (cs : List Tri) (ring : Bool) : Prop where
  ex : ∃ (l : Addr) (ws : List V), H wr = some (.lst [.int n, .ref l, .bl ring]) ∧ H l = some (.lst ws) ∧ Paired (TriA H) cs ws
theorem WorldAt.r {H : Hp} {b wr : Addr} {n : Nat} {cs : List Tri} {ring : Bool} (h : WorldAt H b wr n cs ring) : WorldR H wr n cs ring := by
  obtain ⟨l, ws, h1, h2, h3, _, _⟩ := h.ex
  exact ⟨l, ws, h1, h2, h3⟩
theorem WorldR.same {H H2 : Hp} {wr : Addr} {n : Nat} {cs : List Tri} {ring : Bool} (h : WorldR H wr n cs ring) (s : Same H H2) : WorldR H2 wr n cs ring := by
  obtain ⟨l, ws, h1, h2, h3⟩ := h.ex
  exact ⟨l, ws, s _ _ h1, s _ _ h2, tris_same s h3⟩
/-- a net of its own: what it is made for -/
def Made (C : Addr) (n : Nat) (cs : List Tri) (H : Hp) (Q : VK) : Prop := ∀ H2 x, Same H H2 → H x = none → NetAt H2 x C n cs → Q (.ref x) H2
/-- Pipeline(n, ..) read, its channels in order -/
theorem pipe_use {H H1 : Hp} {C : Addr} {n : Nat} {cs : List Tri} {ws : List V} {Q : VK} {E : XK} (s : Same H H1) (h1 : 1 ≤ n) (hn : n ≤ 40) (hp : Paired (TriA H) cs ws) (L : LkRes n cs) (k : Made C n cs H Q) :
    ∀ x dx, H1 x = none → H1 dx = none → dx ≠ x → spPipe C (V.ref x :: V.int n :: ws) (upd (upd H1 dx (.own x)) x (.ins C dx [])) (fun v H2 => v = .non ∧ Q (.ref x) H2) E := fun x dx hx hdx hne =>
  ⟨x, dx, n, cs, ws, rfl, upd_same, h1, hn, mk_tri s hx hdx hp, L.ok, L.nd, L.acyc, L.len, fun H2 cs2 p srt fr N => ⟨rfl, by
    have e := sorted_one p srt (lk_strict hn L)
    subst e
    exact k H2 x (mk_same s hx hdx fr) (s.free hx) N⟩⟩
theorem ring_use {H H1 : Hp} {C : Addr} {ns : List Int} {Q : VK} {E : XK} (s : Same H H1) (hc : CapsOk ns) (h3 : 3 ≤ ns.length) (hn : ns.length ≤ 40) (k : Made C ns.length (ringOf ns) H Q) :
    ∀ x dx, H1 x = none → H1 dx = none → dx ≠ x → spRing C (V.ref x :: ns.map V.int) (upd (upd H1 dx (.own x)) x (.ins C dx [])) (fun v H2 => v = .non ∧ Q (.ref x) H2) E := fun x dx hx hdx hne =>
  ⟨x, dx, ns, rfl, upd_same, hc, h3, hn, fun H2 fr N => ⟨rfl, k H2 x (mk_same s hx hdx fr) (s.free hx) N⟩⟩
theorem sizes_row (ns : List Int) : (rowOf ns).map (fun c => c.2.2) = ns := by
  apply List.ext_getElem?
  intro i
  rw [List.getElem?_map]
  cases e : ns[i]? with
  | none =>
    rw [List.getElem?_eq_none_iff] at e
    rw [List.getElem?_eq_none (by rw [rowOf_len]; exact e)]
    rfl
  | some c => rw [rowOf_at e]; rfl
theorem sizes_ring (ns : List Int) : (ringOf ns).map (fun c => c.2.2) = ns := by
  apply List.ext_getElem?
  intro i
  rw [List.getElem?_map]
  cases e : ns[i]? with
  | none =>
    rw [List.getElem?_eq_none_iff] at e
    rw [List.getElem?_eq_none (by rw [ringOf_len]; exact e)]
    rfl
  | some c => rw [ringOf_at e]; rfl
end WC

set_option maxHeartbeats 8000000
namespace WC
open PySem PySem.Spec PyProof.Rows L2 SX
/-! a number read from any text of ASCII: the program's and the law's -/
def dgt (c : Nat) : Bool := decide (48 ≤ c) && decide (c ≤ 57)
def asc (l : List Nat) : Bool := l.all fun c => decide (c < 128)
theorem dec_asc : ∀ c, c < 128 → Unicode.isDecimal c = dgt c := by decide +kernel
theorem dig_asc : ∀ c, c < 128 → Unicode.isDigit c = dgt c := by decide +kernel
theorem asc_of {l : List Nat} (h : asc l = true) : ∀ c ∈ l, c < 128 := fun c hc => of_decide_eq_true (List.all_eq_true.mp h c hc)
theorem all_congr8 {f g : Nat → Bool} : ∀ {l : List Nat}, (∀ c ∈ l, f c = g c) → l.all f = l.all g
  | [], _ => rfl
  | c :: l, h => by
    rw [List.all_cons, List.all_cons, h c List.mem_cons_self, all_congr8 fun d hd => h d (List.mem_cons_of_mem _ hd)]
def digs8 (l : List Nat) : Bool := decide (0 < l.length) && l.all dgt
theorem S_isascii {l : List Nat} (h : asc l = true) : Txt.isascii (S l) = true := by
  unfold Txt.isascii
  rw [← Array.all_toList]
  exact h
theorem S_isdec {l : List Nat} (h : asc l = true) : Txt.isdecimal (S l) = digs8 l := by
  unfold Txt.isdecimal digs8
  rw [← Array.all_toList, S_len]
  exact congrArg _ (all_congr8 fun c hc => dec_asc c (asc_of h c hc))
theorem S_isdig {l : List Nat} (h : asc l = true) : Txt.isdigit (S l) = digs8 l := by
  unfold Txt.isdigit digs8
  rw [← Array.all_toList, S_len]
  exact congrArg _ (all_congr8 fun c hc => dig_asc c (asc_of h c hc))
/-- the number that a word holds -/
def val8 (l : List Nat) : Int := ((NumText.digitsVal l : Nat) : Int)
def lead0 (l : List Nat) : Bool := decide (1 < l.length) && decide (l.head? = some 48)
def numP (lo hi : Int) (l : List Nat) : Option Int := if digs8 l = true ∧ l.length ≤ 3 ∧ lead0 l = false ∧ lo ≤ val8 l ∧ val8 l ≤ hi then some (val8 l) else none
def optV : Option Int → V
  | some i => .int i
  | none => .non
def negV : Option Int → Int
  | some i => i
  | none => -1
def spNum8 : Sp := fun vs H Q _ => ∃ (l : List Nat) (lo hi : Int), vs = [.str (S l), .int lo, .int hi] ∧ asc l = true ∧ l.length ≤ sizeLine ∧ Q (optV (numP lo hi l)) H
def spLN8 : Sp := fun vs H Q _ => ∃ (l : List Nat) (lo hi : Int), vs = [.str (S l), .int lo, .int hi] ∧ asc l = true ∧ l.length ≤ sizeLine ∧ Q (.int (negV (numP lo hi l))) H
theorem int8 {l : List Nat} (h : digs8 l = true) (hl : l.length ≤ 3) : intText? (S l) = some (val8 l) := by
  unfold digs8 at h
  rw [Bool.and_eq_true] at h
  exact int_S h.2 (List.length_pos_iff.mp (of_decide_eq_true h.1)) (by omega)
theorem at0_8 {l : List Nat} (h : digs8 l = true) : ∃ c r, l = c :: r := by
  cases l with
  | nil => cases h
  | cons c r => exact ⟨c, r, rfl⟩
theorem z8 : (Str.ofString "0" : Str) = S [48] := by rfl
section
variable {P : Program} {w : World} {K : PySem.W.Frag} {mg : Str → Option Value} {base : Heap}
theorem ok_number8 {f : Addr} {fd : FuncData} (F : Fun K "_number" "_number" s_number f fd) (B : Blt mg) {tMD : Tok} (gMD : mg "MOST_DIGITS" = some (.int 3 tMD)) (g_is_between : DefR P w K mg base "is_between" 1 (spBtw K)) : FnOk P w K mg base (L2.CX P w) 2 f fd ["word", "low", "high"] spNum8 := by
  refine F.okX sc_number (fun vs H Q E h => ?_) (fun cdv A outer s H vs Q E hr h => ?_)
  · obtain ⟨l, lo, hi, rfl, _⟩ := h
    rfl
  · obtain ⟨l, lo, hi, rfl, ha, hz0, q⟩ := h
    have hz : (S l).length ≤ sizeLine := by rw [S_len]; exact hz0
    -- slots: 0 word, 1 low, 2 high, 3 number
    refine ⟨_, (pss_cons (ps_if (PW.pt (pw_or (pt_not (pt_val (pe_m0 PySem.F.slot_str_isascii PySem.F.type_str_isascii mt_isascii (pv 0)))) (pw_or (pt_not (pt_val (pe_m0 PySem.F.slot_str_isdecimal PySem.F.type_str_isdecimal mt_isdecimal (pv 0)))) (pw_or1 (pt_cmpR op_gt (pe_callB call_len_str (by rfl) B.len bt_len (pa_cons (pv 0) pa_nil)) (pe_glob (v := .int 3) (by rfl) gMD ⟨_, rfl⟩) (nomark _)))))) (pss_one (ps_ret pe_non)) pss_nil)
      (pss_cons (ps_if (PW.pt (pw_and (pt_cmpR op_eq (pe_ix ix_str (pv 0) pe_int (fun _ _ => rfl)) pe_str (nomark _)) (pw_and1 (pt_cmpR op_ne (pv 0) pe_str (nomark _))))) (pss_one (ps_ret pe_non)) pss_nil)
      (pss_cons (ps_set (i := 3) sc_number.nd rfl (Or.inl rfl) (pe_callTy (T := "int") call_int_str (by rfl) B.int bt_int (pa_cons (pv 0) pa_nil)))
      (pss_one (ps_ret (pe_ifExp (pt_val (pe_cd g_is_between hr psE (pa_cons (pv 3) (pa_cons (pv 1) (pa_cons (pv 2) pa_nil))))) (pv 3) pe_non)))))), ?_⟩
    refine ⟨_, rfl, ⟨_, rfl⟩, _, rfl, rfl, trivial, _, rfl, ?_⟩
    rw [S_isascii ha]
    refine iteF ⟨_, rfl, ⟨_, rfl⟩, _, rfl, rfl, trivial, _, rfl, ?_⟩
    rw [S_isdec ha]
    cases hd : digs8 l with
    | false =>
      have e : numP lo hi l = none := if_neg fun z => by rw [hd] at z; cases z.1
      rw [e] at q
      exact iteT (iteT q)
    | true =>
      refine iteF ⟨_, rfl, _, rfl, hz, _, _, rfl, rfl, _, rfl, ?_⟩
      rw [S_len]
      refine ite2 (fun h3 => ?_) (fun h3 => ?_)
      · have h3 := of_decide_eq_true h3
        have e : numP lo hi l = none := if_neg fun z => by have := z.2.1; omega
        rw [e] at q
        exact q
      have h3 : ¬ ((3 : Int) < (l.length : Nat)) := fun z => h3 (decide_eq_true z)
      have hl : l.length ≤ 3 := by omega
      obtain ⟨c, r, ec⟩ := at0_8 hd
      have at0 : atI (S l).cps.toList (0 : Int) = some c := atI_nat (j := 0) (by show l[0]? = some c; rw [ec]; rfl)
      have vi := int8 hd hl
      have fin : lead0 l = false → tSeq (tAsg (tCB (fun xs H Q => ∃ a n, xs = [V.str a] ∧ intText? a = some n ∧ a.length ≤ 640 ∧ Q (V.int n) H) (tCons (tVar 0) tNil)) (gName 3)) (tRet (tIf (tB (tCallR (spBtw K) E (tCons (tVar 3) (tCons (tVar 1) (tCons (tVar 2) tNil))))) (tVar 3) (tC V.non))) { nx := fun x H' => Q V.non H', rt := Q } (L2.start nn_number [V.str (S l), V.int lo, V.int hi]) H := fun h0 => by
        refine ⟨_, rfl, _, _, rfl, vi, by rw [S_len]; omega, ?_⟩
        refine ⟨_, rfl, _, rfl, _, rfl, .int _, lo, hi, rfl, trivial, _, rfl, ?_⟩
        show ite _ _ _
        by_cases hb : lo ≤ val8 l ∧ val8 l ≤ hi
        · have e : numP lo hi l = some (val8 l) := if_pos ⟨hd, hl, h0, hb.1, hb.2⟩
          rw [e] at q
          rw [show btw (.int (val8 l)) lo hi = true by show (decide (lo ≤ val8 l) && decide (val8 l ≤ hi)) = true; rw [decide_eq_true hb.1, decide_eq_true hb.2]; rfl]
          exact iteT ⟨_, rfl, q⟩
        · have e : numP lo hi l = none := if_neg fun z => hb z.2.2.2
          rw [e] at q
          rw [show btw (.int (val8 l)) lo hi = false by show (decide (lo ≤ val8 l) && decide (val8 l ≤ hi)) = false; rw [Bool.and_eq_false_iff, decide_eq_false_iff_not, decide_eq_false_iff_not]; omega]
          exact iteF q
      refine ⟨_, rfl, _, _, _, rfl, rfl, hz, at0, rfl, _, rfl, ?_⟩
      by_cases e48 : c = 48
      · subst e48
        refine iteT ⟨_, rfl, rfl, _, rfl, ?_⟩
        cases hr0 : r with
        | nil =>
          rw [hr0] at ec
          subst ec
          exact iteF (fin rfl)
        | cons d r2 =>
          rw [hr0] at ec
          have e : numP lo hi l = none := if_neg fun z => by have := z.2.2.1; rw [ec] at this; simp [lead0] at this
          rw [e] at q
          subst ec
          exact iteT q
      · rw [show decide (V.str ⟨#[c]⟩ = V.str (Str.ofString "0")) = false from decide_eq_false fun e => e48 (by have e2 := V.str.inj e; rw [z8] at e2; injection e2 with e3; injection e3 with e4; injection e4)]
        exact iteF (fin (by rw [ec]; simp [lead0, e48]))
end
end WC

set_option maxHeartbeats 8000000
namespace WC
open PySem PySem.Spec PyProof.Rows L2 SX
section
variable {P : Program} {w : World} {K : PySem.W.Frag} {mg : Str → Option Value} {base : Heap}
theorem ok_lnumber8 {f : Addr} {fd : FuncData} (F : Fun K "_law_number" "_law_number" s_law_number f fd) (B : Blt mg) : FnOk P w K mg base (L2.CX P w) 1 f fd ["word", "least", "most"] spLN8 := by
  refine F.okX sc_law_number (fun vs H Q E h => ?_) (fun cdv A outer s H vs Q E hr h => ?_)
  · obtain ⟨l, lo, hi, rfl, _⟩ := h
    rfl
  · obtain ⟨l, lo, hi, rfl, ha, hz0, q⟩ := h
    have hz : (S l).length ≤ sizeLine := by rw [S_len]; exact hz0
    -- slots: 0 word, 1 least, 2 most
    refine ⟨_, (pss_cons (ps_if (PW.pt (pw_or (pt_cmpR op_lt (pe_callB call_len_str (by rfl) B.len bt_len (pa_cons (pv 0) pa_nil)) pe_int (nomark _)) (pw_or (pt_cmpR op_gt (pe_callB call_len_str (by rfl) B.len bt_len (pa_cons (pv 0) pa_nil)) pe_int (nomark _)) (pw_or1 (pt_not (pt_val (pe_m0 PySem.F.slot_str_isdigit PySem.F.type_str_isdigit mt_isdigit (pv 0)))))))) (pss_one (ps_ret (pe_un un_neg pe_int))) pss_nil)
      (pss_cons (ps_if (PW.pt (pw_and (pt_cmpR op_gt (pe_callB call_len_str (by rfl) B.len bt_len (pa_cons (pv 0) pa_nil)) pe_int (nomark _)) (pw_and1 (pt_cmpR op_eq (pe_ix ix_str (pv 0) pe_int (fun _ _ => rfl)) pe_str (nomark _))))) (pss_one (ps_ret (pe_un un_neg pe_int))) pss_nil)
      (pss_cons (ps_if (PW.pt (pw_or (pt_cmpR op_lt (pe_callTy (T := "int") call_int_str (by rfl) B.int bt_int (pa_cons (pv 0) pa_nil)) (pv 1) (nomark _)) (pw_or1 (pt_cmpR op_gt (pe_callTy (T := "int") call_int_str (by rfl) B.int bt_int (pa_cons (pv 0) pa_nil)) (pv 2) (nomark _))))) (pss_one (ps_ret (pe_un un_neg pe_int))) pss_nil)
      (pss_one (ps_ret (pe_callTy (T := "int") call_int_str (by rfl) B.int bt_int (pa_cons (pv 0) pa_nil))))))), ?_⟩
    refine ⟨_, rfl, _, rfl, hz, _, _, rfl, rfl, _, rfl, ?_⟩
    rw [S_len]
    refine ite2 (fun h1 => ?_) (fun h1 => ?_)
    · have h1 := of_decide_eq_true h1
      have e : numP lo hi l = none := if_neg fun z => by have := z.1; unfold digs8 at this; rw [Bool.and_eq_true, decide_eq_true_eq] at this; omega
      rw [e] at q
      exact iteT ⟨_, rfl, q⟩
    have h1 : ¬ (((l.length : Nat) : Int) < 1) := fun z => h1 (decide_eq_true z)
    refine ⟨_, rfl, _, rfl, hz, _, _, rfl, rfl, _, rfl, ?_⟩
    rw [S_len]
    refine ite2 (fun h3 => ?_) (fun h3 => ?_)
    · have h3 := of_decide_eq_true h3
      have e : numP lo hi l = none := if_neg fun z => by have := z.2.1; omega
      rw [e] at q
      exact iteT ⟨_, rfl, q⟩
    have h3 : ¬ ((3 : Int) < (l.length : Nat)) := fun z => h3 (decide_eq_true z)
    have hl : l.length ≤ 3 := by omega
    refine ⟨_, rfl, ⟨_, rfl⟩, _, rfl, rfl, trivial, _, rfl, ?_⟩
    rw [S_isdig ha]
    cases hd : digs8 l with
    | false =>
      have e : numP lo hi l = none := if_neg fun z => by rw [hd] at z; cases z.1
      rw [e] at q
      exact iteT ⟨_, rfl, q⟩
    | true =>
      have vi := int8 hd hl
      obtain ⟨c, r, ec⟩ := at0_8 hd
      refine iteF ?_
      have at0 : atI (S l).cps.toList (0 : Int) = some c := atI_nat (j := 0) (by show l[0]? = some c; rw [ec]; rfl)
      have fin : lead0 l = false → tSeq (tIfS (tOr (tTest (tOp (rI0 fun i j => V.bl (decide (i < j))) (tCB (fun xs H Q => ∃ a n, xs = [V.str a] ∧ intText? a = some n ∧ a.length ≤ 640 ∧ Q (V.int n) H) (tCons (tVar 0) tNil)) (tVar 1))) (tTest (tOp (rI0 fun i j => V.bl (decide (j < i))) (tCB (fun xs H Q => ∃ a n, xs = [V.str a] ∧ intText? a = some n ∧ a.length ≤ 640 ∧ Q (V.int n) H) (tCons (tVar 0) tNil)) (tVar 2)))) (tRet (tUn (rU fun i => V.int (-i)) (tC (V.int 1)))) tNext) (tRet (tCB (fun xs H Q => ∃ a n, xs = [V.str a] ∧ intText? a = some n ∧ a.length ≤ 640 ∧ Q (V.int n) H) (tCons (tVar 0) tNil))) { nx := fun x H' => Q V.non H', rt := Q } (L2.start nn_law_number [V.str (S l), V.int lo, V.int hi]) H := fun h0 => by
        have len : (S l).length ≤ 640 := by rw [S_len]; omega
        refine ⟨_, rfl, _, _, rfl, vi, len, _, rfl, _, _, rfl, rfl, _, rfl, ite2 (fun h5 => ?_) (fun h5 => ?_)⟩
        · have h5 := of_decide_eq_true h5
          have e : numP lo hi l = none := if_neg fun z => by have := z.2.2.2.1; omega
          rw [e] at q
          exact iteT ⟨_, rfl, q⟩
        have h5 : ¬ (val8 l < lo) := fun z => h5 (decide_eq_true z)
        refine ⟨_, rfl, _, _, rfl, vi, len, _, rfl, _, _, rfl, rfl, _, rfl, ite2 (fun h6 => ?_) (fun h6 => ?_)⟩
        · have h6 := of_decide_eq_true h6
          have e : numP lo hi l = none := if_neg fun z => by have := z.2.2.2.2; omega
          rw [e] at q
          exact ⟨_, rfl, q⟩
        have h6 : ¬ (hi < val8 l) := fun z => h6 (decide_eq_true z)
        have e : numP lo hi l = some (val8 l) := if_pos ⟨hd, hl, h0, by omega, by omega⟩
        rw [e] at q
        exact ⟨_, rfl, _, _, rfl, vi, len, q⟩
      refine ⟨_, rfl, _, rfl, hz, _, _, rfl, rfl, _, rfl, ?_⟩
      rw [S_len]
      refine ite2 (fun h7 => ?_) (fun h7 => ?_)
      · have h7 := of_decide_eq_true h7
        refine ⟨_, rfl, _, _, _, rfl, rfl, hz, at0, rfl, _, rfl, ?_⟩
        by_cases e48 : c = 48
        · subst e48
          have e : numP lo hi l = none := if_neg fun z => by
            have := z.2.2.1
            unfold lead0 at this
            rw [decide_eq_true (show 1 < l.length by omega), ec] at this
            cases this
          rw [e] at q
          exact iteT ⟨_, rfl, q⟩
        · rw [show decide (V.str ⟨#[c]⟩ = V.str (Str.ofString "0")) = false from decide_eq_false fun e => e48 (by have e2 := V.str.inj e; rw [z8] at e2; injection e2 with e3; injection e3 with e4; injection e4)]
          exact iteF (fin (by rw [ec]; simp [lead0, e48]))
      · have h7 : ¬ ((1 : Int) < (l.length : Nat)) := fun z => h7 (decide_eq_true z)
        exact iteF (fin (by unfold lead0; rw [decide_eq_false (by omega)]; rfl))
end
end WC

set_option maxHeartbeats 8000000
namespace WC
open PySem PySem.Spec PyProof.Rows L2 SX
/-! a channel read from any line -/
def cl (s : String) : List Nat := s.toList.map Char.toNat
theorem ofS (s : String) : Str.ofString s = S (cl s) := TL.ext_tl (TL.tl_ofString s)
theorem spl1_mem {s : Nat} : ∀ (l acc : List Nat), ∀ p ∈ TL.spl [s] 0 acc l, (∀ c ∈ p, c ∈ acc ∨ c ∈ l) ∧ p.length ≤ acc.length + l.length
  | [], acc, p, h => by
    rw [TL.spl_nil, List.mem_singleton] at h
    subst h
    exact ⟨fun c hc => .inl hc, by omega⟩
  | c :: r, acc, p, h => by
    cases e : TL.pre [s] (c :: r) with
    | true =>
      rw [TL.spl_hit e] at h
      rcases List.mem_cons.mp h with h | h
      · subst h
        exact ⟨fun c hc => .inl hc, by omega⟩
      · obtain ⟨h1, h2⟩ := spl1_mem r [] p h
        refine ⟨fun d hd => .inr ?_, ?_⟩
        · rcases h1 d hd with z | z
          · cases z
          · exact List.mem_cons_of_mem _ z
        · rw [List.length_nil] at h2
          rw [List.length_cons]
          omega
    | false =>
      rw [TL.spl_miss e] at h
      obtain ⟨h1, h2⟩ := spl1_mem r (acc ++ [c]) p h
      refine ⟨fun d hd => ?_, ?_⟩
      · rcases h1 d hd with z | z
        · rcases List.mem_append.mp z with z | z
          · exact .inl z
          · rw [List.mem_singleton.mp z]; exact .inr List.mem_cons_self
        · exact .inr (List.mem_cons_of_mem _ z)
      · rw [List.length_append, List.length_singleton] at h2
        rw [List.length_cons]
        omega
theorem spl1_len {s : Nat} : ∀ (l acc : List Nat), (TL.spl [s] 0 acc l).length ≤ l.length + 1
  | [], acc => by rw [TL.spl_nil]; exact Nat.le_refl _
  | c :: r, acc => by
    cases e : TL.pre [s] (c :: r) with
    | true =>
      rw [TL.spl_hit e, List.length_cons]
      have := spl1_len (s := s) r []
      rw [List.length_cons]
      exact Nat.succ_le_succ this
    | false =>
      rw [TL.spl_miss e]
      have := spl1_len (s := s) r (acc ++ [c])
      rw [List.length_cons]
      omega
theorem spl1_asc {s : Nat} {l : List Nat} (h : asc l = true) : ∀ p ∈ TL.spl [s] 0 [] l, asc p = true ∧ p.length ≤ l.length := fun p hp => by
  obtain ⟨h1, h2⟩ := spl1_mem l [] p hp
  refine ⟨List.all_eq_true.mpr fun c hc => ?_, by rw [List.length_nil] at h2; omega⟩
  rcases h1 c hc with z | z
  · cases z
  · exact decide_eq_true (asc_of h c z)
theorem split32 (l : List Nat) : Txt.split (S l) (Str.ofString " ") = (TL.spl [32] 0 [] l).map S := by
  rw [ofS, show cl " " = [32] from rfl, split_S (by decide) (by decide)]
theorem line8 {n : Nat} (h : n ≤ 2000000) : n ≤ sizeLine := Nat.le_trans h (by decide)
def chanW (n : Nat) : List (List Nat) → Option Tri
  | [a, g, b, c, z] => if g = [62] ∧ c = [58] then (match numP 0 ((n : Nat) - 1) a, numP 0 ((n : Nat) - 1) b, numP 1 999 z with
    | some i, some j, some k => if i = j then none else some (i, j, k)
    | _, _, _ => none) else none
  | _ => none
def chanP (n : Nat) (l : List Nat) : Option Tri := chanW n (TL.spl [32] 0 [] l)
def OutC (H : Hp) (o : Option Tri) (Q : VK) : Prop := (o = none → ∀ H2, Same H H2 → Q .non H2) ∧ ∀ c, o = some c → ∀ r H2, Same H H2 → H2 r = some (.tup [.int c.1, .int c.2.1, .int c.2.2]) → Q (.ref r) H2
def spChan8 : Sp := fun vs H Q _ => ∃ (n : Nat) (l : List Nat), vs = [.int n, .str (S l)] ∧ asc l = true ∧ l.length ≤ 1000000 ∧ OutC H (chanP n l) Q
def spLink8 : Sp := fun vs H Q _ => ∃ (n : Nat) (l : List Nat), vs = [.str (S l), .int n] ∧ asc l = true ∧ l.length ≤ 1000000 ∧ OutC H (chanP n l) Q
theorem str_dec (g : List Nat) (x : Str) (m : List Nat) (e : x = S m) : decide (V.str (S g) = V.str x) = decide (g = m) := by
  rw [e]
  by_cases h : g = m
  · rw [h, decide_eq_true rfl, decide_eq_true rfl]
  · rw [decide_eq_false h, decide_eq_false fun z => h (S_inj (V.str.inj z))]
theorem chanW_not {n : Nat} {ws : List (List Nat)} (h : ws.length ≠ 5) : chanW n ws = none := by
  match ws, h with
  | [], _ => rfl
  | [_], _ => rfl
  | [_, _], _ => rfl
  | [_, _, _], _ => rfl
  | [_, _, _, _], _ => rfl
  | [_, _, _, _, _], h => exact absurd rfl h
  | _ :: _ :: _ :: _ :: _ :: _ :: _, _ => rfl
theorem in_opt (x y : Option Int) : inV V.non [optV x, optV y] = (x.isNone || y.isNone) := by
  cases x <;> cases y <;> rfl
section
variable {P : Program} {w : World} {K : PySem.W.Frag} {mg : Str → Option Value} {base : Heap}
theorem ok_chan8 {f N : Addr} {fd : FuncData} (F : Fun K "_read_channel" "_read_channel" s_read_channel f fd) (B : Blt mg) (Z : NetK K mg N) (g_number : DefR P w K mg base "_number" 2 spNum8) : FnOk P w K mg base (L2.CX P w) 3 f fd ["stages", "line"] spChan8 := by
  refine F.okX sc_read_channel (fun vs H Q E h => ?_) (fun cdv A outer s H vs Q E hr h => ?_)
  · obtain ⟨n, l, rfl, _⟩ := h
    rfl
  · obtain ⟨n, l, rfl, ha, hz, q0, q1⟩ := h
    obtain ⟨mc, cr, _, _, ⟨u3, c3⟩, _⟩ := Z.cr
    -- slots: 0 stages*, 1 line, 2 words, 3 ends, 4 word, 5 capacity
    refine ⟨_, (pss_cons (ps_set (i := 2) sc_read_channel.nd rfl (Or.inl rfl) (pe_split (pv 1) pe_str))
      (pss_cons (ps_if (PW.pt (pw_or (pt_cmpR op_ne (pe_callB call_len_seq (by rfl) B.len bt_len (pa_cons (pv 2) pa_nil)) pe_int (nomark _)) (pw_or (pt_cmpR op_ne (pe_ix ix_list (pv 2) pe_int (fun _ _ => rfl)) pe_str (nomark _)) (pw_or1 (pt_cmpR op_ne (pe_ix ix_list (pv 2) pe_int (fun _ _ => rfl)) pe_str (nomark _)))))) (pss_one (ps_ret pe_non)) pss_nil)
      (pss_cons (ps_setLc (i := 3) (own := [("word", 4)]) rfl sc_read_channel.nd rfl rfl (sw_true rfl rfl rfl (by decide +kernel)) (pi_tup (pe_tup (pa_cons (pe_ix ix_list (pv 2) pe_int (fun _ _ => rfl)) (pa_cons (pe_ix ix_list (pv 2) pe_int (fun _ _ => rfl)) pa_nil)))) (blkOk_by (N := nn_read_channel) (sc := defScope s_read_channel) (own := [("word", 4)]) (by decide +kernel)) (fun _ _ _ _ _ => (pg_name (i := 4) sc_read_channel.nd rfl (Or.inl rfl))) (fun _ _ _ _ _ => pts_nil) (fun _ _ _ _ _ => (pe_cd g_number (by exact hr) passL (pa_cons (pv 4) (pa_cons pe_int (pa_cons (pe_op op_sub (pv 0) pe_int) pa_nil))))))
      (pss_cons (ps_set (i := 5) sc_read_channel.nd rfl (Or.inl rfl) (pe_cd g_number hr psE (pa_cons (pe_ix ix_list (pv 2) pe_int (fun _ _ => rfl)) (pa_cons pe_int (pa_cons (ClX.pe_cval (pe_glob (v := .ref N) (by rfl) Z.gN rfl)) pa_nil)))))
      (pss_cons (ps_if (PW.pt (pw_or (pt_cmpR op_in_seq pe_non (pv 3) (by rfl)) (pw_or (pt_cmpR op_eq (pe_ix ix_list (pv 3) pe_int (fun _ _ => rfl)) (pe_ix ix_list (pv 3) pe_int (fun _ _ => rfl)) (nomark _)) (pw_or1 (pt_cmpR op_isN (pv 5) pe_non (nomark _)))))) (pss_one (ps_ret pe_non)) pss_nil)
      (pss_one (ps_ret (pe_tup (StX.pa_star (pv 3) (pa_cons (pv 5) pa_nil)))))))))), ?_⟩
    refine ⟨_, rfl, ⟨_, rfl⟩, _, _, rfl, rfl, rfl, line8 (by rw [S_len]; omega), fun p np => ?_⟩
    rw [split32]
    have pcs := spl1_asc (s := 32) ha
    unfold chanP at q0 q1
    generalize TL.spl [32] 0 [] l = ws at pcs q0 q1 ⊢
    obtain ⟨H1, e1⟩ : ∃ H1, H1 = upd H p (.lst ((ws.map S).map V.str)) := ⟨_, rfl⟩
    have s1 : Same H H1 := by rw [e1]; exact Same.new np
    have h1 : H1 p = some (.lst ((ws.map S).map V.str)) := by rw [e1, upd_same]
    rw [← e1]
    dsimp only [gName]
    refine ⟨_, rfl, p, _, rfl, .inl (SqL.of h1), rfl, _, rfl, ?_⟩
    rw [List.length_map, List.length_map]
    by_cases w5 : ws.length = 5
    · match ws, w5, pcs, q0, q1, h1 with
      | [a, g, b, c, z], _, pcs, q0, q1, h1 =>
      have h1 : H1 p = some (.lst [.str (S a), .str (S g), .str (S b), .str (S c), .str (S z)]) := h1
      have w0 : atI [V.str (S a), .str (S g), .str (S b), .str (S c), .str (S z)] (0 : Int) = some (.str (S a)) := atI_nat (j := 0) rfl
      have w1 : atI [V.str (S a), .str (S g), .str (S b), .str (S c), .str (S z)] (1 : Int) = some (.str (S g)) := atI_nat (j := 1) rfl
      have w2 : atI [V.str (S a), .str (S g), .str (S b), .str (S c), .str (S z)] (2 : Int) = some (.str (S b)) := atI_nat (j := 2) rfl
      have w3 : atI [V.str (S a), .str (S g), .str (S b), .str (S c), .str (S z)] (3 : Int) = some (.str (S c)) := atI_nat (j := 3) rfl
      have w4 : atI [V.str (S a), .str (S g), .str (S b), .str (S c), .str (S z)] (4 : Int) = some (.str (S z)) := atI_nat (j := 4) rfl
      have pa := pcs a (by simp)
      have pb := pcs b (by simp)
      have pz := pcs z (by simp)
      refine iteF ⟨_, rfl, p, _, _, _, rfl, rfl, SqL.of h1, w1, rfl, _, rfl, ?_⟩
      rw [str_dec g ">" [62] (ofS ">")]
      by_cases eg : g = [62]
      case neg =>
        have e : chanW n [a, g, b, c, z] = none := if_neg fun y => eg y.1
        rw [decide_eq_false eg]
        exact iteT (iteT (q0 e _ s1))
      rw [decide_eq_true eg]
      refine iteF ⟨_, rfl, p, _, _, _, rfl, rfl, SqL.of h1, w3, rfl, _, rfl, ?_⟩
      rw [str_dec c ":" [58] (ofS ":")]
      by_cases ec : c = [58]
      case neg =>
        have e : chanW n [a, g, b, c, z] = none := if_neg fun y => ec y.2
        rw [decide_eq_false ec]
        exact iteT (q0 e _ s1)
      rw [decide_eq_true ec]
      refine iteF ?_
      have eW : chanW n [a, g, b, c, z] = (match numP 0 ((n : Nat) - 1) a, numP 0 ((n : Nat) - 1) b, numP 1 999 z with
        | some i, some j, some k => if i = j then none else some (i, j, k)
        | _, _, _ => none) := if_pos ⟨eg, ec⟩
      rw [eW] at q0 q1
      dsimp only [tNext]
      refine ⟨_, rfl, p, _, _, _, rfl, rfl, SqL.of h1, w0, _, rfl, p, _, _, _, rfl, rfl, SqL.of h1, w2, by show 2 ≤ sizeLine; decide, fun t nt => ?_⟩
      obtain ⟨H2, e2⟩ : ∃ H2, H2 = upd H1 t (.tup [.str (S a), .str (S b)]) := ⟨_, rfl⟩
      have s2 : Same H1 H2 := by rw [e2]; exact Same.new nt
      have h2 : H2 t = some (.tup [.str (S a), .str (S b)]) := by rw [e2, upd_same]
      rw [← e2]
      refine ⟨t, rfl, ⟨_, SqT.of h2⟩, fun D hD => lc_it (walk_tup (xs := [V.str (S a), V.str (S b)])) (fun m H3 => Same H2 H3 ∧ H3 D = some (.lst ([optV (numP 0 ((n : Nat) - 1) a), optV (numP 0 ((n : Nat) - 1) b)].take m))) ⟨Same.new hD, upd_same⟩ (fun m H3 _ z => SqT.of (z.1 _ _ h2)) ?_ ?_⟩
      · rintro m y H3 H4 hm ⟨s3, hd⟩ ⟨rfl, hy⟩
        obtain ⟨u, hu, e, hua, hul⟩ : ∃ u : List Nat, ([optV (numP 0 ((n : Nat) - 1) a), optV (numP 0 ((n : Nat) - 1) b)])[m]? = some (optV (numP 0 ((n : Nat) - 1) u)) ∧ y = .str (S u) ∧ asc u = true ∧ u.length ≤ l.length := by
          match m, hy with
          | 0, hy => exact ⟨a, rfl, (Option.some.inj hy).symm, pa.1, pa.2⟩
          | 1, hy => exact ⟨b, rfl, (Option.some.inj hy).symm, pb.1, pb.2⟩
        subst e
        refine ⟨rfl, yes ⟨_, rfl, _, rfl, _, _, rfl, rfl, u, 0, _, rfl, hua, line8 (by omega), _, hd, ?_, Same.newer s3 hD, ?_⟩⟩
        · rw [List.length_take]
          exact line_lt (by show min _ 2 < _; omega)
        · rw [upd_same, take_snoc hu]
      · rintro H3 ⟨s3, hd⟩
        have hd : H3 D = some (.lst [optV (numP 0 ((n : Nat) - 1) a), optV (numP 0 ((n : Nat) - 1) b)]) := hd
        have s13 := s2.trans s3
        dsimp only [gName]
        refine ⟨_, rfl, p, _, _, _, rfl, rfl, SqL.of (s13 _ _ h1), w4, N, mc, _, u3, rfl, cr, c3, z, 1, 999, rfl, pz.1, line8 (by omega), ?_⟩
        generalize numP 0 ((n : Nat) - 1) a = x at q0 q1 hd ⊢
        generalize numP 0 ((n : Nat) - 1) b = y at q0 q1 hd ⊢
        generalize numP 1 999 z = k at q0 q1 ⊢
        have d0 : atI [optV x, optV y] (0 : Int) = some (optV x) := atI_nat (j := 0) rfl
        have d1 : atI [optV x, optV y] (1 : Int) = some (optV y) := atI_nat (j := 1) rfl
        refine ⟨_, rfl, D, _, rfl, .inl (SqL.of hd), rfl, (by cases x <;> cases y <;> rfl), _, rfl, ?_⟩
        rw [if_neg (by decide), in_opt]
        have s03 := s1.trans s13
        cases x with
        | none => exact iteT (iteT (q0 rfl _ s03))
        | some i =>
          cases y with
          | none => exact iteT (iteT (q0 rfl _ s03))
          | some j =>
            refine iteF ⟨_, rfl, D, _, _, _, rfl, rfl, SqL.of hd, d0, _, rfl, D, _, _, _, rfl, rfl, SqL.of hd, d1, rfl, _, rfl, ?_⟩
            by_cases eij : i = j
            · rw [show decide (optV (some i) = optV (some j)) = true from decide_eq_true (by rw [eij])]
              refine iteT (iteT (q0 ?_ _ s03))
              cases k with
              | none => rfl
              | some k => exact if_pos eij
            · rw [show decide (optV (some i) = optV (some j)) = false from decide_eq_false fun y => eij (V.int.inj y)]
              refine iteF ⟨_, rfl, rfl, _, rfl, ?_⟩
              cases k with
              | none => exact iteT (q0 rfl _ s03)
              | some k =>
                rw [show decide (optV (some k) = V.non) = false from decide_eq_false (by intro z; cases z)]
                exact iteF ⟨_, rfl, D, _, rfl, .inr (SqL.of hd), _, rfl, by show 3 ≤ sizeLine; decide, fun r nr => q1 (i, j, k) (if_neg eij) r _ (s03.trans (Same.new nr)) upd_same⟩
    · have e : chanW n ws = none := chanW_not w5
      rw [show decide (V.int ((ws.length : Nat) : Int) = V.int 5) = false from decide_eq_false fun z => w5 (by injection z with z; omega)]
      exact iteT (iteT (q0 e _ s1))
end
end WC

set_option maxHeartbeats 8000000
namespace WC
open PySem PySem.Spec PyProof.Rows L2 SX
theorem numP_some {lo hi i : Int} {l : List Nat} (h : numP lo hi l = some i) : lo ≤ i ∧ i ≤ hi := by
  unfold numP at h
  split at h
  · next z =>
    rw [← Option.some.inj h]
    exact z.2.2.2
  · cases h
section
variable {P : Program} {w : World} {K : PySem.W.Frag} {mg : Str → Option Value} {base : Heap}
theorem ok_link8 {f : Addr} {fd : FuncData} (F : Fun K "_law_link" "_law_link" s_law_link f fd) (B : Blt mg) (g_law_number : DefR P w K mg base "_law_number" 1 spLN8) : FnOk P w K mg base (L2.CX P w) 2 f fd ["line", "count"] spLink8 := by
  refine F.okX sc_law_link (fun vs H Q E h => ?_) (fun cdv A outer s H vs Q E hr h => ?_)
  · obtain ⟨n, l, rfl, _⟩ := h
    rfl
  · obtain ⟨n, l, rfl, ha, hz, q0, q1⟩ := h
    -- slots: 0 line, 1 count, 2 words, 3 a, 4 b, 5 size
    refine ⟨_, (pss_cons (ps_set (i := 2) sc_law_link.nd rfl (Or.inl rfl) (pe_split (pv 0) pe_str))
      (pss_cons (ps_if (PW.pt (pw_or (pt_cmpR op_ne (pe_callB call_len_seq (by rfl) B.len bt_len (pa_cons (pv 2) pa_nil)) pe_int (nomark _)) (pw_or (pt_cmpR op_ne (pe_ix ix_list (pv 2) pe_int (fun _ _ => rfl)) pe_str (nomark _)) (pw_or1 (pt_cmpR op_ne (pe_ix ix_list (pv 2) pe_int (fun _ _ => rfl)) pe_str (nomark _)))))) (pss_one (ps_ret pe_non)) pss_nil)
      (pss_cons (ps_set (i := 3) sc_law_link.nd rfl (Or.inl rfl) (pe_cd g_law_number hr psE (pa_cons (pe_ix ix_list (pv 2) pe_int (fun _ _ => rfl)) (pa_cons pe_int (pa_cons (pe_op op_sub (pv 1) pe_int) pa_nil)))))
      (pss_cons (ps_set (i := 4) sc_law_link.nd rfl (Or.inl rfl) (pe_cd g_law_number hr psE (pa_cons (pe_ix ix_list (pv 2) pe_int (fun _ _ => rfl)) (pa_cons pe_int (pa_cons (pe_op op_sub (pv 1) pe_int) pa_nil)))))
      (pss_cons (ps_set (i := 5) sc_law_link.nd rfl (Or.inl rfl) (pe_cd g_law_number hr psE (pa_cons (pe_ix ix_list (pv 2) pe_int (fun _ _ => rfl)) (pa_cons pe_int (pa_cons pe_int pa_nil)))))
      (pss_cons (ps_if (PW.pt (pw_or (pt_cmpR op_lt (pv 3) pe_int (nomark _)) (pw_or (pt_cmpR op_lt (pv 4) pe_int (nomark _)) (pw_or (pt_cmpR op_lt (pv 5) pe_int (nomark _)) (pw_or1 (pt_cmpR op_eq (pv 3) (pv 4) (nomark _))))))) (pss_one (ps_ret pe_non)) pss_nil)
      (pss_one (ps_ret (pe_tup (pa_cons (pv 3) (pa_cons (pv 4) (pa_cons (pv 5) pa_nil)))))))))))), ?_⟩
    refine ⟨_, rfl, ⟨_, rfl⟩, _, _, rfl, rfl, rfl, line8 (by rw [S_len]; omega), fun p np => ?_⟩
    rw [split32]
    have pcs := spl1_asc (s := 32) ha
    unfold chanP at q0 q1
    generalize TL.spl [32] 0 [] l = ws at pcs q0 q1 ⊢
    obtain ⟨H1, e1⟩ : ∃ H1, H1 = upd H p (.lst ((ws.map S).map V.str)) := ⟨_, rfl⟩
    have s1 : Same H H1 := by rw [e1]; exact Same.new np
    have h1 : H1 p = some (.lst ((ws.map S).map V.str)) := by rw [e1, upd_same]
    rw [← e1]
    dsimp only [gName]
    refine ⟨_, rfl, p, _, rfl, .inl (SqL.of h1), rfl, _, rfl, ?_⟩
    rw [List.length_map, List.length_map]
    by_cases w5 : ws.length = 5
    · match ws, w5, pcs, q0, q1, h1 with
      | [a, g, b, c, z], _, pcs, q0, q1, h1 =>
      have h1 : H1 p = some (.lst [.str (S a), .str (S g), .str (S b), .str (S c), .str (S z)]) := h1
      have w0 : atI [V.str (S a), .str (S g), .str (S b), .str (S c), .str (S z)] (0 : Int) = some (.str (S a)) := atI_nat (j := 0) rfl
      have w1 : atI [V.str (S a), .str (S g), .str (S b), .str (S c), .str (S z)] (1 : Int) = some (.str (S g)) := atI_nat (j := 1) rfl
      have w2 : atI [V.str (S a), .str (S g), .str (S b), .str (S c), .str (S z)] (2 : Int) = some (.str (S b)) := atI_nat (j := 2) rfl
      have w3 : atI [V.str (S a), .str (S g), .str (S b), .str (S c), .str (S z)] (3 : Int) = some (.str (S c)) := atI_nat (j := 3) rfl
      have w4 : atI [V.str (S a), .str (S g), .str (S b), .str (S c), .str (S z)] (4 : Int) = some (.str (S z)) := atI_nat (j := 4) rfl
      have pa := pcs a (by simp)
      have pb := pcs b (by simp)
      have pz := pcs z (by simp)
      refine iteF ⟨_, rfl, p, _, _, _, rfl, rfl, SqL.of h1, w1, rfl, _, rfl, ?_⟩
      rw [str_dec g ">" [62] (ofS ">")]
      by_cases eg : g = [62]
      case neg =>
        have e : chanW n [a, g, b, c, z] = none := if_neg fun y => eg y.1
        rw [decide_eq_false eg]
        exact iteT (iteT (q0 e _ s1))
      rw [decide_eq_true eg]
      refine iteF ⟨_, rfl, p, _, _, _, rfl, rfl, SqL.of h1, w3, rfl, _, rfl, ?_⟩
      rw [str_dec c ":" [58] (ofS ":")]
      by_cases ec : c = [58]
      case neg =>
        have e : chanW n [a, g, b, c, z] = none := if_neg fun y => ec y.2
        rw [decide_eq_false ec]
        exact iteT (q0 e _ s1)
      rw [decide_eq_true ec]
      refine iteF ?_
      have eW : chanW n [a, g, b, c, z] = (match numP 0 ((n : Nat) - 1) a, numP 0 ((n : Nat) - 1) b, numP 1 999 z with
        | some i, some j, some k => if i = j then none else some (i, j, k)
        | _, _, _ => none) := if_pos ⟨eg, ec⟩
      rw [eW] at q0 q1
      dsimp only [tNext]
      have b0 := fun i => numP_some (i := i) (lo := 0) (hi := (n : Nat) - 1) (l := a)
      have b1 := fun i => numP_some (i := i) (lo := 0) (hi := (n : Nat) - 1) (l := b)
      have b2 := fun i => numP_some (i := i) (lo := 1) (hi := 999) (l := z)
      refine ⟨_, rfl, p, _, _, _, rfl, rfl, SqL.of h1, w0, _, rfl, _, _, rfl, rfl, a, 0, _, rfl, pa.1, line8 (by omega), ?_⟩
      refine ⟨_, rfl, p, _, _, _, rfl, rfl, SqL.of h1, w2, _, rfl, _, _, rfl, rfl, b, 0, _, rfl, pb.1, line8 (by omega), ?_⟩
      refine ⟨_, rfl, p, _, _, _, rfl, rfl, SqL.of h1, w4, z, 1, 999, rfl, pz.1, line8 (by omega), ?_⟩
      generalize numP 0 ((n : Nat) - 1) a = x at q0 q1 b0 ⊢
      generalize numP 0 ((n : Nat) - 1) b = y at q0 q1 b1 ⊢
      generalize numP 1 999 z = k at q0 q1 b2 ⊢
      dsimp only [gName]
      refine ⟨_, rfl, _, _, rfl, rfl, _, rfl, ?_⟩
      cases x with
      | none => exact iteT (iteT (q0 rfl _ s1))
      | some i =>
        have := b0 i rfl
        rw [show decide (negV (some i) < 0) = false from decide_eq_false (by show ¬ i < 0; omega)]
        refine iteF ⟨_, rfl, _, _, rfl, rfl, _, rfl, ?_⟩
        cases y with
        | none => exact iteT (iteT (q0 rfl _ s1))
        | some j =>
          have := b1 j rfl
          rw [show decide (negV (some j) < 0) = false from decide_eq_false (by show ¬ j < 0; omega)]
          refine iteF ⟨_, rfl, _, _, rfl, rfl, _, rfl, ?_⟩
          cases k with
          | none => exact iteT (iteT (q0 rfl _ s1))
          | some k =>
            have := b2 k rfl
            rw [show decide (negV (some k) < 0) = false from decide_eq_false (by show ¬ k < 0; omega)]
            refine iteF ⟨_, rfl, _, rfl, rfl, _, rfl, ?_⟩
            by_cases eij : i = j
            · rw [show decide (V.int (negV (some i)) = V.int (negV (some j))) = true from decide_eq_true (by rw [eij])]
              exact iteT (q0 (if_pos eij) _ s1)
            · rw [show decide (V.int (negV (some i)) = V.int (negV (some j))) = false from decide_eq_false fun y => eij (V.int.inj y)]
              exact iteF ⟨_, rfl, _, rfl, _, rfl, by show 3 ≤ sizeLine; decide, fun r nr => q1 (i, j, k) (if_neg eij) r _ (s1.trans (Same.new nr)) upd_same⟩
    · have e : chanW n ws = none := chanW_not w5
      rw [show decide (V.int ((ws.length : Nat) : Int) = V.int 5) = false from decide_eq_false fun z => w5 (by injection z with z; omega)]
      exact iteT (iteT (q0 e _ s1))
end
end WC

set_option maxHeartbeats 8000000
namespace WC
open PySem PySem.Spec PyProof.Rows L2 SX
/-! the first line, whatever it is -/
def wordL (ring : Bool) : List Nat := cl (if ring = true then "ring" else "pipeline")
def flLn : List V → List (Str × V)
  | [v] => [("line", v)]
  | _ => []
theorem pre32 (r : List Nat) : TL.pre [32] (32 :: r) = true := TL.pre_self [32] r
theorem par_spl : ∀ (l acc : List Nat), (TL.par [32] acc l = none → TL.spl [32] 0 acc l = [acc ++ l]) ∧ ∀ p q, TL.par [32] acc l = some (p, q) → TL.spl [32] 0 acc l = p :: TL.spl [32] 0 [] q
  | [], acc => ⟨fun _ => by rw [TL.spl_nil, List.append_nil], fun p q h => by cases h⟩
  | c :: r, acc => by
    cases e : TL.pre [32] (c :: r) with
    | true =>
      rw [TL.par_hit e, TL.spl_hit e]
      refine ⟨fun h => (by cases h), fun p q h => ?_⟩
      injection h with h
      injection h with h1 h2
      subst h1 h2
      rfl
    | false =>
      rw [TL.par_miss e, TL.spl_miss e]
      obtain ⟨h1, h2⟩ := par_spl r (acc ++ [c])
      exact ⟨fun h => by rw [h1 h, List.append_assoc]; rfl, h2⟩
theorem spl_two : ∀ (q acc : List Nat), 32 ∈ q → ∃ x y r, TL.spl [32] 0 acc q = x :: y :: r
  | c :: r, acc, h => by
    by_cases e : c = 32
    · subst e
      rw [TL.spl_hit (pre32 r)]
      cases e2 : TL.spl [32] ([32].length - 1) [] r with
      | nil =>
        exfalso
        have e2 : TL.spl [32] 0 [] r = [] := e2
        obtain ⟨h1, h2⟩ := par_spl r []
        cases e3 : TL.par [32] [] r with
        | none => rw [h1 e3] at e2; cases e2
        | some z => rw [h2 z.1 z.2 e3] at e2; cases e2
      | cons y r2 => exact ⟨acc, y, r2, rfl⟩
    · rw [TL.spl_miss (TL.pre_of_head [] r e)]
      rcases List.mem_cons.mp h with h | h
      · exact absurd h.symm e
      · exact spl_two r _ h
theorem digs_no32 {q : List Nat} (h : digs8 q = true) : 32 ∉ q := fun m => by
  unfold digs8 at h
  rw [Bool.and_eq_true] at h
  have := List.all_eq_true.mp h.2 32 m
  cases this
theorem numP_no32 {lo hi : Int} {q : List Nat} (h : 32 ∈ q) : numP lo hi q = none := if_neg fun z => digs_no32 z.1 h
def headW : List (List Nat) → Option (Bool × Int)
  | [a, d] => if a = cl "ring" then (numP 3 40 d).map (fun i => (true, i)) else if a = cl "pipeline" then (numP 1 40 d).map (fun i => (false, i)) else none
  | _ => none
def headP (l : List Nat) : Option (Bool × Int) := headW (TL.spl [32] 0 [] l)
theorem head_none {l : List Nat} (h : TL.par [32] [] l = none) : headP l = none := by
  unfold headP
  rw [(par_spl l []).1 h]
  rfl
theorem head_some {l p q : List Nat} (h : TL.par [32] [] l = some (p, q)) : headP l = headW [p, q] := by
  unfold headP
  rw [(par_spl l []).2 p q h]
  by_cases m : 32 ∈ q
  · obtain ⟨x, y, r, e⟩ := spl_two q [] m
    rw [e]
    show none = headW [p, q]
    show none = if p = cl "ring" then (numP 3 40 q).map (fun i => (true, i)) else if p = cl "pipeline" then (numP 1 40 q).map (fun i => (false, i)) else none
    rw [numP_no32 m, numP_no32 m]
    split
    · rfl
    · split <;> rfl
  · rw [TL.spl_last1 m]
    rfl
theorem in_words8 (a : List Nat) : inV (.str (S a)) [.str (Str.ofString "pipeline"), .str (Str.ofString "ring")] = (decide (a = cl "pipeline") || decide (a = cl "ring")) := by
  have e : ∀ b : List Nat, eqV (.str (S b)) (.str (S a)) = decide (a = b) := fun b => by
    show (S b == S a) = _
    rw [S_beq_eq]
    by_cases h : b = a
    · rw [decide_eq_true h, decide_eq_true h.symm]
    · rw [decide_eq_false h, decide_eq_false fun z => h z.symm]
  rw [ofS, ofS]
  show (eqV _ _ || (eqV _ _ || false)) = _
  rw [e, e, Bool.or_false]
def spHead8 (CT : Addr) : Sp := fun vs H Q E => ∃ l : List Nat, vs = [.str (S l)] ∧ asc l = true ∧ l.length ≤ 1000000 ∧ (∀ ring i, headP l = some (ring, i) → ∀ r H2, Same H H2 → H2 r = some (.tup [.str (S (wordL ring)), .int i]) → Q (.ref r) H2) ∧ (headP l = none → ErrX E CT H [("line", .int 1)])
theorem par_len {l p q : List Nat} (h : TL.par [32] [] l = some (p, q)) (ha : asc l = true) : asc q = true ∧ q.length ≤ l.length ∧ p.length ≤ l.length := by
  have h2 := (par_spl l []).2 p q h
  have hp := spl1_asc (s := 32) ha p (by rw [h2]; exact List.mem_cons_self)
  have k : ∀ (l acc : List Nat) p q, TL.par [32] acc l = some (p, q) → (∀ c ∈ q, c ∈ l) ∧ q.length ≤ l.length := fun l => by
    induction l with
    | nil => intro acc p q h; cases h
    | cons c r ih =>
      intro acc p q h
      cases e : TL.pre [32] (c :: r) with
      | true =>
        rw [TL.par_hit e] at h
        injection h with h
        injection h with h1 h2
        subst h2
        exact ⟨fun d hd => List.mem_cons_of_mem _ hd, by show r.length ≤ _; rw [List.length_cons]; omega⟩
      | false =>
        rw [TL.par_miss e] at h
        obtain ⟨a, b⟩ := ih _ _ _ h
        exact ⟨fun d hd => List.mem_cons_of_mem _ (a d hd), by rw [List.length_cons]; omega⟩
  obtain ⟨a, b⟩ := k l [] p q h
  exact ⟨List.all_eq_true.mpr fun c hc => decide_eq_true (asc_of ha c (a c hc)), b, hp.2⟩
section
variable {P : Program} {w : World} {K : PySem.W.Frag} {mg : Str → Option Value} {base : Heap}
theorem ok_head8 {f N CT : Addr} {tLR : Tok} {fd : FuncData} (F : Fun K "_read_head" "_read_head" s_read_head f fd) (B : Blt mg) (Z : NetK K mg N) (gLR : mg "LEAST_RING" = some (.int 3 tLR)) (g_number : DefR P w K mg base "_number" 2 spNum8) (t_InvalidText : ExcR P w K mg base "InvalidText" CT 1 1 flLn) : FnOk P w K mg base (L2.CX P w) 3 f fd ["line"] (spHead8 CT) := by
  refine F.okX sc_read_head (fun vs H Q E h => ?_) (fun cdv A outer s H vs Q E hr h => ?_)
  · obtain ⟨l, rfl, _⟩ := h
    rfl
  · obtain ⟨l, rfl, ha, hz, q1, q0⟩ := h
    obtain ⟨mc, cr, ⟨u1, c1⟩, _, _, _⟩ := Z.cr
    -- slots: 0 line, 1 word, 2 _, 3 digits, 4 stages
    refine ⟨_, (pss_cons (ps_asg (pe_partition (pv 0) pe_str) (pg_tup rfl (pgs_cons (pg_name (i := 1) sc_read_head.nd rfl (Or.inl rfl)) (pgs_cons (pg_name (i := 2) sc_read_head.nd rfl (Or.inl rfl)) (pgs_cons (pg_name (i := 3) sc_read_head.nd rfl (Or.inl rfl)) pgs_nil)))))
      (pss_cons (ps_if (pt_cmpR op_notIn_seq (pv 1) (pe_tup (pa_cons pe_str (pa_cons pe_str pa_nil))) (by rfl)) (pss_one (ps_raise rfl (takes_of rfl rfl rfl rfl) (pmk_x t_InvalidText hr (pa_cons pe_int pa_nil)))) pss_nil)
      (pss_cons (ps_set (i := 4) sc_read_head.nd rfl (Or.inl rfl) (pe_cd g_number hr psE (pa_cons (pv 3) (pa_cons (pe_ifExp (pt_cmpR op_eq (pv 1) pe_str (nomark _)) (pe_glob (v := .int 3) (by rfl) gLR ⟨_, rfl⟩) pe_int) (pa_cons (ClX.pe_cval (pe_glob (v := .ref N) (by rfl) Z.gN rfl)) pa_nil)))))
      (pss_cons (ps_if (pt_cmpR op_isN (pv 4) pe_non (nomark _)) (pss_one (ps_raise rfl (takes_of rfl rfl rfl rfl) (pmk_x t_InvalidText hr (pa_cons pe_int pa_nil)))) pss_nil)
      (pss_one (ps_ret (pe_tup (pa_cons (pv 1) (pa_cons (pv 4) pa_nil))))))))), ?_⟩
    refine ⟨_, rfl, ⟨_, rfl⟩, _, _, rfl, rfl, rfl, line8 (by rw [S_len]; omega), fun p np => ?_⟩
    obtain ⟨a, m, d, epart, hcase⟩ : ∃ a m d, Txt.partition (S l) (Str.ofString " ") = (S a, S m, S d) ∧ asc d = true ∧ d.length ≤ l.length ∧ headP l = headW [a, d] := by
      rw [ofS, show cl " " = [32] from rfl]
      cases e : TL.par [32] [] l with
      | none =>
        refine ⟨l, [], [], partition_none (by decide) e, rfl, Nat.zero_le _, ?_⟩
        rw [head_none e]
        show none = if l = cl "ring" then (numP 3 40 []).map (fun i => (true, i)) else if l = cl "pipeline" then (numP 1 40 []).map (fun i => (false, i)) else none
        rw [show numP 3 40 [] = none from rfl, show numP 1 40 [] = none from rfl]
        split
        · rfl
        · split <;> rfl
      | some z =>
        obtain ⟨x, y⟩ := z
        have := par_len e ha
        exact ⟨x, [32], y, partition_some (by decide) e, this.1, this.2.1, head_some e⟩
    obtain ⟨hda, hdl, hh⟩ := hcase
    rw [epart]
    rw [hh] at q0 q1
    have eW : headW [a, d] = if a = cl "ring" then (numP 3 40 d).map (fun i => (true, i)) else if a = cl "pipeline" then (numP 1 40 d).map (fun i => (false, i)) else none := rfl
    rw [eW] at q0 q1
    have s1 : Same H (upd H p (.tup [.str (S a), .str (S m), .str (S d)])) := Same.new np
    refine ⟨p, _, rfl, SqT.of upd_same, rfl, _, _, rfl, _, _, rfl, _, _, rfl, rfl, ?_⟩
    refine ⟨_, rfl, by show 2 ≤ sizeLine; decide, fun p2 np2 => ⟨p2, _, rfl, .inr (SqT.of upd_same), rfl, rfl, _, rfl, ?_⟩⟩
    rw [if_pos rfl, in_words8]
    have s2 : Same H (upd (upd H p (.tup [.str (S a), .str (S m), .str (S d)])) p2 (.tup [.str (Str.ofString "pipeline"), .str (Str.ofString "ring")])) := s1.trans (Same.new np2)
    generalize upd (upd H p (.tup [.str (S a), .str (S m), .str (S d)])) p2 (.tup [.str (Str.ofString "pipeline"), .str (Str.ofString "ring")]) = H2 at s2 ⊢
    by_cases hw : a = cl "pipeline" ∨ a = cl "ring"
    case neg =>
      have e1 : a ≠ cl "pipeline" := fun z => hw (.inl z)
      have e2 : a ≠ cl "ring" := fun z => hw (.inr z)
      rw [decide_eq_false e1, decide_eq_false e2]
      rw [if_neg e2, if_neg e1] at q0
      exact iteT (x_use rfl (by decide) (((q0 rfl).on s2).new))
    rw [show (!(decide (a = cl "pipeline") || decide (a = cl "ring"))) = false by rcases hw with e | e <;> rw [decide_eq_true e] <;> simp]
    refine iteF ?_
    obtain ⟨ring, er⟩ : ∃ ring, a = wordL ring := by
      rcases hw with e | e
      · exact ⟨false, e⟩
      · exact ⟨true, e⟩
    subst er
    obtain ⟨o, eo, q0, q1⟩ : ∃ o, o = numP (if ring = true then 3 else 1) 40 d ∧ (o = none → ErrX E CT H [("line", .int 1)]) ∧ ∀ i, o = some i → ∀ r H2, Same H H2 → H2 r = some (.tup [.str (S (wordL ring)), .int i]) → Q (.ref r) H2 := by
      refine ⟨_, rfl, fun z => q0 ?_, fun i z => q1 ring i ?_⟩
      · cases ring with
        | true => rw [if_pos rfl] at z; rw [if_pos (show wordL true = cl "ring" from rfl), z]; rfl
        | false => rw [if_neg (by decide)] at z; rw [if_neg (show wordL false ≠ cl "ring" by decide), if_pos (show wordL false = cl "pipeline" from rfl), z]; rfl
      · cases ring with
        | true => rw [if_pos rfl] at z; rw [if_pos (show wordL true = cl "ring" from rfl), z]; rfl
        | false => rw [if_neg (by decide)] at z; rw [if_neg (show wordL false ≠ cl "ring" by decide), if_pos (show wordL false = cl "pipeline" from rfl), z]; rfl
    have hw : decide (V.str (S (wordL ring)) = V.str (Str.ofString "ring")) = ring := by cases ring <;> decide
    dsimp only [tNext, gName]
    refine seq_mid (fun σ H3 => σ = [some (.str (S l)), some (.str (S (wordL ring))), some (.str (S m)), some (.str (S d)), some (optV o)] ∧ H3 = H2) (fun M hM => ?_) ?_
    · refine ⟨_, rfl, _, rfl, rfl, _, rfl, ?_⟩
      rw [hw]
      cases ring with
      | true => exact iteT ⟨N, mc, _, u1, rfl, cr, c1, d, 3, 40, rfl, hda, line8 (by omega), hM _ _ ⟨by rw [eo]; rfl, rfl⟩⟩
      | false => exact iteF ⟨N, mc, _, u1, rfl, cr, c1, d, 1, 40, rfl, hda, line8 (by omega), hM _ _ ⟨by rw [eo]; rfl, rfl⟩⟩
    rintro σ H3 ⟨rfl, rfl⟩
    refine ⟨_, rfl, rfl, _, rfl, ?_⟩
    cases o with
    | none => exact iteT (x_use rfl (by decide) (((q0 rfl).on s2).new))
    | some i =>
      rw [show decide (optV (some i) = V.non) = false from decide_eq_false (by intro z; cases z)]
      exact iteF ⟨_, rfl, _, rfl, by show 2 ≤ sizeLine; decide, fun r nr => q1 i rfl r _ (s2.trans (Same.new nr)) upd_same⟩
end
end WC

set_option maxHeartbeats 8000000
namespace WC
open PySem PySem.Spec PyProof.Rows L2 SX
/-! a state read from any text: the program's and the law's -/
def seqO : List (Option Int) → Option (List Int)
  | [] => some []
  | none :: _ => none
  | some i :: r => (seqO r).map (i :: ·)
theorem seqO_some : ∀ {xs : List (Option Int)} {ns : List Int}, seqO xs = some ns → xs = ns.map some
  | [], ns, h => by cases h; rfl
  | none :: _, ns, h => by cases h
  | some i :: r, ns, h => by
    have h : (seqO r).map (i :: ·) = some ns := h
    cases e : seqO r with
    | none => rw [e] at h; cases h
    | some ms =>
      rw [e] at h
      cases h
      rw [seqO_some e]
      rfl
theorem seqO_none : ∀ {xs : List (Option Int)}, seqO xs = none ↔ none ∈ xs
  | [] => ⟨fun h => (by cases h), fun h => (by cases h)⟩
  | none :: r => ⟨fun _ => List.mem_cons_self, fun _ => rfl⟩
  | some i :: r => by
    have e : seqO (some i :: r) = (seqO r).map (i :: ·) := rfl
    rw [e, Option.map_eq_none_iff, seqO_none]
    exact ⟨fun h => List.mem_cons_of_mem _ h, fun h => (List.mem_cons.mp h).resolve_left fun z => (by cases z)⟩
theorem in_opts : ∀ xs : List (Option Int), inV V.non (xs.map optV) = decide (none ∈ xs)
  | [] => rfl
  | none :: r => by
    rw [decide_eq_true List.mem_cons_self]
    rfl
  | some i :: r => by
    have e : inV V.non ((some i :: r).map optV) = inV V.non (r.map optV) := rfl
    rw [e, in_opts r]
    congr 1
    exact propext ⟨fun h => List.mem_cons_of_mem _ h, fun h => (List.mem_cons.mp h).resolve_left fun z => (by cases z)⟩
def stN (l : List Nat) : List (Option Int) := (TL.spl [32] 0 [] l).map (numP 0 999)
def stP (n : Nat) (l : List Nat) : Option (List Int) := if (stN l).length = n then seqO (stN l) else none
def spRdS8 (CS : List Addr) (CT : Addr) : Sp := fun vs H Q E => ∃ (C x : Addr) (n : Nat) (cs : List Tri) (l : List Nat), C ∈ CS ∧ vs = [.ref x, .str (S l)] ∧ NetAt H x C n cs ∧ asc l = true ∧ l.length ≤ 1000000 ∧ (∀ is, stP n l = some is → ∀ r H2, Same H H2 → H2 r = some (.tup (is.map V.int)) → Q (.ref r) H2) ∧ (stP n l = none → ErrX E CT H [("line", .int 1)])
theorem opts_flat (xs : List (Option Int)) : (xs.map optV).all flatV = true := List.all_eq_true.mpr fun v hv => by
  obtain ⟨o, _, rfl⟩ := List.mem_map.mp hv
  cases o <;> rfl
theorem optV_some (ns : List Int) : (ns.map some).map optV = ns.map V.int := by
  rw [List.map_map]
  rfl
section
variable {P : Program} {w : World} {K : PySem.W.Frag} {mg : Str → Option Value} {base : Heap}
theorem ok_read_state8 {f N CT : Addr} {CS : List Addr} {fd : FuncData} (F : Fun K "read_state" "read_state" s_read_state f fd) (B : Blt mg) (Z : NetK K mg N) (T : ∀ C ∈ CS, NetCls K C) (g_number : DefR P w K mg base "_number" 2 spNum8) (t_InvalidText : ExcR P w K mg base "InvalidText" CT 1 1 flLn) : FnOk P w K mg base (L2.CX P w) 3 f fd ["net", "text"] (spRdS8 CS CT) := by
  refine F.okX sc_read_state (fun vs H Q E h => ?_) (fun cdv A outer s H vs Q E hr h => ?_)
  · obtain ⟨C, x, n, cs, l, _, rfl, _⟩ := h
    rfl
  · obtain ⟨C, x, n, cs, l, hC, rfl, NA, ha, hz, q1, q0⟩ := h
    have TC := T C hC
    obtain ⟨dx, tc, ti, to, ws, hx, htc, hp, _⟩ := NA.ex
    obtain ⟨mc, cr, _, _, _, ⟨u4, c4⟩⟩ := Z.cr
    -- slots: 0 net, 1 text, 2 state, 3 word
    refine ⟨_, (pss_cons (ps_set (i := 2) sc_read_state.nd rfl (Or.inl rfl) (pe_callTy (T := "tuple") (c_tup (K := K)) (by rfl) B.tuple bt_tuple (pa_cons (pe_lc (own := [("word", 3)]) rfl sc_read_state.nd (pi_list (pe_split (pv 1) pe_str)) (blkOk_by (N := nn_read_state) (sc := defScope s_read_state) (own := [("word", 3)]) (by decide +kernel)) (fun _ _ _ _ _ => (pg_name (i := 3) sc_read_state.nd rfl (Or.inl rfl))) (fun _ _ _ _ _ => pts_nil) (fun _ _ _ _ _ => (pe_cd g_number (by exact hr) passL (pa_cons (pv 3) (pa_cons pe_int (pa_cons (pe_cvalK (K := K) (pe_glob (v := .ref N) (by rfl) Z.gN rfl)) pa_nil)))))) pa_nil)))
      (pss_cons (ps_if (PW.pt (pw_or (pt_cmpR op_ne (pe_callB call_len_seq (by rfl) B.len bt_len (pa_cons (pv 2) pa_nil)) (pe_fld (pv 0) rfl) (nomark _)) (pw_or1 (pt_cmpR op_in_seq pe_non (pv 2) (by rfl))))) (pss_one (ps_raise rfl (takes_of rfl rfl rfl rfl) (pmk_x t_InvalidText hr (pa_cons pe_int pa_nil)))) pss_nil)
      (pss_one (ps_ret (pv 2))))), ?_⟩
    refine ⟨_, rfl, ⟨_, rfl⟩, _, _, rfl, rfl, rfl, line8 (by rw [S_len]; omega), fun p np => ?_⟩
    rw [split32]
    have pcs := spl1_asc (s := 32) ha
    have pl := spl1_len (s := 32) l []
    unfold stP at q0 q1
    have eN : stN l = (TL.spl [32] 0 [] l).map (numP 0 999) := rfl
    rw [eN] at q0 q1
    generalize TL.spl [32] 0 [] l = pw at pcs pl q0 q1 ⊢
    obtain ⟨H1, e1⟩ : ∃ H1, H1 = upd H p (.lst ((pw.map S).map V.str)) := ⟨_, rfl⟩
    have s1 : Same H H1 := by rw [e1]; exact Same.new np
    have h1 : H1 p = some (.lst ((pw.map S).map V.str)) := by rw [e1, upd_same]
    rw [← e1]
    have lw : ((pw.map S).map V.str).length = pw.length := by rw [List.length_map, List.length_map]
    refine ⟨p, rfl, ⟨_, SqL.of h1⟩, fun D hD => lc_it (walk_list (xs := (pw.map S).map V.str)) (fun i H3 => Same H1 H3 ∧ H3 D = some (.lst (((pw.map (numP 0 999)).map optV).take i))) ⟨Same.new hD, upd_same⟩ (fun i H3 _ z => SqL.of (z.1 _ _ h1)) ?_ ?_⟩
    · rintro i y H3 H4 hi ⟨s3, hd⟩ ⟨rfl, hy⟩
      obtain ⟨u, hu, e⟩ : ∃ u, pw[i]? = some u ∧ y = .str (S u) := by
        rw [List.getElem?_map, List.getElem?_map] at hy
        cases e : pw[i]? with
        | none => rw [e] at hy; cases hy
        | some c => rw [e] at hy; cases hy; exact ⟨c, rfl, rfl⟩
      subst e
      have b := pcs u (List.mem_of_getElem? hu)
      have ht : ((pw.map (numP 0 999)).map optV)[i]? = some (optV (numP 0 999 u)) := by rw [List.getElem?_map, List.getElem?_map, hu]; rfl
      refine ⟨rfl, yes ⟨_, rfl, N, mc, _, u4, rfl, cr, c4, u, 0, 999, rfl, b.1, line8 (by omega), _, hd, ?_, Same.newer s3 hD, ?_⟩⟩
      · rw [List.length_take, List.length_map, List.length_map]
        exact Nat.lt_of_lt_of_le (show _ < 1000003 by omega) (by decide)
      · rw [upd_same, take_snoc ht]
    · rintro H3 ⟨s3, hd⟩
      have e9 : ((pw.map (numP 0 999)).map optV).take ((pw.map S).map V.str).length = (pw.map (numP 0 999)).map optV := by
        rw [lw]
        refine List.take_of_length_le ?_
        rw [List.length_map, List.length_map]
        exact Nat.le_refl _
      rw [e9] at hd
      generalize hxs : pw.map (numP 0 999) = xs at hd q0 q1
      refine ⟨D, _, rfl, .inl ⟨SqL.of hd, fun r nr => ?_⟩⟩
      obtain ⟨H4, e4⟩ : ∃ H4, H4 = upd H3 r (.tup (xs.map optV)) := ⟨_, rfl⟩
      have s4 : Same H3 H4 := by rw [e4]; exact Same.new nr
      have h4 : H4 r = some (.tup (xs.map optV)) := by rw [e4, upd_same]
      rw [← e4]
      have s04 := s1.trans (s3.trans s4)
      dsimp only [gName]
      refine ⟨_, rfl, r, _, rfl, .inr (SqT.of h4), _, rfl, x, C, dx, _, _, rfl, s04 _ _ hx, TC.cl, TC.nS, lk_st, rfl, _, rfl, ?_⟩
      rw [List.length_map]
      by_cases en : xs.length = n
      case neg =>
        rw [show decide (V.int (xs.length : Nat) = V.int n) = false from decide_eq_false fun z => en (by injection z with z; omega)]
        exact iteT (iteT (x_use rfl (by decide) (((q0 (if_neg en)).on s04).new)))
      rw [if_pos en] at q0 q1
      rw [show decide (V.int (xs.length : Nat) = V.int n) = true from decide_eq_true (by rw [en])]
      refine iteF ⟨_, rfl, r, _, rfl, .inr (SqT.of h4), rfl, opts_flat xs, _, rfl, ?_⟩
      rw [if_neg (by decide), in_opts]
      by_cases hn : none ∈ xs
      · rw [decide_eq_true hn]
        exact iteT (x_use rfl (by decide) (((q0 (seqO_none.mpr hn)).on s04).new))
      · rw [decide_eq_false hn]
        cases es : seqO xs with
        | none => exact absurd (seqO_none.mp es) hn
        | some ns =>
          have e := seqO_some es
          rw [e, optV_some] at h4
          exact iteF ⟨_, rfl, q1 ns es r H4 s04 h4⟩
end
end WC

set_option maxHeartbeats 8000000
namespace WC
open PySem PySem.Spec PyProof.Rows L2 SX
theorem bt_min8 : bootBuiltins "min" = some (.builtin "min") := by decide +kernel
def spLRS8 : Sp := fun vs H Q _ => ∃ (n : Nat) (l : List Nat), vs = [.str (S l), .int n] ∧ asc l = true ∧ l.length ≤ 1000000 ∧ (∀ is, stP n l = some is → ∀ r H2, Same H H2 → H2 r = some (.lst (is.map V.int)) → Q (.ref r) H2) ∧ (stP n l = none → ∀ H2, Same H H2 → Q .non H2)
theorem negs_some : ∀ {xs : List (Option Int)}, (∀ o ∈ xs, ∀ i, o = some i → 0 ≤ i) → ((∃ m ∈ xs.map negV, m < 0) ↔ none ∈ xs)
  | xs, h => by
    constructor
    · rintro ⟨m, hm, hn⟩
      obtain ⟨o, ho, rfl⟩ := List.mem_map.mp hm
      cases o with
      | none => exact ho
      | some i =>
        have : ¬ i < 0 := by have := h _ ho i rfl; omega
        exact absurd hn this
    · intro hn
      exact ⟨-1, List.mem_map.mpr ⟨none, hn, rfl⟩, by decide⟩
theorem negV_some (ns : List Int) : (ns.map some).map negV = ns := by
  rw [List.map_map]
  exact List.map_id _
section
variable {P : Program} {w : World} {K : PySem.W.Frag} {mg : Str → Option Value} {base : Heap}
theorem ok_law_read_state8 {f : Addr} {fd : FuncData} (F : Fun K "_law_read_state" "_law_read_state" s_law_read_state f fd) (B : Blt mg) (g_law_number : DefR P w K mg base "_law_number" 1 spLN8) : FnOk P w K mg base (L2.CX P w) 2 f fd ["text", "count"] spLRS8 := by
  refine F.okX sc_law_read_state (fun vs H Q E h => ?_) (fun cdv A outer s H vs Q E hr h => ?_)
  · obtain ⟨n, l, rfl, _⟩ := h
    rfl
  · obtain ⟨n, l, rfl, ha, hz, q1, q0⟩ := h
    -- slots: 0 text, 1 count, 2 row, 3 word
    refine ⟨_, (pss_cons (ps_setLc (i := 2) (own := [("word", 3)]) rfl sc_law_read_state.nd rfl rfl (sw_true rfl rfl rfl (by decide +kernel)) (pi_list (pe_split (pv 0) pe_str)) (blkOk_by (N := nn_law_read_state) (sc := defScope s_law_read_state) (own := [("word", 3)]) (by decide +kernel)) (fun _ _ _ _ _ => (pg_name (i := 3) sc_law_read_state.nd rfl (Or.inl rfl))) (fun _ _ _ _ _ => pts_nil) (fun _ _ _ _ _ => (pe_cd g_law_number (by exact hr) passL (pa_cons (pv 3) (pa_cons pe_int (pa_cons pe_int pa_nil))))))
      (pss_cons (ps_if (PW.pt (pw_or (pt_cmpR op_ne (pe_callB call_len_seq (by rfl) B.len bt_len (pa_cons (pv 2) pa_nil)) (pv 1) (nomark _)) (pw_or1 (pt_cmpR op_lt (pe_callB (cr_minL rfl (un65 hr)) (by rfl) B.min bt_min (pa_cons (pv 2) pa_nil)) pe_int (nomark _))))) (pss_one (ps_ret pe_non)) pss_nil)
      (pss_one (ps_ret (pv 2))))), ?_⟩
    refine ⟨_, rfl, ⟨_, rfl⟩, _, _, rfl, rfl, rfl, line8 (by rw [S_len]; omega), fun p np => ?_⟩
    rw [split32]
    have pcs := spl1_asc (s := 32) ha
    have pl := spl1_len (s := 32) l []
    have pne : 0 < (TL.spl [32] 0 [] l).length := by
      cases e : TL.par [32] [] l with
      | none => rw [(par_spl l []).1 e]; exact Nat.zero_lt_one
      | some z => rw [(par_spl l []).2 z.1 z.2 e]; exact Nat.succ_pos _
    unfold stP at q0 q1
    have eN : stN l = (TL.spl [32] 0 [] l).map (numP 0 999) := rfl
    rw [eN] at q0 q1
    generalize TL.spl [32] 0 [] l = pw at pcs pl pne q0 q1 ⊢
    obtain ⟨H1, e1⟩ : ∃ H1, H1 = upd H p (.lst ((pw.map S).map V.str)) := ⟨_, rfl⟩
    have s1 : Same H H1 := by rw [e1]; exact Same.new np
    have h1 : H1 p = some (.lst ((pw.map S).map V.str)) := by rw [e1, upd_same]
    rw [← e1]
    have lw : ((pw.map S).map V.str).length = pw.length := by rw [List.length_map, List.length_map]
    have hpos : ∀ o ∈ pw.map (numP 0 999), ∀ i, o = some i → 0 ≤ i := fun o ho i e => by
      obtain ⟨u, _, rfl⟩ := List.mem_map.mp ho
      exact (numP_some e).1
    refine ⟨p, rfl, ⟨_, SqL.of h1⟩, fun D hD => lc_it (walk_list (xs := (pw.map S).map V.str)) (fun i H3 => Same H1 H3 ∧ H3 D = some (.lst ((((pw.map (numP 0 999)).map negV).map V.int).take i))) ⟨Same.new hD, upd_same⟩ (fun i H3 _ z => SqL.of (z.1 _ _ h1)) ?_ ?_⟩
    · rintro i y H3 H4 hi ⟨s3, hd⟩ ⟨rfl, hy⟩
      obtain ⟨u, hu, e⟩ : ∃ u, pw[i]? = some u ∧ y = .str (S u) := by
        rw [List.getElem?_map, List.getElem?_map] at hy
        cases e : pw[i]? with
        | none => rw [e] at hy; cases hy
        | some c => rw [e] at hy; cases hy; exact ⟨c, rfl, rfl⟩
      subst e
      have b := pcs u (List.mem_of_getElem? hu)
      have ht : (((pw.map (numP 0 999)).map negV).map V.int)[i]? = some (.int (negV (numP 0 999 u))) := by rw [List.getElem?_map, List.getElem?_map, List.getElem?_map, hu]; rfl
      refine ⟨rfl, yes ⟨_, rfl, u, 0, 999, rfl, b.1, line8 (by omega), _, hd, ?_, Same.newer s3 hD, ?_⟩⟩
      · rw [List.length_take, List.length_map, List.length_map, List.length_map]
        exact Nat.lt_of_lt_of_le (show _ < 1000003 by omega) (by decide)
      · rw [upd_same, take_snoc ht]
    · rintro H3 ⟨s3, hd⟩
      have e9 : (((pw.map (numP 0 999)).map negV).map V.int).take ((pw.map S).map V.str).length = ((pw.map (numP 0 999)).map negV).map V.int := by
        rw [lw]
        refine List.take_of_length_le ?_
        rw [List.length_map, List.length_map, List.length_map]
        exact Nat.le_refl _
      rw [e9] at hd
      have xne : 0 < (pw.map (numP 0 999)).length := by rw [List.length_map]; exact pne
      generalize hxs : pw.map (numP 0 999) = xs at hd q0 q1 hpos xne
      have s04 := s1.trans s3
      dsimp only [gName]
      refine ⟨_, rfl, D, _, rfl, .inl (SqL.of hd), _, rfl, rfl, _, rfl, ?_⟩
      rw [List.length_map, List.length_map]
      by_cases en : xs.length = n
      case neg =>
        rw [show decide (V.int (xs.length : Nat) = V.int n) = false from decide_eq_false fun z => en (by injection z with z; omega)]
        exact iteT (iteT (q0 (if_neg en) _ s04))
      rw [if_pos en] at q0 q1
      rw [show decide (V.int (xs.length : Nat) = V.int n) = true from decide_eq_true (by rw [en])]
      refine iteF ⟨_, rfl, D, xs.map negV, rfl, SqL.of hd, by rw [List.length_map]; exact xne, fun m hm hle => ⟨_, _, rfl, rfl, _, rfl, ?_⟩⟩
      have hiff := negs_some hpos
      by_cases hn : none ∈ xs
      · obtain ⟨m2, hm2, hlt⟩ := hiff.mpr hn
        have := hle m2 hm2
        rw [show decide (m < 0) = true from decide_eq_true (by omega)]
        exact iteT (q0 (seqO_none.mpr hn) _ s04)
      · rw [show decide (m < 0) = false from decide_eq_false fun z => hn (hiff.mp ⟨m, hm, z⟩)]
        cases es : seqO xs with
        | none => exact absurd (seqO_none.mp es) hn
        | some ns =>
          have e := seqO_some es
          rw [e, negV_some] at hd
          exact iteF ⟨_, rfl, q1 ns es D H3 s04 hd⟩
end
end WC

set_option maxHeartbeats 8000000
namespace WC
open PySem PySem.Spec PyProof.Rows L2 SX
/-! moves read from any text -/
def kw (adv : Bool) : Str := if adv then "advance" else "rollback"
def sgL (adv : Bool) : List Nat := if adv = true then [43] else [45]
def sgnP (c : Nat) : Option Bool := if c = 43 then some true else if c = 45 then some false else none
theorem sgnP_some {c : Nat} {adv : Bool} (h : sgnP c = some adv) : [c] = sgL adv := by
  unfold sgnP at h
  split at h
  · next e => cases h; rw [e]; rfl
  · split at h
    · next e => cases h; rw [e]; rfl
    · cases h
theorem sgnP_none {c : Nat} (h : sgnP c = none) : c ≠ 43 ∧ c ≠ 45 := by
  unfold sgnP at h
  split at h
  · cases h
  · split at h
    · cases h
    · next a b => exact ⟨a, b⟩
def mvU (i : Option Int) : List Nat → Option (Int × Bool)
  | c :: _ => match i with
    | some i => (sgnP c).map fun a => (i, a)
    | none => none
  | [] => none
def mvP (n : Nat) (u : List Nat) : Option (Int × Bool) := mvU (numP 0 ((n : Nat) - 1) (u.drop 1)) u
theorem mvU_none (u : List Nat) : mvU none u = none := by cases u <;> rfl
def seqA {α : Type} : List (Option α) → Option (List α)
  | [] => some []
  | none :: _ => none
  | some i :: r => (seqA r).map (i :: ·)
theorem seqA_of {α : Type} : ∀ {xs : List (Option α)} {ns : List α}, xs = ns.map some → seqA xs = some ns
  | _, [], h => by rw [h]; rfl
  | _, n :: ns, h => by
    rw [h]
    show (seqA (ns.map some)).map (n :: ·) = _
    rw [seqA_of (xs := ns.map some) rfl]
    rfl
theorem seqA_none {α : Type} : ∀ {xs : List (Option α)}, none ∈ xs → seqA xs = none
  | none :: r, _ => rfl
  | some i :: r, h => by
    show (seqA r).map (i :: ·) = none
    rw [seqA_none ((List.mem_cons.mp h).resolve_left fun z => (by cases z))]
    rfl
def mvsP (n : Nat) (l : List Nat) : Option (List (Int × Bool)) := if l = [] then some [] else seqA ((TL.spl [32] 0 [] l).map (mvP n))
def MvV (H : Hp) (m : Int × Bool) (v : V) : Prop := ∃ t, v = .ref t ∧ H t = some (.tup [.int m.1, .str (kw m.2)])
def spRdM8 (CS : List Addr) (CT : Addr) : Sp := fun vs H Q E => ∃ (C x : Addr) (n : Nat) (cs : List Tri) (l : List Nat), C ∈ CS ∧ vs = [.ref x, .str (S l)] ∧ NetAt H x C n cs ∧ asc l = true ∧ l.length ≤ 1000000 ∧ (∀ ms, mvsP n l = some ms → ∀ r ks H2, Same H H2 → H2 r = some (.tup ks) → Paired (MvV H2) ms ks → Q (.ref r) H2) ∧ (mvsP n l = none → ErrX E CT H [("line", .int 1)])
theorem emp_dec (l : List Nat) : decide (V.str (S l) = V.str (Str.ofString "")) = decide (l = []) := str_dec l "" [] (ofS "")
section
variable {P : Program} {w : World} {K : PySem.W.Frag} {mg : Str → Option Value} {base : Heap}
theorem ok_read_moves8 {f CT dK : Addr} {es : Array DictEntry} {dn : Nat} {CS : List Addr} {fd : FuncData} (F : Fun K "read_moves" "read_moves" s_read_moves f fd) (B : Blt mg) (T : ∀ C ∈ CS, NetCls K C) (gK2 : mg "KINDS_BY_SIGN" = some (.ref dK)) (DK : KDict K w dK es dn) (DKi : ∀ adv, KDct K w dK (S (sgL adv)) (.str (kw adv))) (DKm : ∀ c : Nat, c ≠ 43 → c ≠ 45 → PySem.W.nsIn K dK (S [c]) = some none) (g_number : DefR P w K mg base "_number" 2 spNum8) (t_InvalidText : ExcR P w K mg base "InvalidText" CT 1 1 flLn) : FnOk P w K mg base (L2.CX P w) 3 f fd ["net", "text"] (spRdM8 CS CT) := by
  refine F.okX sc_read_moves (fun vs H Q E h => ?_) (fun cdv A outer s H vs Q E hr h => ?_)
  · obtain ⟨C, x, n, cs, l, _, rfl, _⟩ := h
    rfl
  · obtain ⟨C, x, n, cs, l, hC, rfl, NA, ha, hz, q1, q0⟩ := h
    have TC := T C hC
    obtain ⟨dx, tc, ti, to, ws, hx, htc, hp, _⟩ := NA.ex
    -- slots: 0 net, 1 text, 2 moves, 3 word, 4 stage
    refine ⟨_, (pss_cons (ps_if (pt_cmpR op_eq (pv 1) pe_str (nomark _)) (pss_one (ps_ret (pe_tup pa_nil))) pss_nil)
      (pss_cons (ps_set (i := 2) sc_read_moves.nd rfl (Or.inl rfl) (pe_lst pa_nil))
      (pss_cons (ps_for (passes_of rfl) rfl (pi_list (pe_split (pv 1) pe_str)) (pg_name (i := 3) sc_read_moves.nd rfl (Or.inl rfl))
        (pss_cons (ps_set (i := 4) sc_read_moves.nd rfl (Or.inl rfl) (pe_cd g_number hr psE (pa_cons (pe_slice C8.sl_txt (pv 3) (po_some pe_int) po_none) (pa_cons pe_int (pa_cons (pe_op op_sub (pe_fld (pv 0) rfl) pe_int) pa_nil)))))
      (pss_cons (ps_if (PW.pt (pw_or (pt_cmpR op_isN (pv 4) pe_non (nomark _)) (pw_or1 (pt_cmpR (op_notIn_kd DK) (pe_ix ix_str (pv 3) pe_int (fun _ _ => rfl)) (pe_glob (v := .ref dK) (by rfl) gK2 rfl) (by rfl))))) (pss_one (ps_raise rfl (takes_of rfl rfl rfl rfl) (pmk_x t_InvalidText hr (pa_cons pe_int pa_nil)))) pss_nil)
      (pss_one (ps_expr (pe_bm PySem.F.plainAttrs_list PySem.F.slot_list_append PySem.F.type_list_append mt_append (pv 2) (pa_cons (pe_tup (pa_cons (pv 4) (pa_cons (pe_ix ix_kdict (pe_glob (v := .ref dK) (by rfl) gK2 rfl) (pe_ix ix_str (pv 3) pe_int (fun _ _ => rfl)) (fun _ _ => rfl)) pa_nil))) pa_nil)))))))
      (pss_one (ps_ret (pe_callTy (T := "tuple") (c_tup (K := K)) (by rfl) B.tuple bt_tuple (pa_cons (pv 2) pa_nil))))))), ?_⟩
    refine ⟨_, rfl, rfl, _, rfl, ?_⟩
    rw [emp_dec]
    by_cases e0 : l = []
    · rw [decide_eq_true e0]
      exact iteT ⟨by show 0 ≤ sizeLine; decide, fun r nr => q1 [] (if_pos e0) r [] _ (Same.new nr) upd_same .nil⟩
    rw [decide_eq_false e0]
    refine iteF ⟨by show 0 ≤ sizeLine; decide, fun Z nZ => ?_⟩
    refine ⟨_, rfl, ⟨_, rfl⟩, _, _, rfl, rfl, rfl, line8 (by rw [S_len]; omega), fun p np => ?_⟩
    rw [split32]
    have pcs := spl1_asc (s := 32) ha
    have pl := spl1_len (s := 32) l []
    unfold mvsP at q0 q1
    rw [if_neg e0] at q0 q1
    generalize TL.spl [32] 0 [] l = pw at pcs pl q0 q1 ⊢
    have hpZ : p ≠ Z := (ne_of_none upd_same np).symm
    have sZ : Same H (upd H Z (.lst [])) := Same.new nZ
    obtain ⟨H1, e1⟩ : ∃ H1, H1 = upd (upd H Z (.lst [])) p (.lst ((pw.map S).map V.str)) := ⟨_, rfl⟩
    have s1 : Same H H1 := by rw [e1]; exact sZ.trans (Same.new np)
    have h1 : H1 p = some (.lst ((pw.map S).map V.str)) := by rw [e1, upd_same]
    have hZ1 : H1 Z = some (.lst []) := by rw [e1, upd_ne hpZ.symm, upd_same]
    rw [← e1]
    have lw : ((pw.map S).map V.str).length = pw.length := by rw [List.length_map, List.length_map]
    refine ⟨p, rfl, ⟨_, SqL.of h1⟩, for_it (walk_list (xs := (pw.map S).map V.str)) (fun i σ H5 => ∃ v3 v4 ms ks, σ = [some (.ref x), some (.str (S l)), some (.ref Z), v3, v4] ∧ Same H H5 ∧ H5 p = some (.lst ((pw.map S).map V.str)) ∧ H5 Z = some (.lst ks) ∧ (pw.map (mvP n)).take i = ms.map some ∧ Paired (MvV H5) ms ks) ⟨_, _, [], [], rfl, s1, h1, hZ1, rfl, .nil⟩ (fun i σ H5 _ z => ?_) ?_ ?_⟩
    · obtain ⟨_, _, _, _, _, _, z, _⟩ := z
      exact SqL.of z
    · rintro i y σ H4 H5 hi ⟨v3, v4, ms, ks, rfl, s5, h5, hZ5, em, pm⟩ ⟨rfl, hy⟩
      obtain ⟨u, hu, e⟩ : ∃ u, pw[i]? = some u ∧ y = .str (S u) := by
        rw [List.getElem?_map, List.getElem?_map] at hy
        cases e : pw[i]? with
        | none => rw [e] at hy; cases hy
        | some c => rw [e] at hy; cases hy; exact ⟨c, rfl, rfl⟩
      subst e
      have b := pcs u (List.mem_of_getElem? hu)
      have ht : (pw.map (mvP n))[i]? = some (mvP n u) := by rw [List.getElem?_map, hu]; rfl
      have bad : mvP n u = none → ErrX E CT H [("line", .int 1)] := fun z => q0 (seqA_none (by rw [← z]; exact List.mem_of_getElem? ht))
      have hz2 : (S u).length ≤ sizeLine := line8 (by rw [S_len]; omega)
      have da : asc (u.drop 1) = true := List.all_eq_true.mpr fun c hc => List.all_eq_true.mp b.1 c (List.mem_of_mem_drop hc)
      refine ⟨_, rfl, _, rfl, ?_⟩
      dsimp only [tNoPart]
      refine ⟨_, rfl, hz2, ?_⟩
      rw [slice_from (a := u) (i := 1) (by decide)]
      refine ⟨_, rfl, x, C, dx, _, _, rfl, s5 _ _ hx, TC.cl, TC.nS, lk_st, _, _, rfl, rfl, u.drop 1, 0, _, rfl, da, line8 (by rw [List.length_drop]; omega), ?_⟩
      have eU : mvP n u = mvU (numP 0 ((n : Nat) - 1) (u.drop 1)) u := rfl
      have nonempty : ∀ i, numP 0 ((n : Nat) - 1) (u.drop 1) = some i → ∃ c r, u = c :: r := fun i z => by
        cases u with
        | nil => cases z
        | cons c r => exact ⟨c, r, rfl⟩
      generalize numP 0 ((n : Nat) - 1) (u.drop 1) = o at eU nonempty ⊢
      refine ⟨_, rfl, rfl, _, rfl, ?_⟩
      cases o with
      | none => exact iteT (iteT (x_use rfl (by decide) ((((bad (eU.trans (mvU_none u))).on s5)).new)))
      | some k =>
        obtain ⟨c, r, rfl⟩ := nonempty k rfl
        rw [show decide (optV (some k) = V.non) = false from decide_eq_false (by intro z; cases z)]
        have at0 : atI (S (c :: r)).cps.toList (0 : Int) = some c := atI_nat (j := 0) rfl
        have eU : mvP n (c :: r) = (sgnP c).map fun a => (k, a) := eU
        cases eg : sgnP c with
        | none =>
          obtain ⟨g1, g2⟩ := sgnP_none eg
          rw [eg] at eU
          exact iteF ⟨_, rfl, _, _, c, rfl, rfl, hz2, at0, S [c], none, rfl, rfl, DKm c g1 g2, _, rfl, iteT (x_use rfl (by decide) ((((bad eU).on s5)).new))⟩
        | some adv =>
          rw [eg] at eU
          have ec := sgnP_some eg
          obtain ⟨es2, n2, uu, hl, hk, en, ru⟩ := DKi adv
          refine iteF ⟨_, rfl, _, _, c, rfl, rfl, hz2, at0, S (sgL adv), some uu, by rw [← ec], rfl, en, _, rfl, iteF ?_⟩
          refine ⟨_, rfl, .inl ⟨rfl, _, SqL.of hZ5⟩, _, rfl, _, rfl, _, _, c, rfl, rfl, hz2, at0, dK, S (sgL adv), .str (kw adv), rfl, by rw [← ec], DKi adv, by show 2 ≤ sizeLine; decide, fun p2 np2 => ?_⟩
          have lk2 : ks.length ≤ i := by
            have e2 := congrArg List.length em
            rw [List.length_take, List.length_map, List.length_map] at e2
            rw [← pm.length]
            omega
          have hi2 : i < pw.length := by rw [← lw]; exact hi
          have s6 : Same H5 (upd H5 p2 (.tup [.int k, .str (kw adv)])) := Same.new np2
          have pZ : p2 ≠ Z := (ne_of_none hZ5 np2).symm
          have npZ : p ≠ Z := hpZ
          refine ⟨Z, _, _, rfl, rfl, s6 _ _ hZ5, Nat.lt_of_lt_of_le (show _ < 1000003 by omega) (by decide), _, _, ms ++ [(k, adv)], ks ++ [.ref p2], rfl, ?_, ?_, upd_same, ?_, ?_⟩
          · exact Same.newer (s5.trans s6) nZ
          · rw [upd_ne npZ]; exact s6 _ _ h5
          · rw [take_snoc ht, em, eU, List.map_append]
            rfl
          · have keep : ∀ t xs, H5 t = some (HO.tup xs) → upd (upd H5 p2 (.tup [.int k, .str (kw adv)])) Z (.lst (ks ++ [.ref p2])) t = some (.tup xs) := fun t xs e => by
              rw [upd_ne (ne_of e hZ5 (by intro z; cases z))]
              exact s6 _ _ e
            refine pr_snoc (Paired.mapP pm fun a v ⟨t, e, ht⟩ => ⟨t, e, keep _ _ ht⟩) ⟨p2, rfl, ?_⟩
            rw [upd_ne pZ, upd_same]
            rfl
    · rintro σ H5 ⟨v3, v4, ms, ks, rfl, s5, h5, hZ5, em, pm⟩
      have e9 : (pw.map (mvP n)).take ((pw.map S).map V.str).length = pw.map (mvP n) := by
        rw [lw]
        exact List.take_of_length_le (by rw [List.length_map]; exact Nat.le_refl _)
      rw [e9] at em
      refine ⟨_, rfl, Z, _, rfl, .inl ⟨SqL.of hZ5, fun r nr => ?_⟩⟩
      have s7 : Same H5 (upd H5 r (.tup ks)) := Same.new nr
      exact q1 ms (seqA_of em) r ks _ (s5.trans s7) upd_same (Paired.mapP pm fun _ _ ⟨t, e, ht⟩ => ⟨t, e, s7 _ _ ht⟩)
end
end WC

set_option maxHeartbeats 8000000
namespace WC
open PySem PySem.Spec PyProof.Rows L2 SX
def spLRM8 : Sp := fun vs H Q _ => ∃ (n : Nat) (l : List Nat), vs = [.str (S l), .int n] ∧ asc l = true ∧ l.length ≤ 1000000 ∧ (∀ ms, mvsP n l = some ms → ∀ r ks H2, Same H H2 → H2 r = some (.lst ks) → Paired (MvV H2) ms ks → Q (.ref r) H2) ∧ (mvsP n l = none → ∀ H2, Same H H2 → Q .non H2)
section
variable {P : Program} {w : World} {K : PySem.W.Frag} {mg : Str → Option Value} {base : Heap}
theorem ok_law_read_moves8 {f : Addr} {fd : FuncData} (F : Fun K "_law_read_moves" "_law_read_moves" s_law_read_moves f fd) (B : Blt mg) (g_law_number : DefR P w K mg base "_law_number" 1 spLN8) : FnOk P w K mg base (L2.CX P w) 2 f fd ["text", "count"] spLRM8 := by
  refine F.okX sc_law_read_moves (fun vs H Q E h => ?_) (fun cdv A outer s H vs Q E hr h => ?_)
  · obtain ⟨n, l, rfl, _⟩ := h
    rfl
  · obtain ⟨n, l, rfl, ha, hz, q1, q0⟩ := h
    -- slots: 0 text, 1 count, 2 row, 3 word, 4 stage
    refine ⟨_, (pss_cons (ps_set (i := 2) sc_law_read_moves.nd rfl (Or.inl rfl) (pe_lst pa_nil))
      (pss_cons (ps_if (pt_cmpR op_eq (pv 0) pe_str (nomark _)) (pss_one (ps_ret (pv 2))) pss_nil)
      (pss_cons (ps_for (passes_of rfl) rfl (pi_list (pe_split (pv 0) pe_str)) (pg_name (i := 3) sc_law_read_moves.nd rfl (Or.inl rfl))
        (pss_cons (ps_set (i := 4) sc_law_read_moves.nd rfl (Or.inl rfl) (pe_cd g_law_number hr psE (pa_cons (pe_slice C8.sl_txt (pv 3) (po_some pe_int) po_none) (pa_cons pe_int (pa_cons (pe_op op_sub (pv 1) pe_int) pa_nil)))))
      (pss_cons (ps_if (PW.pt (pw_or (pt_cmpR op_lt (pv 4) pe_int (nomark _)) (pw_or1 (PW.pt (pw_and (pt_cmpR op_ne (pe_ix ix_str (pv 3) pe_int (fun _ _ => rfl)) pe_str (nomark _)) (pw_and1 (pt_cmpR op_ne (pe_ix ix_str (pv 3) pe_int (fun _ _ => rfl)) pe_str (nomark _)))))))) (pss_one (ps_ret pe_non)) pss_nil)
      (pss_one (ps_expr (pe_bm PySem.F.plainAttrs_list PySem.F.slot_list_append PySem.F.type_list_append mt_append (pv 2) (pa_cons (pe_tup (pa_cons (pv 4) (pa_cons (pe_ifExp (pt_cmpR op_eq (pe_ix ix_str (pv 3) pe_int (fun _ _ => rfl)) pe_str (nomark _)) pe_str pe_str) pa_nil))) pa_nil)))))))
      (pss_one (ps_ret (pv 2)))))), ?_⟩
    refine ⟨by show 0 ≤ sizeLine; decide, fun Z nZ => ?_⟩
    refine ⟨_, rfl, rfl, _, rfl, ?_⟩
    rw [emp_dec]
    by_cases e0 : l = []
    · rw [decide_eq_true e0]
      exact iteT ⟨_, rfl, q1 [] (if_pos e0) Z [] _ (Same.new nZ) upd_same .nil⟩
    rw [decide_eq_false e0]
    refine iteF ?_
    refine ⟨_, rfl, ⟨_, rfl⟩, _, _, rfl, rfl, rfl, line8 (by rw [S_len]; omega), fun p np => ?_⟩
    rw [split32]
    have pcs := spl1_asc (s := 32) ha
    have pl := spl1_len (s := 32) l []
    unfold mvsP at q0 q1
    rw [if_neg e0] at q0 q1
    generalize TL.spl [32] 0 [] l = pw at pcs pl q0 q1 ⊢
    have hpZ : p ≠ Z := (ne_of_none upd_same np).symm
    have sZ : Same H (upd H Z (.lst [])) := Same.new nZ
    obtain ⟨H1, e1⟩ : ∃ H1, H1 = upd (upd H Z (.lst [])) p (.lst ((pw.map S).map V.str)) := ⟨_, rfl⟩
    have s1 : Same H H1 := by rw [e1]; exact sZ.trans (Same.new np)
    have h1 : H1 p = some (.lst ((pw.map S).map V.str)) := by rw [e1, upd_same]
    have hZ1 : H1 Z = some (.lst []) := by rw [e1, upd_ne hpZ.symm, upd_same]
    rw [← e1]
    have lw : ((pw.map S).map V.str).length = pw.length := by rw [List.length_map, List.length_map]
    refine ⟨p, rfl, ⟨_, SqL.of h1⟩, for_it (walk_list (xs := (pw.map S).map V.str)) (fun i σ H5 => ∃ v3 v4 ms ks, σ = [some (.str (S l)), some (.int n), some (.ref Z), v3, v4] ∧ Same H H5 ∧ H5 p = some (.lst ((pw.map S).map V.str)) ∧ H5 Z = some (.lst ks) ∧ (pw.map (mvP n)).take i = ms.map some ∧ Paired (MvV H5) ms ks) ⟨_, _, [], [], rfl, s1, h1, hZ1, rfl, .nil⟩ (fun i σ H5 _ z => ?_) ?_ ?_⟩
    · obtain ⟨_, _, _, _, _, _, z, _⟩ := z
      exact SqL.of z
    · rintro i y σ H4 H5 hi ⟨v3, v4, ms, ks, rfl, s5, h5, hZ5, em, pm⟩ ⟨rfl, hy⟩
      obtain ⟨u, hu, e⟩ : ∃ u, pw[i]? = some u ∧ y = .str (S u) := by
        rw [List.getElem?_map, List.getElem?_map] at hy
        cases e : pw[i]? with
        | none => rw [e] at hy; cases hy
        | some c => rw [e] at hy; cases hy; exact ⟨c, rfl, rfl⟩
      subst e
      have b := pcs u (List.mem_of_getElem? hu)
      have ht : (pw.map (mvP n))[i]? = some (mvP n u) := by rw [List.getElem?_map, hu]; rfl
      have bad : mvP n u = none → ∀ H2, Same H H2 → Q .non H2 := fun z => q0 (seqA_none (by rw [← z]; exact List.mem_of_getElem? ht))
      have hz2 : (S u).length ≤ sizeLine := line8 (by rw [S_len]; omega)
      have da : asc (u.drop 1) = true := List.all_eq_true.mpr fun c hc => List.all_eq_true.mp b.1 c (List.mem_of_mem_drop hc)
      refine ⟨_, rfl, _, rfl, ?_⟩
      dsimp only [tNoPart]
      refine ⟨_, rfl, hz2, ?_⟩
      rw [slice_from (a := u) (i := 1) (by decide)]
      refine ⟨_, rfl, _, _, rfl, rfl, u.drop 1, 0, _, rfl, da, line8 (by rw [List.length_drop]; omega), ?_⟩
      have eU : mvP n u = mvU (numP 0 ((n : Nat) - 1) (u.drop 1)) u := rfl
      have nonempty : ∀ i, numP 0 ((n : Nat) - 1) (u.drop 1) = some i → 0 ≤ i ∧ ∃ c r, u = c :: r := fun i z => by
        refine ⟨(numP_some z).1, ?_⟩
        cases u with
        | nil => cases z
        | cons c r => exact ⟨c, r, rfl⟩
      generalize numP 0 ((n : Nat) - 1) (u.drop 1) = o at eU nonempty ⊢
      dsimp only [gName]
      refine ⟨_, rfl, _, _, rfl, rfl, _, rfl, ?_⟩
      cases o with
      | none => exact iteT (iteT (bad (eU.trans (mvU_none u)) _ s5))
      | some k =>
        obtain ⟨k0, c, r, rfl⟩ := nonempty k rfl
        rw [show decide (negV (some k) < 0) = false from decide_eq_false (by show ¬ k < 0; omega)]
        have at0 : atI (S (c :: r)).cps.toList (0 : Int) = some c := atI_nat (j := 0) rfl
        have eU : mvP n (c :: r) = (sgnP c).map fun a => (k, a) := eU
        have d43 : decide (V.str ⟨#[c]⟩ = V.str (Str.ofString "+")) = decide (c = 43) := by
          rw [show (⟨#[c]⟩ : Str) = S [c] from rfl, str_dec [c] "+" [43] (ofS "+")]
          by_cases h : c = 43
          · rw [decide_eq_true h, decide_eq_true (by rw [h])]
          · rw [decide_eq_false h, decide_eq_false fun z => h (List.cons.inj z).1]
        have d45 : decide (V.str ⟨#[c]⟩ = V.str (Str.ofString "-")) = decide (c = 45) := by
          rw [show (⟨#[c]⟩ : Str) = S [c] from rfl, str_dec [c] "-" [45] (ofS "-")]
          by_cases h : c = 45
          · rw [decide_eq_true h, decide_eq_true (by rw [h])]
          · rw [decide_eq_false h, decide_eq_false fun z => h (List.cons.inj z).1]
        refine iteF ⟨_, rfl, _, _, c, rfl, rfl, hz2, at0, rfl, _, rfl, ?_⟩
        rw [d43]
        by_cases c43 : c = 43
        · rw [decide_eq_true c43]
          refine iteF (iteF ?_)
          refine ⟨_, rfl, .inl ⟨rfl, _, SqL.of hZ5⟩, _, rfl, _, rfl, _, _, c, rfl, rfl, hz2, at0, rfl, _, rfl, ?_⟩
          rw [d43, decide_eq_true c43]
          have eg : sgnP c = some true := if_pos c43
          rw [eg] at eU
          refine iteT ⟨by show 2 ≤ sizeLine; decide, fun p2 np2 => ?_⟩
          have lk2 : ks.length ≤ i := by
            have e2 := congrArg List.length em
            rw [List.length_take, List.length_map, List.length_map] at e2
            rw [← pm.length]
            omega
          have hi2 : i < pw.length := by rw [← lw]; exact hi
          have s6 : Same H5 (upd H5 p2 (.tup [.int k, .str (kw true)])) := Same.new np2
          have pZ : p2 ≠ Z := (ne_of_none hZ5 np2).symm
          refine ⟨Z, _, _, rfl, rfl, s6 _ _ hZ5, Nat.lt_of_lt_of_le (show _ < 1000003 by omega) (by decide), _, _, ms ++ [(k, true)], ks ++ [.ref p2], rfl, Same.newer (s5.trans s6) nZ, ?_, upd_same, ?_, ?_⟩
          · rw [upd_ne hpZ]; exact s6 _ _ h5
          · rw [take_snoc ht, em, eU, List.map_append]
            rfl
          · have keep : ∀ t xs, H5 t = some (HO.tup xs) → upd (upd H5 p2 (.tup [.int k, .str (kw true)])) Z (.lst (ks ++ [.ref p2])) t = some (.tup xs) := fun t xs e => by
              rw [upd_ne (ne_of e hZ5 (by intro z; cases z))]
              exact s6 _ _ e
            refine pr_snoc (Paired.mapP pm fun a v ⟨t, e, ht⟩ => ⟨t, e, keep _ _ ht⟩) ⟨p2, rfl, ?_⟩
            rw [upd_ne pZ, upd_same]
            rfl
        · rw [decide_eq_false c43]
          refine iteT ⟨_, rfl, _, _, c, rfl, rfl, hz2, at0, rfl, _, rfl, ?_⟩
          rw [d45]
          by_cases c45 : c = 45
          · rw [decide_eq_true c45]
            refine iteF ?_
            refine ⟨_, rfl, .inl ⟨rfl, _, SqL.of hZ5⟩, _, rfl, _, rfl, _, _, c, rfl, rfl, hz2, at0, rfl, _, rfl, ?_⟩
            rw [d43, decide_eq_false c43]
            have eg : sgnP c = some false := (if_neg c43).trans (if_pos c45)
            rw [eg] at eU
            refine iteF ⟨by show 2 ≤ sizeLine; decide, fun p2 np2 => ?_⟩
            have lk2 : ks.length ≤ i := by
              have e2 := congrArg List.length em
              rw [List.length_take, List.length_map, List.length_map] at e2
              rw [← pm.length]
              omega
            have hi2 : i < pw.length := by rw [← lw]; exact hi
            have s6 : Same H5 (upd H5 p2 (.tup [.int k, .str (kw false)])) := Same.new np2
            have pZ : p2 ≠ Z := (ne_of_none hZ5 np2).symm
            refine ⟨Z, _, _, rfl, rfl, s6 _ _ hZ5, Nat.lt_of_lt_of_le (show _ < 1000003 by omega) (by decide), _, _, ms ++ [(k, false)], ks ++ [.ref p2], rfl, Same.newer (s5.trans s6) nZ, ?_, upd_same, ?_, ?_⟩
            · rw [upd_ne hpZ]; exact s6 _ _ h5
            · rw [take_snoc ht, em, eU, List.map_append]
              rfl
            · have keep : ∀ t xs, H5 t = some (HO.tup xs) → upd (upd H5 p2 (.tup [.int k, .str (kw false)])) Z (.lst (ks ++ [.ref p2])) t = some (.tup xs) := fun t xs e => by
                rw [upd_ne (ne_of e hZ5 (by intro z; cases z))]
                exact s6 _ _ e
              refine pr_snoc (Paired.mapP pm fun a v ⟨t, e, ht⟩ => ⟨t, e, keep _ _ ht⟩) ⟨p2, rfl, ?_⟩
              rw [upd_ne pZ, upd_same]
              rfl
          · rw [decide_eq_false c45]
            have eg : sgnP c = none := (if_neg c43).trans (if_neg c45)
            rw [eg] at eU
            exact iteT (bad eU _ s5)
    · rintro σ H5 ⟨v3, v4, ms, ks, rfl, s5, h5, hZ5, em, pm⟩
      have e9 : (pw.map (mvP n)).take ((pw.map S).map V.str).length = pw.map (mvP n) := by
        rw [lw]
        exact List.take_of_length_le (by rw [List.length_map]; exact Nat.le_refl _)
      rw [e9] at em
      exact ⟨_, rfl, q1 ms (seqA_of em) Z ks H5 s5 hZ5 pm⟩
end
end WC

set_option maxHeartbeats 8000000
namespace WC
open PySem PySem.Spec PyProof.Rows L2 SX
/-! rows of channels read one after the other, each judged by those before it -/
structure Rds (ok : List Tri → Tri → Prop) (n : Nat) (rows : List (List Nat)) (cs : List Tri) : Prop where
  rd : rows.map (chanP n) = cs.map some
  ok : ∀ k c, cs[k]? = some c → ok (cs.take k) c
def BadA (ok : List Tri → Tri → Prop) (n : Nat) (rows : List (List Nat)) (k : Nat) : Prop := ∃ cs l, Rds ok n (rows.take k) cs ∧ rows[k]? = some l ∧ ∀ c, chanP n l = some c → ¬ ok cs c
theorem map_some_inj {a b : List Tri} (h : a.map some = b.map some) : a = b := by
  have e := congrArg (List.map (fun o : Option Tri => o.getD (0, 0, 0))) h
  rw [List.map_map, List.map_map] at e
  have f : ∀ l : List Tri, l.map ((fun o : Option Tri => o.getD (0, 0, 0)) ∘ some) = l := fun l => List.map_id _
  rw [f, f] at e
  exact e
section
variable {ok : List Tri → Tri → Prop} {n : Nat} {rows : List (List Nat)} {cs ds : List Tri} {k j : Nat}
theorem Rds.len (h : Rds ok n rows cs) : rows.length = cs.length := by
  have := congrArg List.length h.rd
  rw [List.length_map, List.length_map] at this
  exact this
theorem Rds.one (h : Rds ok n rows cs) (g : Rds ok n rows ds) : cs = ds := map_some_inj (h.rd.symm.trans g.rd)
theorem Rds.take (h : Rds ok n rows cs) (i : Nat) : Rds ok n (rows.take i) (cs.take i) := by
  refine ⟨by rw [List.map_take, h.rd, List.map_take], fun k c e => ?_⟩
  have hk : k < i := by
    have := (List.getElem?_eq_some_iff.mp e).1
    rw [List.length_take] at this
    omega
  rw [List.getElem?_take_of_lt hk] at e
  have := h.ok k c e
  rw [List.take_take, Nat.min_eq_left (by omega)]
  exact this
theorem Rds.nil : Rds ok n [] [] := ⟨rfl, fun k c h => by cases h⟩
theorem Rds.snoc {l : List Nat} {c : Tri} (h : Rds ok n (rows.take k) cs) (hl : rows[k]? = some l) (hc : chanP n l = some c) (g : ok cs c) : Rds ok n (rows.take (k + 1)) (cs ++ [c]) := by
  refine ⟨?_, fun j d e => ?_⟩
  · rw [take_snoc hl, List.map_append, List.map_append, h.rd]
    show _ ++ [chanP n l] = _
    rw [hc]
    rfl
  · by_cases hj : j < cs.length
    · rw [List.getElem?_append_left hj] at e
      rw [List.take_append_of_le_length (by omega)]
      exact h.ok j d e
    · have : j = cs.length := by
        have := (List.getElem?_eq_some_iff.mp e).1
        rw [List.length_append, List.length_singleton] at this
        omega
      subst this
      rw [List.getElem?_append_right (Nat.le_refl _), Nat.sub_self] at e
      cases e
      rw [List.take_left']
      · exact g
      · rfl
theorem BadA.lt (h : BadA ok n rows k) : k < rows.length := by
  obtain ⟨_, _, _, e, _⟩ := h
  exact (List.getElem?_eq_some_iff.mp e).1
theorem Rds.no_bad (h : Rds ok n rows cs) : ¬ BadA ok n rows k := by
  rintro ⟨ds, l, g, hl, no⟩
  have e := (h.take k).one g
  have hk := (List.getElem?_eq_some_iff.mp hl).1
  have hc : (rows.map (chanP n))[k]? = some (chanP n l) := by rw [List.getElem?_map, hl]; rfl
  rw [h.rd, List.getElem?_map] at hc
  cases ec : cs[k]? with
  | none => rw [ec] at hc; cases hc
  | some c =>
    rw [ec] at hc
    have hc : chanP n l = some c := (Option.some.inj hc).symm
    have := h.ok k c ec
    rw [e] at this
    exact no c hc this
theorem BadA.le (h : BadA ok n rows k) (g : BadA ok n rows j) : k ≤ j := by
  refine Nat.le_of_not_lt fun z => ?_
  obtain ⟨cs, l, h1, h2, h3⟩ := h
  obtain ⟨ds, m, g1, g2, g3⟩ := g
  refine Rds.no_bad (k := j) h1 ⟨ds, m, ?_, ?_, g3⟩
  · rw [List.take_take, Nat.min_eq_left (by omega)]
    exact g1
  · rw [List.getElem?_take_of_lt z]
    exact g2
theorem BadA.one (h : BadA ok n rows k) (g : BadA ok n rows j) : k = j := Nat.le_antisymm (h.le g) (g.le h)
end
/-! what a pipeline asks of the next channel -/
def lt2 (d c : Tri) : Prop := d.1 < c.1 ∨ (d.1 = c.1 ∧ d.2.1 < c.2.1)
def okP (cs : List Tri) (c : Tri) : Prop := cs.length < 120 ∧ (∀ d, cs.getLast? = some d → lt2 d c) ∧ Acyc (cs ++ [c])
/-- what a ring asks -/
def okR (n : Nat) (cs : List Tri) (c : Tri) : Prop := c.1 = (cs.length : Nat) ∧ c.2.1 = ((cs.length : Nat) + 1) % (n : Int)
theorem chan_ok {n : Nat} {l : List Nat} {c : Tri} (h : chanP n l = some c) : ChOk n c := by
  unfold chanP at h
  generalize TL.spl [32] 0 [] l = ws at h
  by_cases w5 : ws.length = 5
  · match ws, w5 with
    | [a, g, b, e, z], _ =>
      have h : (if g = [62] ∧ e = [58] then (match numP 0 ((n : Nat) - 1) a, numP 0 ((n : Nat) - 1) b, numP 1 999 z with
        | some i, some j, some k => if i = j then none else some (i, j, k)
        | _, _, _ => none) else none) = some c := h
      split at h
      · cases e1 : numP 0 ((n : Nat) - 1) a with
        | none => rw [e1] at h; cases h
        | some i =>
          cases e2 : numP 0 ((n : Nat) - 1) b with
          | none => rw [e1, e2] at h; cases h
          | some j =>
            cases e3 : numP 1 999 z with
            | none => rw [e1, e2, e3] at h; cases h
            | some k =>
              rw [e1, e2, e3] at h
              have h : (if i = j then none else some (i, j, k)) = some c := h
              split at h
              · cases h
              · next ne =>
                cases h
                have h1 := numP_some e1
                have h2 := numP_some e2
                have h3 := numP_some e3
                exact ⟨⟨by show 0 ≤ i; omega, by show i < n; omega⟩, ⟨by show 0 ≤ j; omega, by show j < n; omega⟩, ne, h3.1, h3.2⟩
      · cases h
  · rw [chanW_not w5] at h
    cases h
theorem Rds.ch {ok : List Tri → Tri → Prop} {n : Nat} {rows : List (List Nat)} {cs : List Tri} (h : Rds ok n rows cs) : ∀ c ∈ cs, ChOk n c := fun c hc => by
  have : some c ∈ cs.map some := List.mem_map.mpr ⟨c, hc, rfl⟩
  rw [← h.rd] at this
  obtain ⟨l, _, e⟩ := List.mem_map.mp this
  exact chan_ok e
end WC

set_option maxHeartbeats 8000000
namespace WC
open PySem PySem.Spec PyProof.Rows L2 SX
theorem lt2_trans {a b c : Tri} (h : lt2 a b) (g : lt2 b c) : lt2 a c := by
  unfold lt2 at *
  omega
theorem last_take {cs : List Tri} {k : Nat} {c : Tri} (h : cs[k]? = some c) : (cs.take (k + 1)).getLast? = some c := by
  rw [take_snoc h, List.getLast?_append]
  rfl
theorem Rds.strict {n : Nat} {rows : List (List Nat)} {cs : List Tri} (h : Rds okP n rows cs) : ∀ k, (cs.take k).Pairwise lt2
  | 0 => by rw [List.take_zero]; exact List.Pairwise.nil
  | k + 1 => by
    cases e : cs[k]? with
    | none =>
      have hl : cs.length ≤ k := List.getElem?_eq_none_iff.mp e
      have e2 : cs.take (k + 1) = cs.take k := by rw [List.take_of_length_le (by omega), List.take_of_length_le hl]
      rw [e2]
      exact h.strict k
    | some c =>
      rw [take_snoc e, List.pairwise_append]
      refine ⟨h.strict k, List.pairwise_singleton _ _, fun d hd x hx => ?_⟩
      rw [List.mem_singleton.mp hx]
      obtain ⟨_, g, _⟩ := h.ok k c e
      cases k with
      | zero => rw [List.take_zero] at hd; cases hd
      | succ j =>
        have hj : j + 1 < cs.length := (List.getElem?_eq_some_iff.mp e).1
        have ej : cs[j]? = some cs[j] := List.getElem?_eq_getElem (by omega)
        have lj := g _ (last_take ej)
        have pj := h.strict (j + 1)
        rw [take_snoc ej] at hd pj
        rcases List.mem_append.mp hd with hd | hd
        · exact lt2_trans ((List.pairwise_append.mp pj).2.2 d hd _ (List.mem_singleton.mpr rfl)) lj
        · rw [List.mem_singleton.mp hd]; exact lj
theorem Rds.lk {n : Nat} {rows : List (List Nat)} {cs : List Tri} (n40 : n ≤ 40) (h : Rds okP n rows cs) : LkRes n cs := by
  have st : cs.Pairwise lt2 := by
    have := h.strict cs.length
    rw [List.take_length] at this
    exact this
  refine ⟨h.ch, ?_, ?_, ?_, ?_⟩
  · rw [List.Nodup, List.pairwise_map]
    refine st.imp fun {a b} z => ?_
    intro e
    unfold pairOf2 at e
    injection e with e1 e2
    unfold lt2 at z
    omega
  · rcases List.eq_nil_or_concat cs with e | ⟨ds, c, e⟩
    · rw [e]; exact acyc_nil
    · have e : cs = ds ++ [c] := by rw [e, List.concat_eq_append]
      have := (h.ok ds.length c (by rw [e, List.getElem?_append_right (Nat.le_refl _), Nat.sub_self]; rfl)).2.2
      rw [e, List.take_left' rfl] at this
      rw [e]
      exact this
  · refine List.Pairwise.imp_of_mem (fun {a b} ma mb z => ?_) st
    obtain ⟨⟨a1, a2⟩, ⟨a3, a4⟩, _, a5, a6⟩ := h.ch a ma
    obtain ⟨⟨b1, b2⟩, ⟨b3, b4⟩, _, b5, b6⟩ := h.ch b mb
    unfold lt2 at z
    unfold key
    omega
  · rcases List.eq_nil_or_concat cs with e | ⟨ds, c, e⟩
    · rw [e]; exact Nat.zero_le _
    · have e : cs = ds ++ [c] := by rw [e, List.concat_eq_append]
      have := (h.ok ds.length c (by rw [e, List.getElem?_append_right (Nat.le_refl _), Nat.sub_self]; rfl)).1
      rw [e, List.take_left' rfl] at this
      rw [e, List.length_append, List.length_singleton]
      omega
theorem Rds.len120 {n : Nat} {rows : List (List Nat)} {cs : List Tri} (h : Rds okP n rows cs) : cs.length ≤ 120 := by
  rcases List.eq_nil_or_concat cs with e | ⟨ds, c, e⟩
  · rw [e]; exact Nat.zero_le _
  · have e : cs = ds ++ [c] := by rw [e, List.concat_eq_append]
    have := (h.ok ds.length c (by rw [e, List.getElem?_append_right (Nat.le_refl _), Nat.sub_self]; rfl)).1
    rw [e, List.take_left' rfl] at this
    rw [e, List.length_append, List.length_singleton]
    omega
end WC

set_option maxHeartbeats 8000000
namespace WC
open PySem PySem.Spec PyProof.Rows L2 SX
theorem un0 {k : Nat} {A : Around} (r : Room k A) : A.units < cLine := by have := r.un; omega
theorem unR {k : Nat} {A : Around} (r : Room k A) : A.units + 64 < cLine := by have := r.un; omega
theorem cut_drop (xs : List V) (k : Nat) : cutV xs (some (k : Int)) none = xs.drop k := by
  unfold cutV
  have e1 : HT.sIx xs.length xs.length none = xs.length := rfl
  have e2 : HT.sIx xs.length 0 (some (k : Int)) = min k xs.length := HT.sIx_nat _ _ k
  rw [e1, e2]
  by_cases h : k ≤ xs.length
  · rw [Nat.min_eq_left h, List.take_of_length_le (by rw [List.length_drop]; exact Nat.le_refl _)]
  · rw [Nat.min_eq_right (by omega), List.drop_of_length_le (Nat.le_refl _), List.drop_of_length_le (by omega), List.take_nil]
theorem pr_unsnoc {α β : Type} {F : α → β → Prop} : ∀ {l : List α} {a : α} {r : List β}, Paired F (l ++ [a]) r → ∃ r' v, r = r' ++ [v] ∧ Paired F l r' ∧ F a v
  | [], a, _, .cons p .nil => ⟨[], _, rfl, .nil, p⟩
  | x :: l, a, _, .cons p q => by
    obtain ⟨r', v, e, h1, h2⟩ := pr_unsnoc (l := l) q
    exact ⟨_ :: r', v, by rw [e]; rfl, .cons p h1, h2⟩
theorem cut32 (a b c : V) : ¬ (HT.sIx [a, b, c].length 0 none = 0 ∧ HT.sIx [a, b, c].length [a, b, c].length (some 2) = [a, b, c].length) := by
  show ¬ (HT.sIx 3 0 none = 0 ∧ HT.sIx 3 3 (some 2) = 3)
  decide
theorem cut27 (a b c : V) : cutV [a, b, c] none (some 2) = [a, b] := by
  unfold cutV
  rw [show HT.sIx [a, b, c].length 0 none = 0 from rfl, show HT.sIx [a, b, c].length [a, b, c].length (some 2) = 2 from by show HT.sIx 3 3 (some 2) = 2; decide]
  rfl
theorem lex8 {a b c d : Int} : Ob.lexAt (fun j => decide (([a, b] : List Int).getD j 0 = ([c, d] : List Int).getD j 0)) (fun j => decide (([a, b] : List Int).getD j 0 ≤ ([c, d] : List Int).getD j 0)) (decide (([a, b] : List Int).length ≤ ([c, d] : List Int).length)) 0 (min ([a, b] : List Int).length ([c, d] : List Int).length) = !decide (c < a ∨ (c = a ∧ d < b)) := by
  show (if decide (a = c) = true then (if decide (b = d) = true then decide (2 ≤ 2) else decide (b ≤ d)) else decide (a ≤ c)) = _
  by_cases h : a = c
  · rw [if_pos (decide_eq_true h)]
    by_cases g : b = d
    · rw [if_pos (decide_eq_true g), decide_eq_true (by decide), decide_eq_false (by omega)]
      rfl
    · rw [if_neg (by simp; omega)]
      by_cases z : d < b
      · rw [decide_eq_false (by omega), decide_eq_true (by omega)]; rfl
      · rw [decide_eq_true (by omega), decide_eq_false (by omega)]; rfl
  · rw [if_neg (by simp; omega)]
    by_cases z : c < a
    · rw [decide_eq_false (by omega), decide_eq_true (by omega)]; rfl
    · rw [decide_eq_true (by omega), decide_eq_false (by omega)]; rfl
def rowsT (ls : List (List Nat)) : List V := (ls.map S).map V.str
theorem rows_cut8 (h : List Nat) (rows : List (List Nat)) : cutV (rowsT (h :: rows)) (some 1) none = rowsT rows := by
  rw [show (1 : Int) = ((1 : Nat) : Int) from rfl, cut_drop]
  rfl
theorem rowsT_len (ls : List (List Nat)) : (rowsT ls).length = ls.length := by unfold rowsT; rw [List.length_map, List.length_map]
theorem rowsT_at {ls : List (List Nat)} {i : Nat} {y : V} (h : (rowsT ls)[i]? = some y) : ∃ l, ls[i]? = some l ∧ y = .str (S l) := by
  unfold rowsT at h
  rw [List.getElem?_map, List.getElem?_map] at h
  cases e : ls[i]? with
  | none => rw [e] at h; cases h
  | some l => rw [e] at h; cases h; exact ⟨l, rfl, rfl⟩
/-- the channels read so far -/
structure Rd8 (ok : List Tri → Tri → Prop) (n : Nat) (H H5 : Hp) (Z p : Addr) (rows : List (List Nat)) (i : Nat) (cs : List Tri) : Prop where
  same : Same H H5
  hp : H5 p = some (.lst (rowsT rows))
  rd : Rds ok n (rows.take i) cs
  ex : ∃ ks, H5 Z = some (.lst ks) ∧ Paired (TriA H5) cs ks
structure RowsOk (rows : List (List Nat)) : Prop where
  len : rows.length ≤ 1000000
  ok : ∀ l ∈ rows, asc l = true ∧ l.length ≤ 1000000
def spRdP8 (CP CT : Addr) : Sp := fun vs H Q E => ∃ (n : Nat) (L : Addr) (h : List Nat) (rows : List (List Nat)), vs = [.int n, .ref L] ∧ H L = some (.lst (rowsT (h :: rows))) ∧ 1 ≤ n ∧ n ≤ 40 ∧ RowsOk rows ∧ (∀ cs, Rds okP n rows cs → Made CP n cs H Q) ∧ (∀ k, BadA okP n rows k → ErrX E CT H [("line", .int ((k : Nat) + 2))])
section
variable {P : Program} {w : World} {K : PySem.W.Frag} {mg : Str → Option Value} {base : Heap}
theorem ok_read_pipeline8 {f N CP CT : Addr} {fd : FuncData} (F : Fun K "_read_pipeline" "_read_pipeline" s_read_pipeline f fd) (B : Blt mg) (Z : NetK K mg N) (gP : mg "Pipeline" = some (.ref CP)) (DP : ClsR P w K mg base CP 4 (spPipe CP)) (g_read_channel : DefR P w K mg base "_read_channel" 3 spChan8) (g_has_circle : DefR P w K mg base "has_circle" 1 spCir8) (t_InvalidText : ExcR P w K mg base "InvalidText" CT 1 1 flLn) : FnOk P w K mg base (L2.CX P w) 6 f fd ["stages", "lines"] (spRdP8 CP CT) := by
  refine F.okX sc_read_pipeline (fun vs H Q E h => ?_) (fun cdv A outer s H vs Q E hr h => ?_)
  · obtain ⟨n, L, h, rows, rfl, _⟩ := h
    rfl
  · obtain ⟨n, L, h, rows, rfl, hL, n1, n40, RO, mk, q0⟩ := h
    obtain ⟨mc, cr, _, ⟨u2, c2⟩, _, _⟩ := Z.cr
    -- slots: 0 stages, 1 lines, 2 channels, 3 at, 4 line, 5 channel
    refine ⟨_, (pss_cons (ps_set (i := 2) sc_read_pipeline.nd rfl (Or.inl rfl) (pe_lst pa_nil))
      (pss_cons (ps_for (passes_of rfl) rfl (pi_enum (by rfl) B.enum (pa_cons (pe_slice sl_list (pv 1) (po_some pe_int) po_none) pa_nil)) (pg_tup rfl (pgs_cons (pg_name (i := 3) sc_read_pipeline.nd rfl (Or.inl rfl)) (pgs_cons (pg_name (i := 4) sc_read_pipeline.nd rfl (Or.inl rfl)) pgs_nil)))
        (pss_cons (ps_set (i := 5) sc_read_pipeline.nd rfl (Or.inl rfl) (pe_cd g_read_channel hr psE (pa_cons (pv 0) (pa_cons (pv 4) pa_nil))))
      (pss_cons (ps_if (PW.pt (pw_or (pt_cmpR op_isN (pv 5) pe_non (nomark _)) (pw_or1 (pt_cmpR op_eq (pv 3) (ClX.pe_cval (pe_glob (v := .ref N) (by rfl) Z.gN rfl)) (nomark _))))) (pss_one (ps_raise rfl (takes_of rfl rfl rfl rfl) (pmk_x t_InvalidText hr (pa_cons (pe_op op_add (pv 3) pe_int) pa_nil)))) pss_nil)
      (pss_cons (ps_if (PW.pt (pw_and (pt_truth (pv 2) (by intro _; rfl)) (pw_and1 (pt_cmpR (op_leT (un0 hr)) (pe_slice sl_tup (pv 5) po_none (po_some pe_int)) (pe_slice sl_tup (pe_ix ix_list (pv 2) (pe_un un_neg pe_int) (fun _ _ => rfl)) po_none (po_some pe_int)) (nomark _))))) (pss_one (ps_raise rfl (takes_of rfl rfl rfl rfl) (pmk_x t_InvalidText hr (pa_cons (pe_op op_add (pv 3) pe_int) pa_nil)))) pss_nil)
      (pss_cons (ps_expr (pe_bm PySem.F.plainAttrs_list PySem.F.slot_list_append PySem.F.type_list_append mt_append (pv 2) (pa_cons (pv 5) pa_nil)))
      (pss_one (ps_if (pt_val (pe_cd g_has_circle hr psE (pa_cons (pv 2) pa_nil))) (pss_one (ps_raise rfl (takes_of rfl rfl rfl rfl) (pmk_x t_InvalidText hr (pa_cons (pe_op op_add (pv 3) pe_int) pa_nil)))) pss_nil)))))))
      (pss_one (ps_ret (pe_ccs DP gP hr psE (pa_cons (pv 0) (StX.pa_star (pv 2) pa_nil))))))), ?_⟩
    refine ⟨by show 0 ≤ sizeLine; decide, fun Zc nZ => ?_⟩
    refine ⟨_, rfl, _, rfl, ?_⟩
    delta tNoPart
    have sZ : Same H (upd H Zc (.lst [])) := Same.new nZ
    refine ⟨L, _, rfl, SqL.of (sZ _ _ hL), fun p np => ?_⟩
    rw [rows_cut8]
    have pZ : p ≠ Zc := (ne_of_none upd_same np).symm
    obtain ⟨H1, e1⟩ : ∃ H1, H1 = upd (upd H Zc (.lst [])) p (.lst (rowsT rows)) := ⟨_, rfl⟩
    have r1 : Rd8 okP n H H1 Zc p rows 0 [] := by
      rw [e1]
      exact ⟨sZ.trans (Same.new np), upd_same, by rw [List.take_zero]; exact Rds.nil, [], by rw [upd_ne pZ.symm, upd_same], .nil⟩
    rw [← e1]
    refine ⟨p, _, rfl, SqL.of r1.hp, for_it (walk_enum (xs := rowsT rows)) (fun i σ H5 => ∃ v3 v4 v5 cs, σ = [some (.int n), some (.ref L), some (.ref Zc), v3, v4, v5] ∧ Rd8 okP n H H5 Zc p rows i cs) ⟨_, _, _, _, rfl, r1⟩ (fun i σ H5 _ z => ?_) ?_ ?_⟩
    · obtain ⟨_, _, _, _, _, z⟩ := z
      exact SqL.of z.hp
    · rintro i y σ H4 H5 hi ⟨v3, v4, v5, cs, rfl, r4⟩ ⟨Tt, x1, y1, rfl, hT, rfl, e1, e2⟩
      cases e1
      have hi : i < rows.length := by rw [← rowsT_len rows]; exact hi
      obtain ⟨l, hl, rfl⟩ := rowsT_at e2
      obtain ⟨hla, hll⟩ := RO.ok l (List.mem_of_getElem? hl)
      obtain ⟨ks, hZ, pk⟩ := r4.ex
      have lk := pk.length
      have lcs : cs.length = i := by
        rw [← r4.rd.len, List.length_take]
        omega
      have l120 := r4.rd.len120
      have bad : (∀ c, chanP n l = some c → ¬ okP cs c) → ErrX E CT H [("line", .int ((i : Nat) + 2))] := fun z => q0 i ⟨cs, l, r4.rd, hl, z⟩
      have s5 : Same H4 (upd H4 Tt (.tup [.int (i : Nat), .str (S l)])) := Same.new hT
      refine ⟨Tt, _, rfl, SqT.of upd_same, rfl, _, _, rfl, _, _, rfl, rfl, ?_⟩
      refine ⟨_, rfl, _, rfl, n, l, rfl, hla, hll, fun en H6 s6 => ?_, fun c ec t H6 s6 ht => ?_⟩
      · dsimp only [gName]
        exact ⟨_, rfl, rfl, _, rfl, iteT (iteT ⟨_, rfl, _, _, rfl, rfl, x_use rfl (by decide) (((bad fun c z => by rw [en] at z; cases z).on (r4.same.trans (s5.trans s6))).new)⟩)⟩
      have s46 := s5.trans s6
      have bad : ¬ okP cs c → ErrX E CT H [("line", .int ((i : Nat) + 2))] := fun z => bad fun d hd => by rw [ec] at hd; cases hd; exact z
      dsimp only [gName]
      refine ⟨_, rfl, rfl, _, rfl, iteF ⟨_, rfl, N, mc, _, u2, rfl, cr, c2, rfl, _, rfl, ?_⟩⟩
      by_cases e120 : i = 120
      · rw [show decide (V.int (i : Nat) = V.int 120) = true from decide_eq_true (by rw [e120]; rfl)]
        exact iteT ⟨_, rfl, _, _, rfl, rfl, x_use rfl (by decide) (((bad fun z => by have := z.1; omega).on (r4.same.trans s46)).new)⟩
      rw [show decide (V.int (i : Nat) = V.int 120) = false from decide_eq_false (by intro z; have := V.int.inj z; omega)]
      refine iteF ?_
      dsimp only [tNext]
      have hZ6 := s46 _ _ hZ
      have pk6 := tris_same s46 pk
      refine seq_mid (fun σ H7 => σ = [some (.int n), some (.ref L), some (.ref Zc), some (.int (i : Nat)), some (.str (S l)), some (.ref t)] ∧ Same H6 H7 ∧ ∀ d, cs.getLast? = some d → lt2 d c) (fun M hM => ?_) ?_
      · refine ⟨_, rfl, _, .inl ⟨_, SqL.of hZ6, rfl⟩, ?_⟩
        rcases List.eq_nil_or_concat cs with e0 | ⟨ds, d, e0⟩
        · have : ks = [] := List.length_eq_zero_iff.mp (by rw [← lk, e0]; rfl)
          subst this
          exact iteF (hM _ _ ⟨rfl, Same.refl _, fun d hd => by rw [e0] at hd; cases hd⟩)
        · have e0 : cs = ds ++ [d] := by rw [e0, List.concat_eq_append]
          have gl : cs.getLast? = some d := by rw [e0, List.getLast?_append]; rfl
          rw [e0] at pk6
          obtain ⟨ks0, v, rfl, _, t2, rfl, ht2⟩ := pr_unsnoc pk6
          rw [show (!(ks0 ++ [V.ref t2]).isEmpty) = true by simp]
          refine iteT ⟨_, rfl, _, rfl, t, _, rfl, SqT.of ht, cut32 _ _ _, fun pa npa => ?_⟩
          rw [cut27]
          obtain ⟨H7, e7⟩ : ∃ H7, H7 = upd H6 pa (.tup [.int c.1, .int c.2.1]) := ⟨_, rfl⟩
          have s7 : Same H6 H7 := by rw [e7]; exact Same.new npa
          have h7 : H7 pa = some (.tup [.int c.1, .int c.2.1]) := by rw [e7, upd_same]
          rw [← e7]
          refine ⟨_, rfl, _, rfl, Zc, _, _, _, rfl, rfl, SqL.of (s7 _ _ hZ6), atI_last ks0 _, _, rfl, t2, _, rfl, SqT.of (s7 _ _ ht2), cut32 _ _ _, fun pb npb => ?_⟩
          rw [cut27]
          have s8 : Same H7 (upd H7 pb (.tup [.int d.1, .int d.2.1])) := Same.new npb
          refine ⟨pa, pb, [c.1, c.2.1], [d.1, d.2.1], rfl, rfl, SqT.of (s8 _ _ h7), SqT.of upd_same, _, rfl, ?_⟩
          rw [lex8]
          by_cases hlt : d.1 < c.1 ∨ (d.1 = c.1 ∧ d.2.1 < c.2.1)
          · rw [decide_eq_true hlt]
            exact iteF (hM _ _ ⟨rfl, s7.trans s8, fun d2 hd => by rw [gl] at hd; cases hd; exact hlt⟩)
          · rw [decide_eq_false hlt]
            exact iteT ⟨_, rfl, _, _, rfl, rfl, x_use rfl (by decide) (((bad fun z => hlt (z.2.1 d gl)).on (r4.same.trans (s46.trans (s7.trans s8)))).new)⟩
      rintro σ H7 ⟨rfl, s67, hlast⟩
      have s47 := s46.trans s67
      have hZ7 := s47 _ _ hZ
      refine ⟨_, rfl, .inl ⟨rfl, _, SqL.of hZ7⟩, _, rfl, Zc, _, _, rfl, rfl, hZ7, line_lt (by omega), ?_⟩
      have keep : ∀ t2 xs, H7 t2 = some (HO.tup xs) → upd H7 Zc (.lst (ks ++ [.ref t])) t2 = some (.tup xs) := fun t2 xs e => by
        rw [upd_ne (ne_of e hZ7 (by intro z; cases z))]
        exact e
      have s07 := r4.same.trans s47
      have pk8 : Paired (TriA (upd H7 Zc (.lst (ks ++ [.ref t])))) (cs ++ [c]) (ks ++ [.ref t]) := pr_snoc (Paired.mapP (tris_same s47 pk) fun c v ⟨t2, e1, e2⟩ => ⟨t2, e1, keep _ _ e2⟩) ⟨t, rfl, keep _ _ (s67 _ _ ht)⟩
      have s08 : Same H (upd H7 Zc (.lst (ks ++ [.ref t]))) := Same.newer s07 nZ
      refine ⟨_, rfl, Zc, cs ++ [c], ks ++ [.ref t], rfl, upd_same, pk8, by rw [List.length_append, List.length_singleton]; omega, fun H9 r s9 hr9 => ⟨_, rfl, ?_⟩⟩
      cases r with
      | true =>
        exact iteT ⟨_, rfl, _, _, rfl, rfl, x_use rfl (by decide) (((bad fun z => by have := hr9.mpr z.2.2; cases this).on (s08.trans s9)).new)⟩
      | false =>
        refine iteF ⟨_, _, _, cs ++ [c], rfl, s08.trans s9, s9 _ _ ?_, r4.rd.snoc hl ec ⟨by omega, hlast, hr9.mp rfl⟩, _, s9 _ _ upd_same, tris_same s9 pk8⟩
        rw [upd_ne pZ]
        exact s47 _ _ r4.hp
    · rintro σ H5 ⟨v3, v4, v5, cs, rfl, r5⟩
      rw [rowsT_len] at r5
      have rd := r5.rd
      rw [List.take_length] at rd
      obtain ⟨ks, hZ, pk⟩ := r5.ex
      exact ⟨_, rfl, _, rfl, Zc, _, rfl, .inr (SqL.of hZ), pipe_use (ws := ks ++ []) (Same.refl H5) n1 n40 (by rw [List.append_nil]; exact pk) (rd.lk n40) fun H2 x s nx NA => mk cs rd H2 x (r5.same.trans s) (r5.same.free nx) NA⟩
end
end WC

set_option maxHeartbeats 8000000
namespace WC
open PySem PySem.Spec PyProof.Rows L2 SX
theorem ii_shaped (a b : Int) : SeqAt.shaped (.tuple [.int a, .int b]) = true := by
  unfold SeqAt.shaped
  rw [Bool.and_eq_true, decide_eq_true_iff]
  refine ⟨by simp only [PyData.canLay0, PyData.canLayAll0, Bool.and_true], ?_⟩
  simp only [PyData.depth, PyData.depthAll]
  omega
theorem ii_eqv8 (a b c d : Int) : PyData.eqv (.tuple [.int a, .int b]) (.tuple [.int c, .int d]) = (decide (a = c) && decide (b = d)) := by
  by_cases h : a = c
  · by_cases g : b = d
    · simp [PyData.eqv, PyData.eqvAll, h, g]
    · simp [PyData.eqv, PyData.eqvAll, h, g]
  · simp [PyData.eqv, PyData.eqvAll, h]
/-- n rows that a ring takes are a ring's -/
theorem Rds.ring {n : Nat} {rows : List (List Nat)} {cs : List Tri} (h : Rds (okR n) n rows cs) (e : cs.length = n) : cs = ringOf (cs.map fun c => c.2.2) := by
  refine List.ext_getElem? fun i => ?_
  cases hc : cs[i]? with
  | none =>
    have hl := List.getElem?_eq_none_iff.mp hc
    refine (List.getElem?_eq_none_iff.mpr ?_).symm
    rw [ringOf_len, List.length_map]
    exact hl
  | some c =>
    have hi := (List.getElem?_eq_some_iff.mp hc).1
    obtain ⟨o1, o2⟩ := h.ok i c hc
    rw [List.length_take, Nat.min_eq_left (by omega)] at o1 o2
    have hm : (cs.map fun c => c.2.2)[i]? = some c.2.2 := by rw [List.getElem?_map, hc]; rfl
    rw [ringOf_at hm, List.length_map, e]
    obtain ⟨c1, c2, c3⟩ := c
    have o1 : c1 = (i : Int) := o1
    have o2 : c2 = ((i : Int) + 1) % (n : Int) := o2
    rw [o1, o2]
theorem Rds.le_ring {n : Nat} {rows : List (List Nat)} {cs : List Tri} (h : Rds (okR n) n rows cs) : cs.length ≤ n := by
  refine Nat.le_of_not_lt fun z => ?_
  have hc : cs[n]? = some cs[n] := List.getElem?_eq_getElem z
  obtain ⟨o1, _⟩ := h.ok n _ hc
  have := h.ch _ (List.mem_of_getElem? hc)
  rw [List.length_take, Nat.min_eq_left (by omega)] at o1
  have := this.1.2
  omega
def spRdR8 (CR CT : Addr) : Sp := fun vs H Q E => ∃ (n : Nat) (L : Addr) (h : List Nat) (rows : List (List Nat)), vs = [.int n, .ref L] ∧ H L = some (.lst (rowsT (h :: rows))) ∧ 3 ≤ n ∧ n ≤ 40 ∧ RowsOk rows ∧ (∀ cs, Rds (okR n) n rows cs → cs.length = n → Made CR n cs H Q) ∧ (∀ k, BadA (okR n) n rows k → ErrX E CT H [("line", .int ((k : Nat) + 2))]) ∧ (∀ cs, Rds (okR n) n rows cs → cs.length < n → ErrX E CT H [("line", .int ((rows.length : Nat) + 2))])
section
variable {P : Program} {w : World} {K : PySem.W.Frag} {mg : Str → Option Value} {base : Heap}
theorem ok_read_ring8 {f CR CT : Addr} {fd : FuncData} (F : Fun K "_read_ring" "_read_ring" s_read_ring f fd) (B : Blt mg) (gR : mg "Ring" = some (.ref CR)) (DR : ClsR P w K mg base CR 4 (spRing CR)) (g_read_channel : DefR P w K mg base "_read_channel" 3 spChan8) (t_InvalidText : ExcR P w K mg base "InvalidText" CT 1 1 flLn) : FnOk P w K mg base (L2.CX P w) 6 f fd ["stages", "lines"] (spRdR8 CR CT) := by
  refine F.okX sc_read_ring (fun vs H Q E h => ?_) (fun cdv A outer s H vs Q E hr h => ?_)
  · obtain ⟨n, L, h, rows, rfl, _⟩ := h
    rfl
  · obtain ⟨n, L, h, rows, rfl, hL, n3, n40, RO, mk, q0, q2⟩ := h
    have rl := RO.len
    -- slots: 0 stages, 1 lines, 2 capacities, 3 at, 4 line, 5 channel
    refine ⟨_, (pss_cons (ps_set (i := 2) sc_read_ring.nd rfl (Or.inl rfl) (pe_lst pa_nil))
      (pss_cons (ps_for (passes_of rfl) rfl (pi_enum (by rfl) B.enum (pa_cons (pe_slice sl_list (pv 1) (po_some pe_int) po_none) pa_nil)) (pg_tup rfl (pgs_cons (pg_name (i := 3) sc_read_ring.nd rfl (Or.inl rfl)) (pgs_cons (pg_name (i := 4) sc_read_ring.nd rfl (Or.inl rfl)) pgs_nil)))
        (pss_cons (ps_set (i := 5) sc_read_ring.nd rfl (Or.inl rfl) (pe_cd g_read_channel hr psE (pa_cons (pv 0) (pa_cons (pv 4) pa_nil))))
      (pss_cons (ps_if (PW.pt (pw_or (pt_cmpR op_isN (pv 5) pe_non (nomark _)) (pw_or1 (pt_cmpR (op_neD (unR hr)) (pe_slice sl_tup (pv 5) po_none (po_some pe_int)) (pe_tup (pa_cons (pv 3) (pa_cons (pe_op op_modN (pe_op op_add (pv 3) pe_int) (pv 0)) pa_nil))) (nomark _))))) (pss_one (ps_raise rfl (takes_of rfl rfl rfl rfl) (pmk_x t_InvalidText hr (pa_cons (pe_op op_add (pv 3) pe_int) pa_nil)))) pss_nil)
      (pss_one (ps_expr (pe_bm PySem.F.plainAttrs_list PySem.F.slot_list_append PySem.F.type_list_append mt_append (pv 2) (pa_cons (pe_ix ix_tup (pv 5) pe_int (fun _ _ => rfl)) pa_nil)))))))
      (pss_cons (ps_if (pt_cmpR op_lt (pe_callB call_len_seq (by rfl) B.len bt_len (pa_cons (pv 2) pa_nil)) (pv 0) (nomark _)) (pss_one (ps_raise rfl (takes_of rfl rfl rfl rfl) (pmk_x t_InvalidText hr (pa_cons (pe_op op_add (pe_callB call_len_seq (by rfl) B.len bt_len (pa_cons (pv 1) pa_nil)) pe_int) pa_nil)))) pss_nil)
      (pss_one (ps_ret (pe_ccs1 DR gR hr psE (pv 2))))))), ?_⟩
    refine ⟨by show 0 ≤ sizeLine; decide, fun Zc nZ => ?_⟩
    refine ⟨_, rfl, _, rfl, ?_⟩
    delta tNoPart
    have sZ : Same H (upd H Zc (.lst [])) := Same.new nZ
    refine ⟨L, _, rfl, SqL.of (sZ _ _ hL), fun p np => ?_⟩
    rw [rows_cut8]
    have pZ : p ≠ Zc := (ne_of_none upd_same np).symm
    obtain ⟨H1, e1⟩ : ∃ H1, H1 = upd (upd H Zc (.lst [])) p (.lst (rowsT rows)) := ⟨_, rfl⟩
    have s1 : Same H H1 := by rw [e1]; exact sZ.trans (Same.new np)
    have h1 : H1 p = some (.lst (rowsT rows)) := by rw [e1, upd_same]
    have hZ1 : H1 Zc = some (.lst []) := by rw [e1, upd_ne pZ.symm, upd_same]
    rw [← e1]
    refine ⟨p, _, rfl, SqL.of h1, for_it (walk_enum (xs := rowsT rows)) (fun i σ H5 => ∃ v3 v4 v5 cs, σ = [some (.int n), some (.ref L), some (.ref Zc), v3, v4, v5] ∧ Same H H5 ∧ H5 p = some (.lst (rowsT rows)) ∧ Rds (okR n) n (rows.take i) cs ∧ H5 Zc = some (.lst ((cs.map fun c => c.2.2).map V.int))) ⟨_, _, _, [], rfl, s1, h1, by rw [List.take_zero]; exact Rds.nil, hZ1⟩ (fun i σ H5 _ z => ?_) ?_ ?_⟩
    · obtain ⟨_, _, _, _, _, _, z, _⟩ := z
      exact SqL.of z
    · rintro i y σ H4 H5 hi ⟨v3, v4, v5, cs, rfl, s4, h4, rd, hZ4⟩ ⟨Tt, x1, y1, rfl, hT, rfl, e1, e2⟩
      cases e1
      have hi : i < rows.length := by rw [← rowsT_len rows]; exact hi
      obtain ⟨l, hl, rfl⟩ := rowsT_at e2
      obtain ⟨hla, hll⟩ := RO.ok l (List.mem_of_getElem? hl)
      have lcs : cs.length = i := by
        rw [← rd.len, List.length_take]
        omega
      have bad : (∀ c, chanP n l = some c → ¬ okR n cs c) → ErrX E CT H [("line", .int ((i : Nat) + 2))] := fun z => q0 i ⟨cs, l, rd, hl, z⟩
      have s5 : Same H4 (upd H4 Tt (.tup [.int (i : Nat), .str (S l)])) := Same.new hT
      refine ⟨Tt, _, rfl, SqT.of upd_same, rfl, _, _, rfl, _, _, rfl, rfl, ?_⟩
      refine ⟨_, rfl, _, rfl, n, l, rfl, hla, hll, fun en H6 s6 => ?_, fun c ec t H6 s6 ht => ?_⟩
      · dsimp only [gName]
        exact ⟨_, rfl, rfl, _, rfl, iteT (iteT ⟨_, rfl, _, _, rfl, rfl, x_use rfl (by decide) (((bad fun c z => by rw [en] at z; cases z).on (s4.trans (s5.trans s6))).new)⟩)⟩
      have s46 := s5.trans s6
      have bad : ¬ okR n cs c → ErrX E CT H [("line", .int ((i : Nat) + 2))] := fun z => bad fun d hd => by rw [ec] at hd; cases hd; exact z
      dsimp only [gName]
      refine seq_mid (fun σ H7 => σ = [some (.int n), some (.ref L), some (.ref Zc), some (.int (i : Nat)), some (.str (S l)), some (.ref t)] ∧ Same H6 H7 ∧ okR n cs c) (fun M hM => ?_) ?_
      · refine ⟨_, rfl, rfl, _, rfl, iteF ?_⟩
        refine ⟨_, rfl, _, rfl, t, _, rfl, SqT.of ht, cut32 _ _ _, fun pa npa => ?_⟩
        rw [cut27]
        obtain ⟨H7, e7⟩ : ∃ H7, H7 = upd H6 pa (.tup [.int c.1, .int c.2.1]) := ⟨_, rfl⟩
        have s7 : Same H6 H7 := by rw [e7]; exact Same.new npa
        have h7 : H7 pa = some (.tup [.int c.1, .int c.2.1]) := by rw [e7, upd_same]
        rw [← e7]
        refine ⟨_, rfl, _, rfl, _, _, rfl, rfl, _, rfl, _, _, rfl, rfl, by omega, by show 2 ≤ sizeLine; decide, fun pb npb => ?_⟩
        have s8 : Same H7 (upd H7 pb (.tup [.int (i : Nat), .int (Int.fmod ((i : Int) + 1) (n : Int))])) := Same.new npb
        refine ⟨.tuple [.int c.1, .int c.2.1], .tuple [.int (i : Nat), .int (Int.fmod ((i : Int) + 1) (n : Int))], .tup (SqT.of (s8 _ _ h7)) (.cons (.int _) (.cons (.int _) .nil)), .tup (SqT.of upd_same) (.cons (.int _) (.cons (.int _) .nil)), ii_shaped _ _, ii_shaped _ _, _, rfl, ?_⟩
        have ef : Int.fmod ((i : Int) + 1) (n : Int) = ((i : Int) + 1) % (n : Int) := Int.fmod_eq_emod_of_nonneg _ (by omega)
        rw [ii_eqv8, ef]
        by_cases hok : c.1 = (i : Int) ∧ c.2.1 = ((i : Int) + 1) % (n : Int)
        · rw [decide_eq_true hok.1, decide_eq_true hok.2]
          exact iteF (hM _ _ ⟨rfl, s7.trans s8, by unfold okR; rw [lcs]; exact hok⟩)
        · rw [show (!(decide (c.1 = (i : Int)) && decide (c.2.1 = ((i : Int) + 1) % (n : Int)))) = true by rw [Bool.not_eq_true', Bool.and_eq_false_iff, decide_eq_false_iff_not, decide_eq_false_iff_not]; omega]
          exact iteT ⟨_, rfl, _, _, rfl, rfl, x_use rfl (by decide) (((bad fun z => hok (by unfold okR at z; rw [lcs] at z; exact z)).on (s4.trans (s46.trans (s7.trans s8)))).new)⟩
      rintro σ H7 ⟨rfl, s67, hok⟩
      have s47 := s46.trans s67
      have hZ7 := s47 _ _ hZ4
      have lt3 : atI [V.int c.1, V.int c.2.1, V.int c.2.2] (2 : Int) = some (.int c.2.2) := atI_nat (j := 2) rfl
      have li := rd.le_ring
      refine ⟨_, rfl, .inl ⟨rfl, _, SqL.of hZ7⟩, _, rfl, t, _, _, _, rfl, rfl, SqT.of (s67 _ _ ht), lt3, Zc, _, _, rfl, rfl, hZ7, by rw [List.length_map, List.length_map]; exact line_lt (by omega), ?_⟩
      refine ⟨_, _, _, cs ++ [c], rfl, Same.newer (s4.trans s47) nZ, ?_, rd.snoc hl ec hok, ?_⟩
      · rw [upd_ne pZ]
        exact s47 _ _ h4
      · rw [upd_same, List.map_append, List.map_append]
        rfl
    · rintro σ H5 ⟨v3, v4, v5, cs, rfl, s5, h5, rd, hZ5⟩
      rw [rowsT_len, List.take_length] at rd
      have li := rd.le_ring
      refine ⟨_, rfl, Zc, _, rfl, .inl (SqL.of hZ5), _, rfl, _, _, rfl, rfl, _, rfl, ?_⟩
      rw [List.length_map, List.length_map]
      by_cases hlt : cs.length < n
      · rw [show decide (((cs.length : Nat) : Int) < (n : Int)) = true from decide_eq_true (by omega)]
        refine iteT ⟨_, rfl, L, _, rfl, .inl (SqL.of (s5 _ _ hL)), _, _, rfl, rfl, x_use rfl (by decide) ?_⟩
        have z := ((q2 cs rd hlt).on s5).new
        rw [show ((rows.length : Nat) : Int) + 2 = (((h :: rows).length : Nat) : Int) + 1 by rw [List.length_cons]; omega] at z
        rw [rowsT_len]
        exact z
      rw [show decide (((cs.length : Nat) : Int) < (n : Int)) = false from decide_eq_false (by omega)]
      have en : cs.length = n := by omega
      refine iteF ⟨_, rfl, Zc, _, rfl, .inr (SqL.of hZ5), ?_⟩
      have hc : CapsOk (cs.map fun c => c.2.2) := fun x hx => by
        obtain ⟨c, hc, rfl⟩ := List.mem_map.mp hx
        obtain ⟨_, _, _, a5, a6⟩ := rd.ch c hc
        exact ⟨a5, a6⟩
      have lm : (cs.map fun c => c.2.2).length = n := by rw [List.length_map]; exact en
      have er := rd.ring en
      exact ring_use (C := CR) (Q := Q) (E := E) (Same.refl H5) hc (by omega) (by omega) fun H2 x s nx NA => mk cs rd en H2 x (s5.trans s) (s5.free nx) (by rw [← er, lm] at NA; exact NA)
end
end WC

set_option maxHeartbeats 8000000
namespace WC
open PySem PySem.Spec PyProof.Rows L2 SX
def KC (CP CR C : Addr) (ring : Bool) : Prop := (C = CP ∧ ring = false) ∨ (C = CR ∧ ring = true)
def okOf (ring : Bool) (n : Nat) : List Tri → Tri → Prop := if ring = true then okR n else okP
def NetGood (l : List Nat) (ring : Bool) (n : Nat) (cs : List Tri) : Prop := ∃ h rows, TL.spl [10] 0 [] l = h :: rows ∧ headP h = some (ring, (n : Int)) ∧ Rds (okOf ring n) n rows cs ∧ (ring = true → cs.length = n)
def NetBad (l : List Nat) (k : Int) : Prop := ∃ h rows, TL.spl [10] 0 [] l = h :: rows ∧ ((headP h = none ∧ k = 1) ∨ ∃ ring n, headP h = some (ring, ((n : Nat) : Int)) ∧ ((∃ j : Nat, BadA (okOf ring n) n rows j ∧ k = (j : Nat) + 2) ∨ (ring = true ∧ ∃ cs, Rds (okOf ring n) n rows cs ∧ cs.length < n ∧ k = ((rows.length : Nat) : Int) + 2)))
theorem headP_rng {h : List Nat} {ring : Bool} {i : Int} (e : headP h = some (ring, i)) : (if ring = true then 3 else 1) ≤ i ∧ i ≤ 40 := by
  unfold headP at e
  have key : ∀ ws, headW ws = some (ring, i) → (if ring = true then (3 : Int) else 1) ≤ i ∧ i ≤ 40 := fun ws e => by
    match ws, e with
    | [a, d], e =>
      have e : (if a = cl "ring" then (numP 3 40 d).map (fun i => (true, i)) else if a = cl "pipeline" then (numP 1 40 d).map (fun i => (false, i)) else none) = some (ring, i) := e
      split at e
      · cases e2 : numP 3 40 d with
        | none => rw [e2] at e; cases e
        | some j =>
          rw [e2] at e
          cases e
          have := numP_some e2
          exact ⟨by rw [if_pos rfl]; exact this.1, this.2⟩
      · split at e
        · cases e2 : numP 1 40 d with
          | none => rw [e2] at e; cases e
          | some j =>
            rw [e2] at e
            cases e
            have := numP_some e2
            exact ⟨by rw [if_neg (by decide)]; exact this.1, this.2⟩
        · cases e
  exact key _ e
theorem spl_ne (l : List Nat) : ∃ h rows, TL.spl [10] 0 [] l = h :: rows := by
  have k : ∀ (l acc : List Nat), ∃ h rows, TL.spl [10] 0 acc l = h :: rows := fun l => by
    induction l with
    | nil => exact fun acc => ⟨acc, [], TL.spl_nil _ _ _⟩
    | cons c r ih =>
      intro acc
      cases e : TL.pre [10] (c :: r) with
      | true => exact ⟨acc, _, TL.spl_hit e⟩
      | false => rw [TL.spl_miss e]; exact ih _
  exact k l []
theorem split10 (l : List Nat) : Txt.split (S l) (Str.ofString "\n") = (TL.spl [10] 0 [] l).map S := by
  rw [ofS, show cl "\n" = [10] from rfl, split_S (by decide) (by decide)]
theorem Made.same {C : Addr} {n : Nat} {cs : List Tri} {H H2 : Hp} {Q : VK} (m : Made C n cs H Q) (s : Same H H2) : Made C n cs H2 Q := fun H3 x s2 nx N => m H3 x (s.trans s2) (s.free nx) N
def spRdN8 (CP CR CT : Addr) : Sp := fun vs H Q E => ∃ l : List Nat, vs = [.str (S l)] ∧ asc l = true ∧ l.length ≤ 900000 ∧ (∀ ring n cs, NetGood l ring n cs → ∀ C, KC CP CR C ring → Made C n cs H Q) ∧ (∀ k, NetBad l k → ErrX E CT H [("line", .int k)])
section
variable {P : Program} {w : World} {K : PySem.W.Frag} {mg : Str → Option Value} {base : Heap}
theorem ok_read_net8 {f CP CR CT : Addr} {fd : FuncData} (F : Fun K "read_net" "read_net" s_read_net f fd) (g_read_head : DefR P w K mg base "_read_head" 3 (spHead8 CT)) (g_read_ring : DefR P w K mg base "_read_ring" 6 (spRdR8 CR CT)) (g_read_pipeline : DefR P w K mg base "_read_pipeline" 6 (spRdP8 CP CT)) : FnOk P w K mg base (L2.CX P w) 7 f fd ["text"] (spRdN8 CP CR CT) := by
  refine F.okX sc_read_net (fun vs H Q E h => ?_) (fun cdv A outer s H vs Q E hr h => ?_)
  · obtain ⟨l, rfl, _⟩ := h
    rfl
  · obtain ⟨l, rfl, ha, hz, q1, q0⟩ := h
    -- slots: 0 text, 1 lines, 2 word, 3 stages
    refine ⟨_, (pss_cons (ps_set (i := 1) sc_read_net.nd rfl (Or.inl rfl) (pe_split (pv 0) pe_str))
      (pss_cons (ps_asg (pe_cd g_read_head hr psE (pa_cons (pe_ix ix_list (pv 1) pe_int (fun _ _ => rfl)) pa_nil)) (pg_tup rfl (pgs_cons (pg_name (i := 2) sc_read_net.nd rfl (Or.inl rfl)) (pgs_cons (pg_name (i := 3) sc_read_net.nd rfl (Or.inl rfl)) pgs_nil))))
      (pss_cons (ps_if (pt_cmpR op_eq (pv 2) pe_str (nomark _)) (pss_one (ps_ret (pe_cd g_read_ring hr psE (pa_cons (pv 3) (pa_cons (pv 1) pa_nil))))) pss_nil)
      (pss_one (ps_ret (pe_cd g_read_pipeline hr psE (pa_cons (pv 3) (pa_cons (pv 1) pa_nil)))))))), ?_⟩
    refine ⟨_, rfl, ⟨_, rfl⟩, _, _, rfl, rfl, rfl, line8 (by rw [S_len]; omega), fun p np => ?_⟩
    rw [split10]
    have pcs := spl1_asc (s := 10) ha
    have pl := spl1_len (s := 10) l []
    obtain ⟨h, rows, eL⟩ := spl_ne l
    rw [eL] at pcs pl
    rw [eL]
    have RO : RowsOk rows := ⟨by rw [List.length_cons] at pl; omega, fun x hx => by
      have := pcs x (List.mem_cons_of_mem _ hx)
      exact ⟨this.1, by omega⟩⟩
    have hh := pcs h List.mem_cons_self
    obtain ⟨H1, e1⟩ : ∃ H1, H1 = upd H p (.lst (rowsT (h :: rows))) := ⟨_, rfl⟩
    have s1 : Same H H1 := by rw [e1]; exact Same.new np
    have h1 : H1 p = some (.lst (rowsT (h :: rows))) := by rw [e1, upd_same]
    have e1 : H1 = upd H p (.lst ((((h :: rows)).map S).map V.str)) := e1
    rw [← e1]
    dsimp only [gName]
    have w0 : atI (rowsT (h :: rows)) (0 : Int) = some (.str (S h)) := atI_nat (j := 0) rfl
    refine ⟨_, rfl, p, _, _, _, rfl, rfl, SqL.of h1, w0, h, rfl, hh.1, by omega, fun ring i eh r H2 s2 hr2 => ?_, fun eh => (q0 1 ⟨h, rows, eL, .inl ⟨eh, rfl⟩⟩).on s1⟩
    obtain ⟨b1, b2⟩ := headP_rng eh
    obtain ⟨n, rfl⟩ : ∃ n : Nat, i = n := ⟨i.toNat, by split at b1 <;> omega⟩
    have s12 := s1.trans s2
    have hw : decide (V.str (S (wordL ring)) = V.str (Str.ofString "ring")) = ring := by cases ring <;> decide
    refine ⟨r, _, rfl, SqT.of hr2, rfl, _, _, rfl, _, _, rfl, rfl, ?_⟩
    refine ⟨_, rfl, rfl, _, rfl, ?_⟩
    rw [hw]
    cases ring with
    | true =>
      rw [if_pos rfl] at b1
      refine iteT ⟨_, rfl, _, rfl, n, p, h, rows, rfl, s2 _ _ h1, by omega, by omega, RO, fun cs rd en => (q1 true n cs ⟨h, rows, eL, eh, rd, fun _ => en⟩ CR (.inr ⟨rfl, rfl⟩)).same s12, fun k bk => (q0 _ ⟨h, rows, eL, .inr ⟨true, n, eh, .inl ⟨k, bk, rfl⟩⟩⟩).on s12, fun cs rd hl => (q0 _ ⟨h, rows, eL, .inr ⟨true, n, eh, .inr ⟨rfl, cs, rd, hl, rfl⟩⟩⟩).on s12⟩
    | false =>
      rw [if_neg (by decide)] at b1
      refine iteF ⟨_, rfl, _, rfl, n, p, h, rows, rfl, s2 _ _ h1, by omega, by omega, RO, fun cs rd => (q1 false n cs ⟨h, rows, eL, eh, rd, fun z => by cases z⟩ CP (.inl ⟨rfl, rfl⟩)).same s12, fun k bk => (q0 _ ⟨h, rows, eL, .inr ⟨false, n, eh, .inl ⟨k, bk, rfl⟩⟩⟩).on s12⟩
end
end WC

set_option maxHeartbeats 8000000
namespace WC
open PySem PySem.Spec PyProof.Rows L2 SX
/-! a text is read in one way -/
theorem good_one {l : List Nat} {r r2 : Bool} {n n2 : Nat} {cs cs2 : List Tri} (h : NetGood l r n cs) (g : NetGood l r2 n2 cs2) : r = r2 ∧ n = n2 ∧ cs = cs2 := by
  obtain ⟨a, rows, e1, e2, e3, e4⟩ := h
  obtain ⟨b, rows2, f1, f2, f3, f4⟩ := g
  rw [e1] at f1
  injection f1 with x1 x2
  subst x1 x2
  rw [e2] at f2
  injection f2 with f2
  injection f2 with y1 y2
  subst y1
  have y2 : n = n2 := by omega
  subst y2
  exact ⟨rfl, rfl, e3.one f3⟩
theorem good_bad {l : List Nat} {r : Bool} {n : Nat} {cs : List Tri} {k : Int} (h : NetGood l r n cs) : ¬ NetBad l k := by
  obtain ⟨a, rows, e1, e2, e3, e4⟩ := h
  rintro ⟨b, rows2, f1, f2⟩
  rw [e1] at f1
  injection f1 with x1 x2
  subst x1 x2
  rcases f2 with ⟨f2, _⟩ | ⟨r2, n2, f2, f3⟩
  · rw [e2] at f2; cases f2
  · rw [e2] at f2
    injection f2 with f2
    injection f2 with y1 y2
    subst y1
    have y2 : n = n2 := by omega
    subst y2
    rcases f3 with ⟨j, bd, _⟩ | ⟨er, ds, rd, hl, _⟩
    · exact e3.no_bad bd
    · have := e3.one rd
      subst this
      have := e4 er
      omega
theorem bad_one8 {l : List Nat} {k j : Int} (h : NetBad l k) (g : NetBad l j) : k = j := by
  obtain ⟨a, rows, e1, e2⟩ := h
  obtain ⟨b, rows2, f1, f2⟩ := g
  rw [e1] at f1
  injection f1 with x1 x2
  subst x1 x2
  rcases e2 with ⟨e2, ek⟩ | ⟨r, n, e2, e3⟩
  · rcases f2 with ⟨f2, fk⟩ | ⟨r2, n2, f2, f3⟩
    · rw [ek, fk]
    · rw [e2] at f2; cases f2
  · rcases f2 with ⟨f2, fk⟩ | ⟨r2, n2, f2, f3⟩
    · rw [e2] at f2; cases f2
    · rw [e2] at f2
      injection f2 with f2
      injection f2 with y1 y2
      subst y1
      have y2 : n = n2 := by omega
      subst y2
      rcases e3 with ⟨i, bd, ek⟩ | ⟨er, ds, rd, hl, ek⟩
      · rcases f3 with ⟨i2, bd2, fk⟩ | ⟨er, ds, rd, hl, fk⟩
        · have := bd.one bd2
          rw [ek, fk, this]
        · exact absurd bd rd.no_bad
      · rcases f3 with ⟨i2, bd2, fk⟩ | ⟨_, ds2, rd2, hl2, fk⟩
        · exact absurd bd2 rd.no_bad
        · rw [ek, fk]
end WC

set_option maxHeartbeats 8000000
namespace WC
open PySem PySem.Spec PyProof.Rows L2 SX
/-! roads along channels, and what one more channel does -/
inductive Road (cs : List Tri) (a : Int) : Int → Prop where
  | here : Road cs a a
  | on {c : Tri} : Road cs a c.1 → c ∈ cs → Road cs a c.2.1
theorem Road.rank {cs : List Tri} {r : Int → Nat} (hr : ∀ c ∈ cs, r c.1 < r c.2.1) {a b : Int} (h : Road cs a b) : r a ≤ r b := by
  induction h with
  | here => exact Nat.le_refl _
  | on _ hc ih => exact Nat.le_trans ih (Nat.le_of_lt (hr _ hc))
theorem acyc_snoc {cs : List Tri} {c : Tri} (h : Acyc cs) : Acyc (cs ++ [c]) ↔ ¬ Road cs c.2.1 c.1 := by
  constructor
  · rintro ⟨r, hr⟩ road
    have h1 := road.rank (r := r) fun d hd => hr d (List.mem_append_left _ hd)
    have h2 := hr c (List.mem_append_right _ (List.mem_singleton.mpr rfl))
    omega
  · intro no
    obtain ⟨r, hr⟩ := h
    classical
    refine ⟨fun x => if Road cs c.2.1 x then r x + r c.1 + 1 else r x, fun d hd => ?_⟩
    dsimp only
    rcases List.mem_append.mp hd with hd | hd
    · have lt := hr d hd
      by_cases g : Road cs c.2.1 d.1
      · rw [if_pos g, if_pos (g.on hd)]
        omega
      · rw [if_neg g]
        split
        · omega
        · exact lt
    · rw [List.mem_singleton.mp hd, if_neg no, if_pos Road.here]
      omega
/-- what is left of a search: what was taken leads only to what was taken or waits -/
theorem road_in {cs : List Tri} {a : Int} {S : Int → Prop} (h0 : S a) (hs : ∀ c ∈ cs, S c.1 → S c.2.1) {b : Int} (h : Road cs a b) : S b := by
  induction h with
  | here => exact h0
  | on _ hc ih => exact hs _ hc ih
/-- nobody comes back to where it went out -/
theorem road_back {cs : List Tri} (h : Acyc cs) {a : Int} {c : Tri} (hc : c ∈ cs) (g : Road cs a c.1) : c.2.1 ≠ a := by
  obtain ⟨r, hr⟩ := h
  intro e
  have h1 := g.rank hr
  have h2 := hr c hc
  rw [e] at h2
  omega
end WC

set_option maxHeartbeats 8000000
namespace WC
open PySem PySem.Spec PyProof.Rows L2 SX
/-! a search with a stack: what was taken, what waits -/
structure SrL (cs : List Tri) (a b : Int) (n : Nat) (seen : Int → Bool) (left popped : List Int) : Prop where
  nd : (popped ++ left).Nodup
  mem : ∀ x ∈ popped ++ left, Road cs a x ∧ 0 ≤ x ∧ x < n
  has : a ∈ popped ++ left
  sn : ∀ x : Int, 0 ≤ x → x < (n : Int) → (seen x = true ↔ x ∈ popped ++ left ∧ x ≠ a)
  cl : ∀ c ∈ cs, c.1 ∈ popped → c.2.1 ∈ popped ++ left
  nl : b ∉ popped
theorem SrL.start {cs : List Tri} {a b : Int} {n : Nat} (a0 : 0 ≤ a) (an : a < n) : SrL cs a b n (fun _ => false) [a] [] := by
  refine ⟨List.nodup_cons.mpr ⟨List.not_mem_nil, List.nodup_nil⟩, fun x hx => ?_, List.mem_cons_self, fun x _ _ => ?_, fun c _ h => (by cases h), fun h => (by cases h)⟩
  · rw [List.mem_singleton.mp hx]
    exact ⟨.here, a0, an⟩
  · constructor
    · intro h; cases h
    · rintro ⟨h, ne⟩
      exact absurd (List.mem_singleton.mp h) ne
theorem SrL.done {cs : List Tri} {a b : Int} {n : Nat} {seen : Int → Bool} {popped : List Int} (h : SrL cs a b n seen [] popped) : ¬ Road cs a b := fun r => by
  have h1 := h.has
  rw [List.append_nil] at h1
  refine h.nl (road_in (S := fun x => x ∈ popped) h1 (fun c hc m => ?_) r)
  have := h.cl c hc m
  rw [List.append_nil] at this
  exact this
/-- amid the ways out of one stage that has been taken: its first ones lie among what was taken or waits -/
structure MdL (cs : List Tri) (a b : Int) (n : Nat) (s : Int) (outs : List Int) (seen : Int → Bool) (left popped : List Int) : Prop where
  nd : (popped ++ s :: left).Nodup
  mem : ∀ x ∈ popped ++ s :: left, Road cs a x ∧ 0 ≤ x ∧ x < n
  has : a ∈ popped ++ s :: left
  sn : ∀ x : Int, 0 ≤ x → x < (n : Int) → (seen x = true ↔ x ∈ popped ++ s :: left ∧ x ≠ a)
  cl : ∀ c ∈ cs, c.1 ∈ popped → c.2.1 ∈ popped ++ s :: left
  out : ∀ x ∈ outs, x ∈ popped ++ s :: left
  nl : b ∉ popped
theorem mid_perm {popped left : List Int} {s : Int} : (popped ++ (left ++ [s])).Perm (popped ++ s :: left) := List.Perm.append_left _ (List.perm_append_comm (l₁ := left) (l₂ := [s]))
theorem SrL.take {cs : List Tri} {a b : Int} {n : Nat} {seen : Int → Bool} {left popped : List Int} {s : Int} (h : SrL cs a b n seen (left ++ [s]) popped) : MdL cs a b n s [] seen left popped := by
  have p := mid_perm (popped := popped) (left := left) (s := s)
  exact ⟨p.nodup_iff.mp h.nd, fun x hx => h.mem x (p.mem_iff.mpr hx), p.mem_iff.mp h.has, fun x x0 xn => by rw [h.sn x x0 xn, p.mem_iff], fun c hc m => p.mem_iff.mp (h.cl c hc m), fun x hx => (by cases hx), h.nl⟩
theorem MdL.old {cs : List Tri} {a b : Int} {n : Nat} {seen : Int → Bool} {left popped outs : List Int} {s x : Int} (h : MdL cs a b n s outs seen left popped) (x0 : 0 ≤ x) (xn : x < n) (hs : seen x = true) : MdL cs a b n s (outs ++ [x]) seen left popped :=
  ⟨h.nd, h.mem, h.has, h.sn, h.cl, fun y hy => by
    rcases List.mem_append.mp hy with hy | hy
    · exact h.out y hy
    · rw [List.mem_singleton.mp hy]; exact ((h.sn x x0 xn).mp hs).1, h.nl⟩
theorem MdL.new {cs : List Tri} {a b : Int} {n : Nat} {seen : Int → Bool} {left popped outs : List Int} {s x : Int} (h : MdL cs a b n s outs seen left popped) (ac : Acyc cs) {c : Tri} (hc : c ∈ cs) (e1 : c.1 = s) (e2 : c.2.1 = x) (x0 : 0 ≤ x) (xn : x < n) (hs : seen x = false) : MdL cs a b n s (outs ++ [x]) (fun y => if y = x then true else seen y) (left ++ [x]) popped := by
  have rs : Road cs a s := (h.mem s (List.mem_append_right _ List.mem_cons_self)).1
  have xa : x ≠ a := by
    have := road_back ac hc (by rw [e1]; exact rs)
    rw [e2] at this
    exact this
  have nin : x ∉ popped ++ s :: left := fun m => by
    have := (h.sn x x0 xn).mpr ⟨m, xa⟩
    rw [hs] at this
    cases this
  have e : popped ++ s :: (left ++ [x]) = (popped ++ s :: left) ++ [x] := by simp
  have road : Road cs a x := by
    rw [← e2]
    exact Road.on (by rw [e1]; exact rs) hc
  refine ⟨?_, fun y hy => ?_, ?_, fun y y0 yn => ?_, fun d hd m => ?_, fun y hy => ?_, h.nl⟩
  · rw [e, List.nodup_append]
    refine ⟨h.nd, List.nodup_cons.mpr ⟨List.not_mem_nil, List.nodup_nil⟩, fun y hy z hz => ?_⟩
    rw [List.mem_singleton.mp hz]
    intro q
    exact nin (q ▸ hy)
  · rw [e] at hy
    rcases List.mem_append.mp hy with hy | hy
    · exact h.mem y hy
    · rw [List.mem_singleton.mp hy]; exact ⟨road, x0, xn⟩
  · rw [e]; exact List.mem_append_left _ h.has
  · rw [e]
    by_cases q : y = x
    · rw [if_pos q, q]
      exact ⟨fun _ => ⟨List.mem_append_right _ (List.mem_singleton.mpr rfl), xa⟩, fun _ => rfl⟩
    · rw [if_neg q, h.sn y y0 yn]
      constructor
      · rintro ⟨m, z⟩; exact ⟨List.mem_append_left _ m, z⟩
      · rintro ⟨m, z⟩
        rcases List.mem_append.mp m with m | m
        · exact ⟨m, z⟩
        · exact absurd (List.mem_singleton.mp m) q
  · rw [e]; exact List.mem_append_left _ (h.cl d hd m)
  · rw [e]
    rcases List.mem_append.mp hy with hy | hy
    · exact List.mem_append_left _ (h.out y hy)
    · rw [List.mem_singleton.mp hy]; exact List.mem_append_right _ (List.mem_singleton.mpr rfl)
theorem MdL.end_ {cs : List Tri} {a b : Int} {n : Nat} {seen : Int → Bool} {left popped outs : List Int} {s : Int} (h : MdL cs a b n s outs seen left popped) (all : ∀ c ∈ cs, c.1 = s → c.2.1 ∈ outs) (sb : s ≠ b) : SrL cs a b n seen left (popped ++ [s]) := by
  have e : (popped ++ [s]) ++ left = popped ++ s :: left := by simp
  refine ⟨by rw [e]; exact h.nd, by rw [e]; exact h.mem, by rw [e]; exact h.has, by rw [e]; exact h.sn, fun c hc m => ?_, fun m => ?_⟩
  · rw [e]
    rcases List.mem_append.mp m with m | m
    · exact h.cl c hc m
    · exact h.out _ (all c hc (List.mem_singleton.mp m))
  · rcases List.mem_append.mp m with m | m
    · exact h.nl m
    · exact sb (List.mem_singleton.mp m).symm
/-- for each stage the stages that it leads to, in the order read -/
structure EndsAt (H : Hp) (E : Addr) (n : Nat) (cs : List Tri) : Prop where
  ex : ∃ ds : List Addr, H E = some (.lst (ds.map V.ref)) ∧ ds.length = n ∧ ∀ (s : Nat) d, ds[s]? = some d → H d = some (.lst (((cs.filter fun c => decide (c.1 = (s : Int))).map fun c => c.2.1).map V.int))
def spLeads8 : Sp := fun vs H Q _ => ∃ (E : Addr) (n : Nat) (cs : List Tri) (a b : Int), vs = [.ref E, .int a, .int b] ∧ EndsAt H E n cs ∧ n ≤ 40 ∧ (∀ c ∈ cs, ChOk n c) ∧ cs.length ≤ 120 ∧ Acyc cs ∧ 0 ≤ a ∧ a < n ∧ ∀ H2 r, Same H H2 → (r = true ↔ Road cs a b) → Q (.bl r) H2
/-- no more are taken or wait than there are stages -/
theorem SrL.len {cs : List Tri} {a b : Int} {n : Nat} {seen : Int → Bool} {left popped : List Int} (h : SrL cs a b n seen left popped) : popped.length + left.length ≤ n := by
  have := nodup_le n _ h.nd fun x hx => (h.mem x hx).2
  rw [List.length_append] at this
  exact this
end WC

set_option maxHeartbeats 8000000
namespace WC
open PySem PySem.Spec PyProof.Rows L2 SX
theorem ixn8 {n p : Nat} (h : p < n) : ixN n (p : Int) = some p := by
  unfold ixN
  rw [if_pos (by omega), if_pos (by omega), Int.toNat_natCast]
theorem up8 {n m : Nat} (h : m < n) : (upto n)[m]? = some (m : Int) := by
  unfold upto
  rw [List.getElem?_map, List.getElem?_range h]
  rfl
theorem set8 {n m : Nat} (seen : Int → Bool) (h : m < n) : ((upto n).map fun x => V.bl (seen x)).set m (.bl true) = (upto n).map fun y => V.bl (if y = (m : Int) then true else seen y) := by
  refine List.ext_getElem? fun i => ?_
  by_cases hi : i < n
  · rw [List.getElem?_map, up8 hi]
    by_cases e : m = i
    · subst e
      rw [List.getElem?_set_self (by rw [List.length_map, upto_len]; exact h)]
      show _ = some (V.bl (if ((m : Nat) : Int) = (m : Int) then true else seen m))
      rw [if_pos rfl]
    · rw [List.getElem?_set_ne e, List.getElem?_map, up8 hi]
      show some (V.bl (seen i)) = some (V.bl (if ((i : Nat) : Int) = (m : Int) then true else seen i))
      rw [if_neg (by omega)]
  · rw [List.getElem?_eq_none_iff.mpr (by rw [List.length_set, List.length_map, upto_len]; omega), List.getElem?_eq_none_iff.mpr (by rw [List.length_map, upto_len]; omega)]
section
variable {P : Program} {w : World} {K : PySem.W.Frag} {mg : Str → Option Value} {base : Heap}
theorem ok_leads8 {f : Addr} {fd : FuncData} (F : Fun K "_law_leads" "_law_leads" s_law_leads f fd) (B : Blt mg) : FnOk P w K mg base (L2.CX P w) 1 f fd ["ends", "first", "last"] spLeads8 := by
  refine F.okX sc_law_leads (fun vs H Q E h => ?_) (fun cdv A outer s H vs Q E hr h => ?_)
  · obtain ⟨E0, n, cs, a, b, rfl, _⟩ := h
    rfl
  · obtain ⟨E0, n, cs, a, b, rfl, EA, n40, ok, l120, ac, a0, an, q⟩ := h
    obtain ⟨ds, hE, dl, hds⟩ := EA.ex
    -- slots: 0 ends, 1 first, 2 last, 3 seen, 4 k, 5 left, 6 turn, 7 stage, 8 b
    refine ⟨_, (pss_cons (ps_setLc (i := 3) (own := [("k", 4)]) rfl sc_law_leads.nd rfl rfl (sw_true rfl rfl rfl (by decide +kernel)) (pi_list (pv 0)) (blkOk_by (N := nn_law_leads) (sc := defScope s_law_leads) (own := [("k", 4)]) (by decide +kernel)) (fun _ _ _ _ _ => (pg_name (i := 4) sc_law_leads.nd rfl (Or.inl rfl))) (fun _ _ _ _ _ => pts_nil) (fun _ _ _ _ _ => pe_bl))
      (pss_cons (ps_set (i := 5) sc_law_leads.nd rfl (Or.inl rfl) (pe_lst (pa_cons (pv 1) pa_nil)))
      (pss_cons (ps_for (passes_of rfl) rfl (pi_range1 (by rfl) B.range (pa_cons pe_int pa_nil)) (pg_name (i := 6) sc_law_leads.nd rfl (Or.inl rfl))
        (pss_cons (ps_if (pt_cmpR op_eq (pe_callB call_len_seq (by rfl) B.len bt_len (pa_cons (pv 5) pa_nil)) pe_int (nomark _)) (pss_one ps_break) pss_nil)
      (pss_cons (ps_set (i := 7) sc_law_leads.nd rfl (Or.inl rfl) (pe_bm0 PySem.F.plainAttrs_list PySem.F.slot_list_pop PySem.F.type_list_pop mt_pop (pv 5)))
      (pss_cons (ps_if (pt_cmpR op_eq (pv 7) (pv 2) (nomark _)) (pss_one (ps_ret pe_bl)) pss_nil)
      (pss_one (ps_for (passes_of rfl) rfl (pi_list (pe_ix ix_list (pv 0) (pv 7) (fun _ _ => rfl))) (pg_name (i := 8) sc_law_leads.nd rfl (Or.inl rfl))
        (pss_one (ps_if (pt_not (pt_val (pe_ix ix_list (pv 3) (pv 8) (fun _ _ => rfl)))) (pss_cons (ps_asg pe_bl (pg_sub (pv 3) (pv 8) set_list))
      (pss_one (ps_expr (pe_bm PySem.F.plainAttrs_list PySem.F.slot_list_append PySem.F.type_list_append mt_append (pv 5) (pa_cons (pv 8) pa_nil))))) pss_nil))))))))
      (pss_one (ps_ret pe_bl))))), ?_⟩
    refine ⟨_, rfl, E0, rfl, ⟨_, SqL.of hE⟩, fun D hD => lc_it (walk_list (xs := ds.map V.ref)) (fun i H3 => Same H H3 ∧ H3 D = some (.lst (List.replicate i (V.bl false)))) ⟨Same.new hD, upd_same⟩ (fun i H3 _ z => SqL.of (z.1 _ _ hE)) ?_ ?_⟩
    · rintro i y H3 H4 hi ⟨s3, hd⟩ ⟨rfl, hy⟩
      have hi : i < n := by rw [← dl, ← List.length_map (f := V.ref)]; exact hi
      refine ⟨rfl, yes ⟨_, hd, by rw [List.length_replicate]; exact line_lt (by omega), Same.newer s3 hD, ?_⟩⟩
      rw [upd_same, List.replicate_succ']
    rintro H3 ⟨s3, hd⟩
    rw [List.length_map, dl] at hd
    refine ⟨_, rfl, by show 1 ≤ sizeLine; decide, fun Lf nL => ?_⟩
    have DL : D ≠ Lf := fun z => by rw [← z, hd] at nL; cases nL
    refine ⟨40, rfl, by omega, by omega, for_range (lo := 0) (n := 40) (fun i σ H5 => ∃ v4 v6 v7 v8 seen left popped, σ = [some (.ref E0), some (.int a), some (.int b), some (.ref D), v4, some (.ref Lf), v6, v7, v8] ∧ Same H H5 ∧ H5 D = some (.lst ((upto n).map fun x => V.bl (seen x))) ∧ H5 Lf = some (.lst (left.map V.int)) ∧ SrL cs a b n seen left popped ∧ popped.length = i) ⟨_, _, _, _, fun _ => false, [a], [], rfl, s3.trans (Same.new nL), ?_, upd_same, SrL.start a0 an, rfl⟩ ?_ ?_⟩
    · rw [upd_ne DL, hd]
      congr 2
      have k : ∀ l : List Int, List.replicate l.length (V.bl false) = l.map fun x => V.bl ((fun _ => false) x) := fun l => by
        induction l with
        | nil => rfl
        | cons x l ih => rw [List.length_cons, List.replicate_succ, ih]; rfl
      have := k (upto n)
      rw [upto_len] at this
      exact this
    · rintro i σ H5 hi ⟨v4, v6, v7, v8, seen, left, popped, rfl, s5, hS, hL, R, pl⟩
      refine ⟨_, rfl, Lf, _, rfl, .inl (SqL.of hL), rfl, _, rfl, ?_⟩
      rw [List.length_map]
      rcases List.eq_nil_or_concat left with e | ⟨l0, s0, e⟩
      · subst e
        exact iteT (q H5 false s5 ⟨fun z => (by cases z), fun z => absurd z R.done⟩)
      · have e : left = l0 ++ [s0] := by rw [e, List.concat_eq_append]
        subst e
        rw [show decide (V.int (((l0 ++ [s0]).length : Nat) : Int) = V.int 0) = false from decide_eq_false fun z => by have := V.int.inj z; rw [List.length_append, List.length_singleton] at this; omega]
        refine iteF ?_
        dsimp only [tNext, gName]
        have atL : ((l0 ++ [s0]).map V.int)[((l0 ++ [s0]).map V.int).length - 1]? = some (.int s0) := by
          rw [List.length_map, List.length_append, List.length_singleton, List.getElem?_map, List.getElem?_append_right (by omega), show l0.length + 1 - 1 - l0.length = 0 by omega]
          rfl
        have dr : ((l0 ++ [s0]).map V.int).dropLast = l0.map V.int := by rw [List.map_append]; exact List.dropLast_concat
        refine ⟨_, rfl, .inl ⟨rfl, _, SqL.of hL⟩, Lf, _, _, rfl, rfl, hL, atL, ?_⟩
        rw [dr]
        obtain ⟨rs, r0, r1⟩ := R.mem s0 (by simp)
        refine ⟨_, rfl, _, rfl, rfl, _, rfl, ?_⟩
        have nE : ∀ {t o}, H t = some o → t ≠ Lf := fun {t o} e z => by
          have := s3 _ _ e
          rw [z, nL] at this
          cases this
        have s6 : Same H (upd H5 Lf (.lst (l0.map V.int))) := fun t o e => by
          rw [upd_ne (nE e)]
          exact s5 _ _ e
        by_cases sb : s0 = b
        · rw [show decide (V.int s0 = V.int b) = true from decide_eq_true (by rw [sb])]
          exact iteT (q _ true s6 ⟨fun _ => by rw [← sb]; exact rs, fun _ => rfl⟩)
        rw [show decide (V.int s0 = V.int b) = false from decide_eq_false fun z => sb (V.int.inj z)]
        refine iteF ?_
        obtain ⟨k0, rfl⟩ : ∃ k0 : Nat, s0 = k0 := ⟨s0.toNat, by omega⟩
        have hk : k0 < ds.length := by omega
        have hd0 : ds[k0]? = some ds[k0] := List.getElem?_eq_getElem hk
        have hrow := hds k0 _ hd0
        generalize ds[k0] = d0 at hd0 hrow
        have atE : atI (ds.map V.ref) ((k0 : Nat) : Int) = some (.ref d0) := atI_nat (j := k0) (by rw [List.getElem?_map, hd0]; rfl)
        generalize houts : (cs.filter fun c => decide (c.1 = (k0 : Int))).map (fun c => c.2.1) = outs at hrow
        have ho : ∀ x ∈ outs, ∃ c ∈ cs, c.1 = (k0 : Int) ∧ c.2.1 = x := fun x hx => by
          rw [← houts] at hx
          obtain ⟨c, hc, e⟩ := List.mem_map.mp hx
          obtain ⟨m, z⟩ := List.mem_filter.mp hc
          exact ⟨c, m, of_decide_eq_true z, e⟩
        have all : ∀ c ∈ cs, c.1 = (k0 : Int) → c.2.1 ∈ outs := fun c hc e => by
          rw [← houts]
          exact List.mem_map.mpr ⟨c, List.mem_filter.mpr ⟨hc, decide_eq_true e⟩, rfl⟩
        refine ⟨_, rfl, _, rfl, E0, _, _, _, rfl, rfl, SqL.of (s6 _ _ hE), atE, d0, rfl, ⟨_, SqL.of (s6 _ _ hrow)⟩, for_it (walk_list (xs := outs.map V.int)) (fun j σ H7 => ∃ v8 seen left, σ = [some (.ref E0), some (.int a), some (.int b), some (.ref D), v4, some (.ref Lf), some (.int ((0 : Int) + (i : Nat))), some (.int (k0 : Nat)), v8] ∧ Same H H7 ∧ H7 D = some (.lst ((upto n).map fun x => V.bl (seen x))) ∧ H7 Lf = some (.lst (left.map V.int)) ∧ MdL cs a b n (k0 : Int) (outs.take j) seen left popped) ⟨_, seen, l0, rfl, s6, by rw [upd_ne DL]; exact hS, upd_same, R.take⟩ (fun j σ H7 _ z => ?_) ?_ ?_⟩
        · obtain ⟨_, _, _, _, s7, _⟩ := z
          exact SqL.of (s7 _ _ hrow)
        · rintro j y σ H7 H8 hj ⟨v8, seen, left, rfl, s7, hS7, hL7, M⟩ ⟨rfl, hy⟩
          obtain ⟨x, hx, rfl⟩ : ∃ x, outs[j]? = some x ∧ y = .int x := by
            rw [List.getElem?_map] at hy
            cases e : outs[j]? with
            | none => rw [e] at hy; cases hy
            | some x => rw [e] at hy; cases hy; exact ⟨x, rfl, rfl⟩
          obtain ⟨c, hc, ec1, ec2⟩ := ho x (List.mem_of_getElem? hx)
          obtain ⟨_, ⟨x0, xn⟩, _⟩ := ok c hc
          rw [ec2] at x0 xn
          obtain ⟨m, rfl⟩ : ∃ m : Nat, x = m := ⟨x.toNat, by omega⟩
          have up := up8 (n := n) (m := m) (by omega)
          have atS : atI ((upto n).map fun x => V.bl (seen x)) ((m : Nat) : Int) = some (.bl (seen m)) := atI_nat (j := m) (by rw [List.getElem?_map, up]; rfl)
          refine ⟨_, rfl, _, rfl, D, _, _, _, rfl, rfl, SqL.of hS7, atS, _, rfl, ?_⟩
          cases hs : seen m with
          | true => exact iteF ⟨_, seen, left, rfl, s7, hS7, hL7, by rw [take_snoc hx]; exact M.old x0 xn hs⟩
          | false =>
            have lenS : ((upto n).map fun x => V.bl (seen x)).length = n := by rw [List.length_map, upto_len]
            have nD : ∀ {t o}, H t = some o → t ≠ D := fun {t o} e z => by rw [z, hD] at e; cases e
            have ll : left.length ≤ n := by
              have := nodup_le n _ M.nd fun x hx => (M.mem x hx).2
              rw [List.length_append, List.length_cons] at this
              omega
            refine iteT ⟨_, rfl, _, rfl, D, _, _, m, rfl, rfl, hS7, by rw [lenS]; exact ixn8 (by omega), ?_⟩
            have hL8 : upd H8 D (.lst (((upto n).map fun x => V.bl (seen x)).set m (.bl true))) Lf = some (.lst (left.map V.int)) := by rw [upd_ne (Ne.symm DL)]; exact hL7
            refine ⟨_, rfl, .inl ⟨rfl, _, SqL.of hL8⟩, _, rfl, Lf, _, _, rfl, rfl, hL8, by rw [List.length_map]; exact line_lt (by omega), ?_⟩
            refine ⟨_, (fun y => if y = (m : Int) then true else seen y), left ++ [(m : Int)], rfl, fun t o e => ?_, ?_, ?_, ?_⟩
            · rw [upd_ne (nE e), upd_ne (nD e)]
              exact s7 _ _ e
            · rw [upd_ne DL, upd_same]
              congr 2
              exact set8 seen (by omega)
            · rw [upd_same, List.map_append]
              rfl
            · rw [take_snoc hx]
              exact M.new ac hc ec1 ec2 x0 xn hs
        · rintro σ H7 ⟨v8, seen2, left2, rfl, s7, hS7, hL7, M⟩
          rw [List.length_map, List.take_length] at M
          exact ⟨_, _, _, _, seen2, left2, popped ++ [(k0 : Int)], rfl, s7, hS7, hL7, M.end_ all sb, by rw [List.length_append, List.length_singleton, pl]⟩
    · rintro σ H5 ⟨v4, v6, v7, v8, seen, left, popped, rfl, s5, hS, hL, R, pl⟩
      have := R.len
      have e : left = [] := List.length_eq_zero_iff.mp (by omega)
      subst e
      exact q H5 false s5 ⟨fun z => (by cases z), fun z => absurd z R.done⟩
end
end WC

set_option maxHeartbeats 8000000
namespace WC
open PySem PySem.Spec PyProof.Rows L2 SX
theorem lexg8 {a b c d : Int} : Ob.lexAt (fun j => decide (([a, b] : List Int).getD j 0 = ([c, d] : List Int).getD j 0)) (fun j => decide (([c, d] : List Int).getD j 0 ≤ ([a, b] : List Int).getD j 0)) (decide (([a, b] : List Int).length ≥ ([c, d] : List Int).length)) 0 (min ([a, b] : List Int).length ([c, d] : List Int).length) = !decide (a < c ∨ (a = c ∧ b < d)) := by
  show (if decide (a = c) = true then (if decide (b = d) = true then decide (2 ≥ 2) else decide (d ≤ b)) else decide (c ≤ a)) = _
  by_cases h : a = c
  · rw [if_pos (decide_eq_true h)]
    by_cases g : b = d
    · rw [if_pos (decide_eq_true g), decide_eq_true (by decide), decide_eq_false (by omega)]
      rfl
    · rw [if_neg (by simp; omega)]
      by_cases z : b < d
      · rw [decide_eq_false (by omega), decide_eq_true (by omega)]; rfl
      · rw [decide_eq_true (by omega), decide_eq_false (by omega)]; rfl
  · rw [if_neg (by simp; omega)]
    by_cases z : a < c
    · rw [decide_eq_false (by omega), decide_eq_true (by omega)]; rfl
    · rw [decide_eq_true (by omega), decide_eq_false (by omega)]; rfl
def spFits8 : Sp := fun vs H Q _ => ∃ (Lk E t : Addr) (ring : Bool) (n : Nat) (cs : List Tri) (c : Tri) (ks : List V), vs = [.ref Lk, .ref E, .ref t, .bl ring] ∧ H Lk = some (.lst ks) ∧ Paired (TriA H) cs ks ∧ EndsAt H E n cs ∧ H t = some (.tup [.int c.1, .int c.2.1, .int c.2.2]) ∧ ChOk n c ∧ 1 ≤ n ∧ n ≤ 40 ∧ (∀ c ∈ cs, ChOk n c) ∧ cs.length ≤ 120 ∧ (ring = false → Acyc cs) ∧ ∀ H2 r, Same H H2 → (r = true ↔ okOf ring n cs c) → Q (.bl r) H2
section
variable {P : Program} {w : World} {K : PySem.W.Frag} {mg : Str → Option Value} {base : Heap}
theorem EndsAt.on8 {H H2 : Hp} {E : Addr} {n : Nat} {cs : List Tri} (h : EndsAt H E n cs) (s : Same H H2) : EndsAt H2 E n cs := by
  obtain ⟨ds, a, b, c⟩ := h.ex
  exact ⟨ds, s _ _ a, b, fun i d e => s _ _ (c i d e)⟩
theorem ok_fits8 {f : Addr} {fd : FuncData} (F : Fun K "_law_fits" "_law_fits" s_law_fits f fd) (B : Blt mg) (g_law_leads : DefR P w K mg base "_law_leads" 1 spLeads8) : FnOk P w K mg base (L2.CX P w) 2 f fd ["links", "ends", "link", "ring"] spFits8 := by
  refine F.okX sc_law_fits (fun vs H Q E h => ?_) (fun cdv A outer s H vs Q E hr h => ?_)
  · obtain ⟨Lk, E0, t, ring, n, cs, c, ks, rfl, _⟩ := h
    rfl
  · obtain ⟨Lk, E0, t, ring, n, cs, c, ks, rfl, hL, pk, EA, ht, hc, n1, n40, ok, l120, ac, q⟩ := h
    obtain ⟨ds, hE, dl, hds⟩ := EA.ex
    have lk := pk.length
    obtain ⟨⟨c0, c1⟩, ⟨c2, c3⟩, cne, _⟩ := hc
    -- slots: 0 links, 1 ends, 2 link, 3 ring, 4 count
    refine ⟨_, (pss_cons (ps_set (i := 4) sc_law_fits.nd rfl (Or.inl rfl) (pe_callB call_len_seq (by rfl) B.len bt_len (pa_cons (pv 1) pa_nil)))
      (pss_cons (ps_if (pt_val (pv 3)) (pss_one (ps_ret (pe_and (pe_cmpR op_lt (pe_callB call_len_seq (by rfl) B.len bt_len (pa_cons (pv 0) pa_nil)) (pv 4) (nomark _)) (pe_one (pe_cmpR (op_eqD (unR hr)) (pe_slice sl_tup (pv 2) po_none (po_some pe_int)) (pe_tup (pa_cons (pe_callB call_len_seq (by rfl) B.len bt_len (pa_cons (pv 0) pa_nil)) (pa_cons (pe_op op_modN (pe_callTy (T := "int") call_int1 (by rfl) B.int bt_int (pa_cons (pe_op op_add (pe_callB call_len_seq (by rfl) B.len bt_len (pa_cons (pv 0) pa_nil)) pe_int) pa_nil)) (pv 4)) pa_nil))) (nomark _)))))) pss_nil)
      (pss_cons (ps_if (PW.pt (pw_or (pt_cmpR op_eq (pe_callB call_len_seq (by rfl) B.len bt_len (pa_cons (pv 0) pa_nil)) pe_int (nomark _)) (pw_or1 (PW.pt (pw_and (pt_cmpR op_gt (pe_callB call_len_seq (by rfl) B.len bt_len (pa_cons (pv 0) pa_nil)) pe_int (nomark _)) (pw_and1 (pt_cmpR (op_geT (un0 hr)) (pe_slice sl_tup (pe_ix ix_list (pv 0) (pe_un un_neg pe_int) (fun _ _ => rfl)) po_none (po_some pe_int)) (pe_slice sl_tup (pv 2) po_none (po_some pe_int)) (nomark _)))))))) (pss_one (ps_ret pe_bl)) pss_nil)
      (pss_one (ps_ret (pe_not (pe_cd g_law_leads hr psE (pa_cons (pv 1) (pa_cons (pe_ix ix_tup (pv 2) pe_int (fun _ _ => rfl)) (pa_cons (pe_ix ix_tup (pv 2) pe_int (fun _ _ => rfl)) pa_nil)))))))))), ?_⟩
    refine ⟨_, rfl, E0, _, rfl, .inl (SqL.of hE), ?_⟩
    rw [List.length_map, dl]
    dsimp only [gName]
    cases ring with
    | true =>
      refine ⟨_, rfl, true, rfl, iteT ?_⟩
      refine ⟨_, rfl, Lk, _, rfl, .inl (SqL.of hL), _, rfl, _, _, rfl, rfl, _, rfl, ?_⟩
      by_cases hlt : cs.length < n
      case neg =>
        rw [show decide (((ks.length : Nat) : Int) < (n : Int)) = false from decide_eq_false (by omega)]
        refine iteF (q H false (Same.refl H) ⟨fun z => (by cases z), fun z => ?_⟩)
        have z : okR n cs c := z
        have := z.1
        omega
      rw [show decide (((ks.length : Nat) : Int) < (n : Int)) = true from decide_eq_true (by omega)]
      refine iteT ?_
      refine ⟨_, rfl, _, rfl, t, _, rfl, SqT.of ht, cut32 _ _ _, fun pa npa => ?_⟩
      rw [cut27]
      obtain ⟨H7, e7⟩ : ∃ H7, H7 = upd H pa (.tup [.int c.1, .int c.2.1]) := ⟨_, rfl⟩
      have s7 : Same H H7 := by rw [e7]; exact Same.new npa
      have h7 : H7 pa = some (.tup [.int c.1, .int c.2.1]) := by rw [e7, upd_same]
      rw [← e7]
      refine ⟨_, rfl, Lk, _, rfl, .inl (SqL.of (s7 _ _ hL)), _, rfl, Lk, _, rfl, .inl (SqL.of (s7 _ _ hL)), _, _, rfl, rfl, .inl ⟨_, rfl, _, rfl, _, _, rfl, rfl, by omega, by show 2 ≤ sizeLine; decide, fun pb npb => ?_⟩⟩
      rw [← lk]
      have s8 : Same H7 (upd H7 pb (.tup [.int (cs.length : Nat), .int (Int.fmod (((cs.length : Nat) : Int) + 1) (n : Int))])) := Same.new npb
      refine ⟨.tuple [.int c.1, .int c.2.1], .tuple [.int (cs.length : Nat), .int (Int.fmod (((cs.length : Nat) : Int) + 1) (n : Int))], .tup (SqT.of (s8 _ _ h7)) (.cons (.int _) (.cons (.int _) .nil)), .tup (SqT.of upd_same) (.cons (.int _) (.cons (.int _) .nil)), ii_shaped _ _, ii_shaped _ _, ?_⟩
      have ef : Int.fmod (((cs.length : Nat) : Int) + 1) (n : Int) = (((cs.length : Nat) : Int) + 1) % (n : Int) := Int.fmod_eq_emod_of_nonneg _ (by omega)
      rw [ii_eqv8, ef]
      refine q _ _ (s7.trans s8) ?_
      rw [Bool.and_eq_true, decide_eq_true_iff, decide_eq_true_iff]
      exact Iff.rfl
    | false =>
      refine ⟨_, rfl, false, rfl, iteF ?_⟩
      have okd : okOf false n cs c = okP cs c := rfl
      rw [okd] at q
      dsimp only [tNext]
      refine seq_mid (fun σ H1 => σ = [some (.ref Lk), some (.ref E0), some (.ref t), some (.bl false), some (.int (n : Nat))] ∧ Same H H1 ∧ cs.length < 120 ∧ ∀ d, cs.getLast? = some d → lt2 d c) (fun M hM => ?_) ?_
      · refine ⟨_, rfl, Lk, _, rfl, .inl (SqL.of hL), rfl, _, rfl, ?_⟩
        by_cases e120 : cs.length = 120
        · rw [show decide (V.int ((ks.length : Nat) : Int) = V.int 120) = true from decide_eq_true (by rw [← lk, e120]; rfl)]
          exact iteT (iteT (q H false (Same.refl H) ⟨fun z => (by cases z), fun z => by have := z.1; omega⟩))
        rw [show decide (V.int ((ks.length : Nat) : Int) = V.int 120) = false from decide_eq_false fun z => e120 (by injection z with z; omega)]
        refine iteF ⟨_, rfl, Lk, _, rfl, .inl (SqL.of hL), _, _, rfl, rfl, _, rfl, ?_⟩
        rcases List.eq_nil_or_concat cs with e0 | ⟨cs0, d, e0⟩
        · have : ks = [] := List.length_eq_zero_iff.mp (by rw [← lk, e0]; rfl)
          subst this
          exact iteF (iteF (hM _ _ ⟨rfl, Same.refl H, by omega, fun d hd => by rw [e0] at hd; cases hd⟩))
        · have e0 : cs = cs0 ++ [d] := by rw [e0, List.concat_eq_append]
          have gl : cs.getLast? = some d := by rw [e0, List.getLast?_append]; rfl
          have pk0 := pk
          rw [e0] at pk0
          obtain ⟨ks0, v, rfl, _, t2, rfl, ht2⟩ := pr_unsnoc pk0
          rw [show decide ((0 : Int) < (((ks0 ++ [V.ref t2]).length : Nat) : Int)) = true from decide_eq_true (by rw [List.length_append, List.length_singleton]; omega)]
          refine iteT ⟨_, rfl, _, rfl, Lk, _, _, _, rfl, rfl, SqL.of hL, atI_last ks0 _, _, rfl, t2, _, rfl, SqT.of ht2, cut32 _ _ _, fun pb npb => ?_⟩
          rw [cut27]
          obtain ⟨H7, e7⟩ : ∃ H7, H7 = upd H pb (.tup [.int d.1, .int d.2.1]) := ⟨_, rfl⟩
          have s7 : Same H H7 := by rw [e7]; exact Same.new npb
          have h7 : H7 pb = some (.tup [.int d.1, .int d.2.1]) := by rw [e7, upd_same]
          rw [← e7]
          refine ⟨_, rfl, _, rfl, t, _, rfl, SqT.of (s7 _ _ ht), cut32 _ _ _, fun pa npa => ?_⟩
          rw [cut27]
          have s8 : Same H7 (upd H7 pa (.tup [.int c.1, .int c.2.1])) := Same.new npa
          refine ⟨pb, pa, [d.1, d.2.1], [c.1, c.2.1], rfl, rfl, SqT.of (s8 _ _ h7), SqT.of upd_same, _, rfl, ?_⟩
          rw [lexg8]
          by_cases hlt : d.1 < c.1 ∨ (d.1 = c.1 ∧ d.2.1 < c.2.1)
          · rw [decide_eq_true hlt]
            exact iteF (hM _ _ ⟨rfl, s7.trans s8, by omega, fun d2 hd => by rw [gl] at hd; cases hd; exact hlt⟩)
          · rw [decide_eq_false hlt]
            exact iteT (q _ false (s7.trans s8) ⟨fun z => (by cases z), fun z => absurd (z.2.1 d gl) hlt⟩)
      rintro σ H1 ⟨rfl, s1, l119, hlast⟩
      have t0 : atI [V.int c.1, V.int c.2.1, V.int c.2.2] (0 : Int) = some (.int c.1) := atI_nat (j := 0) rfl
      have t1 : atI [V.int c.1, V.int c.2.1, V.int c.2.2] (1 : Int) = some (.int c.2.1) := atI_nat (j := 1) rfl
      refine ⟨_, rfl, _, rfl, t, _, _, _, rfl, rfl, SqT.of (s1 _ _ ht), t1, _, rfl, t, _, _, _, rfl, rfl, SqT.of (s1 _ _ ht), t0, ?_⟩
      refine ⟨E0, n, cs, c.2.1, c.1, rfl, EA.on8 s1, n40, ok, l120, ac rfl, c2, c3, fun H2 r s2 hr2 => ⟨_, rfl, q H2 (!r) (s1.trans s2) ?_⟩⟩
      have z := acyc_snoc (c := c) (ac rfl)
      constructor
      · intro h
        refine ⟨l119, hlast, z.mpr fun rd => ?_⟩
        rw [hr2.mpr rd] at h
        cases h
      · rintro ⟨_, _, h⟩
        have := z.mp h
        cases r with
        | true => exact absurd (hr2.mp rfl) this
        | false => rfl
end
end WC

set_option maxHeartbeats 8000000
namespace WC
open PySem PySem.Spec PyProof.Rows L2 SX
def outsOf (cs : List Tri) (s : Int) : List Int := (cs.filter fun c => decide (c.1 = s)).map fun c => c.2.1
/-- rows of ways out while they are filled -/
structure Fil8 (H H5 : Hp) (p Z D : Addr) (ls : List Addr) (rows0 : List (List Nat)) (n : Nat) (cs : List Tri) : Prop where
  same : Same H H5
  hp : H5 p = some (.lst (rowsT rows0))
  hz : ∃ ks, H5 Z = some (.lst ks) ∧ Paired (TriA H5) cs ks
  nZ : H Z = none
  nD : H D = none
  pZ : p ≠ Z
  pD : p ≠ D
  ZD : Z ≠ D
  dL : H5 D = some (.lst (ls.map V.ref))
  len : ls.length = n
  nod : ls.Nodup
  fresh : ∀ l ∈ ls, H l = none ∧ l ≠ D ∧ l ≠ Z ∧ l ≠ p
  rows : ∀ (j : Nat) l, ls[j]? = some l → H5 l = some (.lst ((outsOf cs (j : Int)).map V.int))
theorem Fil8.on {H H5 H6 : Hp} {p Z D : Addr} {ls : List Addr} {rows0 : List (List Nat)} {n : Nat} {cs : List Tri} (h : Fil8 H H5 p Z D ls rows0 n cs) (s : Same H5 H6) : Fil8 H H6 p Z D ls rows0 n cs := by
  obtain ⟨ks, a, b⟩ := h.hz
  exact ⟨h.same.trans s, s _ _ h.hp, ⟨ks, s _ _ a, tris_same s b⟩, h.nZ, h.nD, h.pZ, h.pD, h.ZD, s _ _ h.dL, h.len, h.nod, h.fresh, fun j l e => s _ _ (h.rows j l e)⟩
theorem Fil8.ends {H H5 : Hp} {p Z D : Addr} {ls : List Addr} {rows0 : List (List Nat)} {n : Nat} {cs : List Tri} (h : Fil8 H H5 p Z D ls rows0 n cs) : EndsAt H5 D n cs := ⟨ls, h.dL, h.len, fun s d e => h.rows s d e⟩
theorem outs_snoc {cs : List Tri} {c : Tri} {s : Int} (e : c.1 = s) : outsOf (cs ++ [c]) s = outsOf cs s ++ [c.2.1] := by
  unfold outsOf
  rw [List.filter_append, List.map_append, List.filter_cons, if_pos (decide_eq_true e)]
  rfl
theorem outs_miss {cs : List Tri} {c : Tri} {s : Int} (e : c.1 ≠ s) : outsOf (cs ++ [c]) s = outsOf cs s := by
  unfold outsOf
  rw [List.filter_append, List.map_append, List.filter_cons, if_neg (by simp [e])]
  simp
theorem okOf_len {ring : Bool} {n : Nat} {rows : List (List Nat)} {cs : List Tri} (h : Rds (okOf ring n) n rows cs) (n40 : n ≤ 40) : cs.length ≤ 120 := by
  cases ring with
  | true => have := Rds.le_ring (show Rds (okR n) n rows cs from h); omega
  | false => exact Rds.len120 (show Rds okP n rows cs from h)
theorem okOf_ac {n : Nat} {rows : List (List Nat)} {cs : List Tri} (h : Rds (okOf false n) n rows cs) (n40 : n ≤ 40) : Acyc cs := (Rds.lk n40 (show Rds okP n rows cs from h)).acyc
def spRead8 : Sp := fun vs H Q _ => ∃ l : List Nat, vs = [.str (S l)] ∧ asc l = true ∧ l.length ≤ 1000000 ∧ (∀ ring n cs, NetGood l ring n cs → n ≤ 40 → cs.length ≤ 120 → ∀ R W L ws H2, Same H H2 → H R = none → H W = none → H L = none → H2 R = some (.lst [.int 0, .ref W]) → H2 W = some (.lst [.int n, .ref L, .bl ring]) → H2 L = some (.lst ws) → Paired (TriA H2) cs ws → Q (.ref R) H2) ∧ (∀ k, NetBad l k → 0 < k → ∀ R H2, Same H H2 → H R = none → H2 R = some (.lst [.int k, .non]) → Q (.ref R) H2)
section
variable {P : Program} {w : World} {K : PySem.W.Frag} {mg : Str → Option Value} {base : Heap}
theorem ok_read8 {f : Addr} {fd : FuncData} (F : Fun K "_law_read" "_law_read" s_law_read f fd) (B : Blt mg) (g_law_number : DefR P w K mg base "_law_number" 1 spLN8) (g_law_link : DefR P w K mg base "_law_link" 2 spLink8) (g_law_fits : DefR P w K mg base "_law_fits" 2 spFits8) : FnOk P w K mg base (L2.CX P w) 3 f fd ["text"] spRead8 := by
  refine F.okX sc_law_read (fun vs H Q E h => ?_) (fun cdv A outer s H vs Q E hr h => ?_)
  · obtain ⟨l, rfl, _⟩ := h
    rfl
  · obtain ⟨l, rfl, ha, hz, q1, q0⟩ := h
    -- slots: 0 text, 1 lines, 2 words, 3 ring, 4 count, 5 links, 6 ends, 7 k, 8 link
    refine ⟨_, (pss_cons (ps_set (i := 1) sc_law_read.nd rfl (Or.inl rfl) (pe_split (pv 0) pe_str))
      (pss_cons (ps_set (i := 2) sc_law_read.nd rfl (Or.inl rfl) (pe_split (pe_ix ix_list (pv 1) pe_int (fun _ _ => rfl)) pe_str))
      (pss_cons (ps_set (i := 3) sc_law_read.nd rfl (Or.inl rfl) (pe_cmpR op_eq (pe_ix ix_list (pv 2) pe_int (fun _ _ => rfl)) pe_str (nomark _)))
      (pss_cons (ps_if (PW.pt (pw_or (pt_cmpR op_ne (pe_callB call_len_seq (by rfl) B.len bt_len (pa_cons (pv 2) pa_nil)) pe_int (nomark _)) (pw_or1 (PW.pt (pw_and (pt_cmpR op_ne (pe_ix ix_list (pv 2) pe_int (fun _ _ => rfl)) pe_str (nomark _)) (pw_and1 (pt_not (pt_val (pv 3))))))))) (pss_one (ps_ret (pe_lst (pa_cons pe_int (pa_cons pe_non pa_nil))))) pss_nil)
      (pss_cons (ps_set (i := 4) sc_law_read.nd rfl (Or.inl rfl) (pe_cd g_law_number hr psE (pa_cons (pe_ix ix_list (pv 2) pe_int (fun _ _ => rfl)) (pa_cons (pe_ifExp (pt_val (pv 3)) pe_int pe_int) (pa_cons pe_int pa_nil)))))
      (pss_cons (ps_if (pt_cmpR op_lt (pv 4) pe_int (nomark _)) (pss_one (ps_ret (pe_lst (pa_cons pe_int (pa_cons pe_non pa_nil))))) pss_nil)
      (pss_cons (ps_set (i := 5) sc_law_read.nd rfl (Or.inl rfl) (pe_lst pa_nil))
      (pss_cons (ps_setLc (i := 6) (own := [("k", 7)]) rfl sc_law_read.nd rfl rfl (sw_true rfl rfl rfl (by decide +kernel)) (pi_range1 (by rfl) B.range (pa_cons (pv 4) pa_nil)) (blkOk_by (N := nn_law_read) (sc := defScope s_law_read) (own := [("k", 7)]) (by decide +kernel)) (fun _ _ _ _ _ => (pg_name (i := 7) sc_law_read.nd rfl (Or.inl rfl))) (fun _ _ _ _ _ => pts_nil) (fun _ _ _ _ _ => (pe_lst pa_nil)))
      (pss_cons (ps_for (passes_of rfl) rfl (pi_range2 (by rfl) B.range (pa_cons pe_int (pa_cons (pe_callB call_len_seq (by rfl) B.len bt_len (pa_cons (pv 1) pa_nil)) pa_nil))) (pg_name (i := 7) sc_law_read.nd rfl (Or.inl rfl))
        (pss_cons (ps_set (i := 8) sc_law_read.nd rfl (Or.inl rfl) (pe_cd g_law_link hr psE (pa_cons (pe_ix ix_list (pv 1) (pv 7) (fun _ _ => rfl)) (pa_cons (pv 4) pa_nil))))
      (pss_cons (ps_if (PW.pt (pw_or (pt_cmpR op_isN (pv 8) pe_non (nomark _)) (pw_or1 (pt_not (pt_val (pe_cd g_law_fits hr psE (pa_cons (pv 5) (pa_cons (pv 6) (pa_cons (pv 8) (pa_cons (pv 3) pa_nil)))))))))) (pss_one (ps_ret (pe_lst (pa_cons (pe_op op_add (pv 7) pe_int) (pa_cons pe_non pa_nil))))) pss_nil)
      (pss_cons (ps_expr (pe_bm PySem.F.plainAttrs_list PySem.F.slot_list_append PySem.F.type_list_append mt_append (pv 5) (pa_cons (pv 8) pa_nil)))
      (pss_one (ps_expr (pe_bm PySem.F.plainAttrs_list PySem.F.slot_list_append PySem.F.type_list_append mt_append (pe_ix ix_list (pv 6) (pe_ix ix_tup (pv 8) pe_int (fun _ _ => rfl)) (fun _ _ => rfl)) (pa_cons (pe_ix ix_tup (pv 8) pe_int (fun _ _ => rfl)) pa_nil))))))))
      (pss_cons (ps_if (PW.pt (pw_and (pt_val (pv 3)) (pw_and1 (pt_cmpR op_lt (pe_callB call_len_seq (by rfl) B.len bt_len (pa_cons (pv 5) pa_nil)) (pv 4) (nomark _))))) (pss_one (ps_ret (pe_lst (pa_cons (pe_op op_add (pe_callB call_len_seq (by rfl) B.len bt_len (pa_cons (pv 1) pa_nil)) pe_int) (pa_cons pe_non pa_nil))))) pss_nil)
      (pss_one (ps_ret (pe_lst (pa_cons pe_int (pa_cons (pe_lst (pa_cons (pv 4) (pa_cons (pv 5) (pa_cons (pv 3) pa_nil)))) pa_nil))))))))))))))), ?_⟩
    refine ⟨_, rfl, ⟨_, rfl⟩, _, _, rfl, rfl, rfl, line8 (by rw [S_len]; omega), fun p np => ?_⟩
    rw [split10]
    have pcs := spl1_asc (s := 10) ha
    have pl := spl1_len (s := 10) l []
    obtain ⟨h, rows, eL⟩ := spl_ne l
    rw [eL] at pcs pl
    rw [eL]
    have rl : rows.length ≤ 1000000 := by rw [List.length_cons] at pl; omega
    have hh := pcs h List.mem_cons_self
    obtain ⟨H1, e1⟩ : ∃ H1, H1 = upd H p (.lst (rowsT (h :: rows))) := ⟨_, rfl⟩
    have s1 : Same H H1 := by rw [e1]; exact Same.new np
    have h1 : H1 p = some (.lst (rowsT (h :: rows))) := by rw [e1, upd_same]
    have e1 : H1 = upd H p (.lst ((((h :: rows)).map S).map V.str)) := e1
    rw [← e1]
    dsimp only [gName]
    have w0 : atI (rowsT (h :: rows)) (0 : Int) = some (.str (S h)) := atI_nat (j := 0) rfl
    refine ⟨_, rfl, p, _, _, _, rfl, rfl, SqL.of h1, w0, ⟨_, rfl⟩, _, _, rfl, rfl, rfl, line8 (by rw [S_len]; omega), fun W nW => ?_⟩
    rw [split32]
    have qcs := spl1_asc (s := 32) hh.1
    have eH : headP h = headW (TL.spl [32] 0 [] h) := rfl
    have wne : TL.spl [32] 0 [] h ≠ [] := by
      cases e : TL.par [32] [] h with
      | none => rw [(par_spl h []).1 e]; intro z; cases z
      | some z => rw [(par_spl h []).2 z.1 z.2 e]; intro z; cases z
    generalize TL.spl [32] 0 [] h = ws at qcs eH wne ⊢
    obtain ⟨a, rest, rfl⟩ : ∃ a rest, ws = a :: rest := by
      cases ws with
      | nil => exact absurd rfl wne
      | cons a r => exact ⟨a, r, rfl⟩
    obtain ⟨H2, e2⟩ : ∃ H2, H2 = upd H1 W (.lst ((((a :: rest)).map S).map V.str)) := ⟨_, rfl⟩
    have s2 : Same H1 H2 := by rw [e2]; exact Same.new nW
    have h2 : H2 W = some (.lst (rowsT (a :: rest))) := by rw [e2, upd_same]; rfl
    rw [← e2]
    have s02 := s1.trans s2
    have v0 : atI (rowsT (a :: rest)) (0 : Int) = some (.str (S a)) := atI_nat (j := 0) rfl
    dsimp only [gName]
    refine ⟨_, rfl, W, _, _, _, rfl, rfl, SqL.of h2, v0, rfl, ?_⟩
    rw [str_dec a "ring" (cl "ring") (ofS "ring")]
    obtain ⟨ring, er⟩ : ∃ ring, ring = decide (a = cl "ring") := ⟨_, rfl⟩
    rw [← er]
    have bad : headP h = none → ∀ R H3, Same H H3 → H R = none → H3 R = some (.lst [.int 1, .non]) → Q (.ref R) H3 := fun z => q0 1 ⟨h, rows, eL, .inl ⟨z, rfl⟩⟩ (by decide)
    have bad2 : ∀ {k v : Int}, NetBad l k → 0 < k → v = k → ∀ {R : Addr} {H3 : Hp}, Same H H3 → H3 R = none → Q (.ref R) (upd H3 R (.lst [.int v, .non])) := fun {k v} nb k0 e {R H3} s nR => by
      subst e
      exact q0 _ nb k0 R _ (s.trans (Same.new nR)) (s.free nR) upd_same
    have bad := fun z {R H3} => bad2 (k := 1) (v := 1) ⟨h, rows, eL, .inl ⟨z, rfl⟩⟩ (by decide) rfl (R := R) (H3 := H3)
    dsimp only [gName]
    refine seq_mid (fun σ H3 => ∃ d, σ = [some (.str (S l)), some (.ref p), some (.ref W), some (.bl ring), none, none, none, none, none] ∧ H3 = H2 ∧ rest = [d] ∧ (a = cl "ring" ∨ a = cl "pipeline")) (fun M hM => ?_) ?_
    · refine ⟨_, rfl, W, _, rfl, .inl (SqL.of h2), rfl, _, rfl, ?_⟩
      rw [rowsT_len]
      by_cases w2 : (a :: rest).length = 2
      case neg =>
        have e : headP h = none := by
          rw [eH]
          match rest, w2 with
          | [], _ => rfl
          | [_], w2 => exact absurd rfl w2
          | _ :: _ :: _, _ => rfl
        rw [show decide (V.int (((a :: rest).length : Nat) : Int) = V.int 2) = false from decide_eq_false fun z => w2 (by injection z with z; omega)]
        exact iteT (iteT ⟨by show 2 ≤ sizeLine; decide, fun R nR => bad e s02 nR⟩)
      rw [show decide (V.int (((a :: rest).length : Nat) : Int) = V.int 2) = true from decide_eq_true (by rw [w2]; rfl)]
      obtain ⟨d, rfl⟩ : ∃ d, rest = [d] := by
        match rest, w2 with
        | [d], _ => exact ⟨d, rfl⟩
      refine iteF ⟨_, rfl, W, _, _, _, rfl, rfl, SqL.of h2, v0, rfl, _, rfl, ?_⟩
      rw [str_dec a "pipeline" (cl "pipeline") (ofS "pipeline")]
      by_cases ap : a = cl "pipeline"
      · rw [decide_eq_true ap]
        exact iteF (iteF (hM _ _ ⟨d, rfl, rfl, rfl, .inr ap⟩))
      rw [decide_eq_false ap]
      refine iteT ⟨_, rfl, ring, rfl, ?_⟩
      by_cases ar : a = cl "ring"
      · rw [er, decide_eq_true ar]
        rw [decide_eq_true ar] at er
        exact iteF (hM _ _ ⟨d, by rw [er]; rfl, rfl, rfl, .inl ar⟩)
      · rw [er, decide_eq_false ar]
        have e : headP h = none := by
          rw [eH]
          show (if a = cl "ring" then (numP 3 40 d).map (fun i => (true, i)) else if a = cl "pipeline" then (numP 1 40 d).map (fun i => (false, i)) else none) = none
          rw [if_neg ar, if_neg ap]
        exact iteT ⟨by show 2 ≤ sizeLine; decide, fun R nR => bad e s02 nR⟩
    rintro σ H3 ⟨d, rfl, rfl, rfl, ea⟩
    have v1 : atI (rowsT [a, d]) (1 : Int) = some (.str (S d)) := atI_nat (j := 1) rfl
    have hd := qcs d (by simp)
    have hdl : d.length ≤ 2000000 := by have := hh.2; omega
    obtain ⟨o, eo, ho⟩ : ∃ o, o = numP (if ring = true then 3 else 1) 40 d ∧ headP h = o.map (fun i => (ring, i)) := by
      refine ⟨_, rfl, ?_⟩
      rw [eH]
      show (if a = cl "ring" then (numP 3 40 d).map (fun i => (true, i)) else if a = cl "pipeline" then (numP 1 40 d).map (fun i => (false, i)) else none) = _
      by_cases ar : a = cl "ring"
      · rw [er, if_pos ar, decide_eq_true ar, if_pos rfl]
      · have ap : a = cl "pipeline" := ea.resolve_left ar
        rw [er, if_neg ar, if_pos ap, decide_eq_false ar, if_neg (by decide)]
    refine seq_mid (fun σ H4 => σ = [some (.str (S l)), some (.ref p), some (.ref W), some (.bl ring), some (.int (negV o)), none, none, none, none] ∧ H4 = H3) (fun M hM => ?_) ?_
    · refine ⟨_, rfl, W, _, _, _, rfl, rfl, SqL.of h2, v1, _, rfl, ring, rfl, ?_⟩
      cases ring with
      | true => exact iteT ⟨d, 3, 40, rfl, hd.1, line8 hdl, hM _ _ ⟨by rw [eo]; rfl, rfl⟩⟩
      | false => exact iteF ⟨d, 1, 40, rfl, hd.1, line8 hdl, hM _ _ ⟨by rw [eo]; rfl, rfl⟩⟩
    rintro σ H4 ⟨rfl, rfl⟩
    refine ⟨_, rfl, _, _, rfl, rfl, _, rfl, ?_⟩
    cases o with
    | none => exact iteT ⟨by show 2 ≤ sizeLine; decide, fun R nR => bad ho s02 nR⟩
    | some i =>
    have eh : headP h = some (ring, i) := ho
    obtain ⟨b1, b2⟩ := headP_rng eh
    obtain ⟨n, rfl⟩ : ∃ n : Nat, i = n := ⟨i.toNat, by split at b1 <;> omega⟩
    have n1 : 1 ≤ n := by split at b1 <;> omega
    have n40 : n ≤ 40 := by omega
    rw [show decide (negV (some (n : Int)) < 0) = false from decide_eq_false (by show ¬ (n : Int) < 0; omega)]
    refine iteF ?_
    dsimp only [tNext]
    refine ⟨by show 0 ≤ sizeLine; decide, fun Z nZ => ?_⟩
    dsimp only [gName]
    have nZH := s02.free nZ
    have s3 := s02.trans (Same.new (o := .lst []) nZ)
    have pZ : p ≠ Z := ne_of_none (s2 _ _ h1) nZ
    refine ⟨_, rfl, (n : Int), rfl, by omega, by omega, fun D hD => lc_range (lo := 0) (n := n) (fun i H5 => ∃ ls, Fil8 H H5 p Z D ls (h :: rows) i []) ⟨[], ?_⟩ ?_ ?_⟩
    · have ZD : Z ≠ D := ne_of_none upd_same hD
      have pD : p ≠ D := ne_of_none (by rw [upd_ne pZ]; exact s2 _ _ h1) hD
      exact ⟨s3.trans (Same.new hD), by rw [upd_ne pD, upd_ne pZ]; exact s2 _ _ h1, ⟨[], by rw [upd_ne ZD, upd_same], .nil⟩, nZH, s3.free hD, pZ, pD, ZD, upd_same, rfl, List.nodup_nil, fun _ z => (by cases z), fun j l e => (by cases e)⟩
    · rintro i H5 hi ⟨ls, Fl⟩
      refine ⟨rfl, yes ⟨by decide, fun q hq => ⟨ls.map V.ref, ?_, ?_, ls ++ [q], ?_⟩⟩⟩
      · rw [upd_ne (ne_of_none Fl.dL hq)]
        exact Fl.dL
      · rw [List.length_map, Fl.len]
        exact line_lt (by omega)
      · have qH : H q = none := Fl.same.free hq
        have qD : q ≠ D := (ne_of_none Fl.dL hq).symm
        obtain ⟨ks, k1, k2⟩ := Fl.hz
        have qZ : q ≠ Z := (ne_of_none k1 hq).symm
        have qp : q ≠ p := (ne_of_none Fl.hp hq).symm
        refine ⟨(Fl.same.newer qH).newer Fl.nD, ?_, ⟨ks, ?_, ?_⟩, Fl.nZ, Fl.nD, Fl.pZ, Fl.pD, Fl.ZD, by rw [upd_same, List.map_append]; rfl, by rw [List.length_append, Fl.len]; rfl, ?_, ?_, ?_⟩
        · rw [upd_ne Fl.pD, upd_ne qp.symm]
          exact Fl.hp
        · rw [upd_ne Fl.ZD, upd_ne qZ.symm]
          exact k1
        · cases k2
          exact .nil
        · rw [List.nodup_append]
          refine ⟨Fl.nod, by simp, fun x hx y hy e => ?_⟩
          rw [List.mem_singleton.mp hy] at e
          obtain ⟨j, hj⟩ := List.mem_iff_getElem?.mp hx
          have z := Fl.rows j x hj
          rw [e, hq] at z
          cases z
        · intro l2 m2
          rcases List.mem_append.mp m2 with m2 | m2
          · exact Fl.fresh l2 m2
          · rw [List.mem_singleton.mp m2]
            exact ⟨qH, qD, qZ, qp⟩
        · intro j l2 e
          by_cases hj : j < ls.length
          · rw [List.getElem?_append_left hj] at e
            have z := Fl.rows j l2 e
            rw [upd_ne (Fl.fresh l2 (List.mem_of_getElem? e)).2.1, upd_ne (ne_of_none z hq)]
            exact z
          · rw [List.getElem?_append_right (by omega)] at e
            have e1 : l2 = q := by
              cases q2 : j - ls.length with
              | zero => rw [q2] at e; exact (Option.some.inj e).symm
              | succ m => rw [q2] at e; cases e
            rw [e1, upd_ne qD, upd_same]
            rfl
    rintro H5 ⟨ls0, Fl0⟩
    have lr : (rowsT (h :: rows)).length = rows.length + 1 := by rw [rowsT_len]; rfl
    dsimp only [gName]
    refine seq_mid (fun σ H6 => ∃ v7 v8 cs ls, σ = [some (.str (S l)), some (.ref p), some (.ref W), some (.bl ring), some (.int (n : Nat)), some (.ref Z), some (.ref D), v7, v8] ∧ Fil8 H H6 p Z D ls (h :: rows) n cs ∧ Rds (okOf ring n) n rows cs) (fun M hM => ?_) ?_
    · refine ⟨_, rfl, p, _, rfl, .inl (SqL.of Fl0.hp), (1 : Int), (((rowsT (h :: rows)).length : Nat) : Int), rfl, by omega, for_it walk_range (fun i σ H6 => ∃ v7 v8 cs ls, σ = [some (.str (S l)), some (.ref p), some (.ref W), some (.bl ring), some (.int (n : Nat)), some (.ref Z), some (.ref D), v7, v8] ∧ Fil8 H H6 p Z D ls (h :: rows) n cs ∧ Rds (okOf ring n) n (rows.take i) cs) ⟨_, _, [], ls0, rfl, Fl0, by rw [List.take_zero]; exact Rds.nil⟩ (fun _ _ _ _ _ => trivial) ?_ ?_⟩
      · rintro i y σ H6 H7 hi ⟨v7, v8, cs, ls, rfl, Fl, rd⟩ ⟨rfl, ey⟩
        have hi : i < ((((rowsT (h :: rows)).length : Nat) : Int) - 1).toNat := hi
        rw [lr] at hi
        have hi : i < rows.length := by omega
        have ey : y = .int (1 + (i : Nat)) := ey
        subst ey
        obtain ⟨l2, hl2⟩ : ∃ l2, rows[i]? = some l2 := ⟨_, List.getElem?_eq_getElem hi⟩
        have at2 : atI (rowsT (h :: rows)) (1 + (i : Nat)) = some (.str (S l2)) := by
          rw [show (1 : Int) + (i : Nat) = ((i + 1 : Nat) : Int) by omega]
          refine atI_nat (j := i + 1) ?_
          unfold rowsT
          rw [List.getElem?_map, List.getElem?_map, List.getElem?_cons_succ, hl2]
          rfl
        have hl := pcs l2 (List.mem_cons_of_mem _ (List.mem_of_getElem? hl2))
        have l120 := okOf_len rd n40
        have lcs : cs.length = i := by
          rw [← rd.len, List.length_take]
          omega
        have badk : (∀ c, chanP n l2 = some c → ¬ okOf ring n cs c) → ∀ {R : Addr} {H3 : Hp}, Same H H3 → H3 R = none → Q (.ref R) (upd H3 R (.lst [.int (1 + (i : Nat) + 1), .non])) := fun z {R H3} => bad2 (k := (i : Nat) + 2) ⟨h, rows, eL, .inr ⟨ring, n, eh, .inl ⟨i, ⟨cs, l2, rd, hl2, z⟩, rfl⟩⟩⟩ (by omega) (by omega)
        refine ⟨_, rfl, _, rfl, p, _, _, _, rfl, rfl, SqL.of Fl.hp, at2, _, rfl, n, l2, rfl, hl.1, by omega, ?_⟩
        refine ⟨fun en H8 s8 => ?_, fun c ec t H8 s8 ht => ?_⟩
        · dsimp only [gName]
          exact ⟨_, rfl, rfl, _, rfl, iteT (iteT ⟨_, rfl, _, _, rfl, rfl, by show 2 ≤ sizeLine; decide, fun R nR => badk (fun c z => by rw [en] at z; cases z) (Fl.same.trans s8) nR⟩)⟩
        have hc := chan_ok ec
        have Fl8 := Fl.on s8
        obtain ⟨ks, hZ8, pk8⟩ := Fl8.hz
        have lk := pk8.length
        dsimp only [gName]
        refine ⟨_, rfl, rfl, _, rfl, iteF ⟨_, rfl, _, rfl, _, rfl, _, rfl, Z, D, t, ring, n, cs, c, ks, rfl, hZ8, pk8, Fl8.ends, ht, hc, n1, n40, rd.ch, l120, fun e => okOf_ac (by rw [← e]; exact rd) n40, fun H9 r s9 hr9 => ⟨r, rfl, ?_⟩⟩⟩
        cases r with
        | false => exact iteT ⟨_, rfl, _, _, rfl, rfl, by show 2 ≤ sizeLine; decide, fun R nR => badk (fun d z y => by rw [ec] at z; cases z; have := hr9.mpr y; cases this) (Fl8.same.trans s9) nR⟩
        | true =>
        have good := hr9.mp rfl
        have Fl9 := Fl8.on s9
        have hZ9 := s9 _ _ hZ8
        have pk9 := tris_same s9 pk8
        have ht9 := s9 _ _ ht
        have t0 : atI [V.int c.1, V.int c.2.1, V.int c.2.2] (0 : Int) = some (.int c.1) := atI_nat (j := 0) rfl
        have t1 : atI [V.int c.1, V.int c.2.1, V.int c.2.2] (1 : Int) = some (.int c.2.1) := atI_nat (j := 1) rfl
        have rd2 := rd.snoc hl2 ec good
        refine iteF ⟨_, rfl, .inl ⟨rfl, _, SqL.of hZ9⟩, _, rfl, Z, _, _, rfl, rfl, hZ9, line_lt (by omega), ?_⟩
        obtain ⟨j, hj⟩ : ∃ j : Nat, c.1 = (j : Int) := ⟨c.1.toNat, by have := hc.1.1; omega⟩
        have hjn : j < ls.length := by rw [Fl.len]; have := hc.1.2; omega
        have hlj : ls[j]? = some ls[j] := List.getElem?_eq_getElem hjn
        generalize hd : ls[j] = d at hlj
        have rj := Fl9.rows j d hlj
        obtain ⟨f0, fD, fZ, fp⟩ := Fl9.fresh d (List.mem_of_getElem? hlj)
        have tZ : t ≠ Z := ne_of ht9 hZ9 (by intro z; cases z)
        have td : t ≠ d := ne_of ht9 rj (by intro z; cases z)
        have rjA : upd H9 Z (.lst (ks ++ [.ref t])) d = some (.lst ((outsOf cs (j : Int)).map V.int)) := by rw [upd_ne fZ]; exact rj
        have htA : upd H9 Z (.lst (ks ++ [.ref t])) t = some (.tup [V.int c.1, V.int c.2.1, V.int c.2.2]) := by rw [upd_ne tZ]; exact ht9
        have olen : (outsOf cs (j : Int)).length ≤ cs.length := by
          unfold outsOf
          rw [List.length_map]
          exact List.length_filter_le _ _
        refine ⟨_, rfl, _, rfl, t, _, _, _, rfl, rfl, SqT.of htA, t0, D, _, _, .ref d, rfl, rfl, SqL.of (by rw [upd_ne Fl9.ZD.symm]; exact Fl9.dL), ?_, ?_⟩
        · rw [hj]
          exact atI_nat (by rw [List.getElem?_map, hlj]; rfl)
        refine ⟨.inl ⟨rfl, _, SqL.of rjA⟩, _, rfl, t, _, _, _, rfl, rfl, SqT.of htA, t1, d, _, _, rfl, rfl, rjA, by rw [List.length_map]; exact line_lt (by omega), ?_⟩
        have nA : ∀ {b : Addr} {xs : List V}, H9 b = some (.tup xs) → upd (upd H9 Z (.lst (ks ++ [.ref t]))) d (.lst ((outsOf cs (j : Int)).map V.int ++ [.int c.2.1])) b = some (.tup xs) := fun {b xs} e => by
          rw [upd_ne (ne_of e rj (by intro z; cases z)), upd_ne (ne_of e hZ9 (by intro z; cases z))]
          exact e
        refine ⟨_, _, cs ++ [c], ls, rfl, ⟨(Fl9.same.newer Fl9.nZ).newer f0, ?_, ⟨ks ++ [.ref t], ?_, ?_⟩, Fl9.nZ, Fl9.nD, Fl9.pZ, Fl9.pD, Fl9.ZD, ?_, Fl9.len, Fl9.nod, Fl9.fresh, fun q l3 e => ?_⟩, rd2⟩
        · rw [upd_ne fp.symm, upd_ne Fl9.pZ]
          exact Fl9.hp
        · rw [upd_ne fZ.symm, upd_same]
        · exact pr_snoc (Paired.mapP pk9 fun a v ⟨b, e1, e2⟩ => ⟨b, e1, nA e2⟩) ⟨t, rfl, nA ht9⟩
        · rw [upd_ne fD.symm, upd_ne Fl9.ZD.symm]
          exact Fl9.dL
        · by_cases hq : q = j
          · subst hq
            rw [hlj] at e
            cases e
            rw [upd_same, outs_snoc hj, List.map_append]
            rfl
          · have ne : l3 ≠ d := fun z => hq ((List.getElem?_inj (by have := (List.getElem?_eq_some_iff.mp e).1; omega) Fl9.nod).mp (by rw [e, hlj, z]))
            have z := Fl9.rows q l3 e
            rw [upd_ne ne, upd_ne (Fl9.fresh l3 (List.mem_of_getElem? e)).2.2.1, outs_miss (by rw [hj]; omega)]
            exact z
      · rintro σ H6 ⟨v7, v8, cs, ls, rfl, Fl, rd⟩
        refine hM _ _ ⟨v7, v8, cs, ls, rfl, Fl, ?_⟩
        have e : ((((rowsT (h :: rows)).length : Nat) : Int) - 1).toNat = rows.length := by rw [lr]; omega
        have rd : Rds (okOf ring n) n (rows.take ((((rowsT (h :: rows)).length : Nat) : Int) - 1).toNat) cs := rd
        rw [e, List.take_length] at rd
        exact rd
    rintro σ H6 ⟨v7, v8, cs, ls, rfl, Fl, rd⟩
    obtain ⟨ks, hZ6, pk6⟩ := Fl.hz
    have lk := pk6.length
    have l120 := okOf_len rd n40
    have fin : NetGood l ring n cs → ∀ {W2 R : Addr} (nW2 : H6 W2 = none) (nR : upd H6 W2 (.lst [.int (n : Nat), .ref Z, .bl ring]) R = none), Q (.ref R) (upd (upd H6 W2 (.lst [.int (n : Nat), .ref Z, .bl ring])) R (.lst [.int 0, .ref W2])) := fun g {W2 R} nW2 nR => by
      have sA : Same H6 (upd H6 W2 (.lst [.int (n : Nat), .ref Z, .bl ring])) := Same.new nW2
      have sB : Same (upd H6 W2 (.lst [.int (n : Nat), .ref Z, .bl ring])) (upd (upd H6 W2 (.lst [.int (n : Nat), .ref Z, .bl ring])) R (.lst [.int 0, .ref W2])) := Same.new nR
      exact q1 ring n cs g n40 l120 R W2 Z ks _ (Fl.same.trans (sA.trans sB)) (Fl.same.free (sA.free nR)) (Fl.same.free nW2) Fl.nZ upd_same (sB _ _ upd_same) ((sA.trans sB) _ _ hZ6) (tris_same (sA.trans sB) pk6)
    cases ring with
    | true =>
      refine ⟨_, rfl, true, rfl, iteT ⟨_, rfl, Z, _, rfl, .inl (SqL.of hZ6), _, rfl, _, _, rfl, rfl, _, rfl, ?_⟩⟩
      rw [← lk]
      have li := Rds.le_ring (show Rds (okR n) n rows cs from rd)
      by_cases hlt : cs.length < n
      · rw [show decide (((cs.length : Nat) : Int) < (n : Int)) = true from decide_eq_true (by omega)]
        refine iteT ⟨_, rfl, p, _, rfl, .inl (SqL.of Fl.hp), _, _, rfl, rfl, by show 2 ≤ sizeLine; decide, fun R nR => ?_⟩
        exact bad2 ⟨h, rows, eL, .inr ⟨true, n, eh, .inr ⟨rfl, cs, rd, hlt, rfl⟩⟩⟩ (by omega) (by rw [lr]; omega) Fl.same nR
      · rw [show decide (((cs.length : Nat) : Int) < (n : Int)) = false from decide_eq_false (by omega)]
        refine iteF ⟨_, rfl, _, rfl, _, rfl, by show 3 ≤ sizeLine; decide, fun W2 nW2 => ⟨by show 2 ≤ sizeLine; decide, fun R nR => fin ⟨h, rows, eL, eh, rd, fun _ => by omega⟩ nW2 nR⟩⟩
    | false =>
      exact ⟨_, rfl, false, rfl, iteF ⟨_, rfl, _, rfl, _, rfl, by show 3 ≤ sizeLine; decide, fun W2 nW2 => ⟨by show 2 ≤ sizeLine; decide, fun R nR => fin ⟨h, rows, eL, eh, rd, fun z => by cases z⟩ nW2 nR⟩⟩⟩
end
end WC

set_option maxHeartbeats 8000000
namespace WC
open PySem PySem.Spec PyProof.Rows L2 SX
def tCdS (sp : Sp) (E : L2.St → XK) (t : L2.TA) : TE := fun σ H Q => t σ H fun vs H1 => sp vs H1 Q (E σ)
theorem pe_cdS {X : Cx} {j k : Nat} {sp : Sp} {W : WX} {x : Str} {e : Expr} {es : List Expr} {t : L2.TA} {p pos : Pos} (D : DefR X.prog X.w X.K X.mg X.base x k sp) (hr : Room j X.A) (tk : Takes X W) (ha : PA X (e :: es) t) (hle : k ≤ j := by decide) (hg : Gl X x := by rfl) (hdb : (x == ("__debug__" : Str)) = false := by decide)
    (he : starEach (e :: es) X.env = (false, eval e X.env) :: starEach es X.env := by rfl) (hpl : (backTo pos (starEach es X.env)).any (·.1) = false := by rfl) : PE X (.Call (.Name x p) (e :: es) [] pos) (tCdS sp (WE W) t) := by
  obtain ⟨f, hm, hk, F⟩ := D.ex
  refine ⟨fun pins s σ H Q I h => wpAny_Call_Name_kw (ld_glob I hg hm ?_ hdb)⟩
  refine PySem.W.callWith_K (h₀ := X.base) I.ok.mod.kin hk (thn (ha.run pos pins s σ H _ I h) fun us s1 ⟨vs, H1, I1, r, q⟩ => ⟨I1.kIn, wpAny_call ?_⟩) he hpl
  refine codeAny_mono (F X.A X.stack s1 H1 us vs Q (WE W σ) (hr.mono hle) I1.env0 r q) fun rr s' hq => ?_
  cases rr with
  | error er => exact passAt tk σ pins H1 s1 er s' I1 hq
  | ok fl =>
    cases fl with
    | ret u => exact I1.after hq
    | next => exact False.elim hq
    | brk => exact False.elim hq
    | cont => exact False.elim hq
theorem bt_verr : bootBuiltins "ValueError" = some (.type "ValueError") := by decide +kernel
def spRing1 (CS : List Addr) (b : Bool) : Sp := fun vs H Q _ => ∃ x : Addr, vs = [.ref x] ∧ Q (.bl b) H
structure Ref8 (K : PySem.W.Frag) (mg : Str → Option Value) (CW CN CM CI CX CT : Addr) : Prop where
  gW : mg "WithinCallError" = some (.ref CW)
  gN : mg "NotFound" = some (.ref CN)
  gM : mg "InvalidMove" = some (.ref CM)
  gX : mg "InvalidState" = some (.ref CX)
  gI : mg "InvalidNet" = some (.ref CI)
  gT : mg "InvalidText" = some (.ref CT)
  tW : PySem.W.exmOne K (.ref CT) (.ref CW) = some true
  tE : PySem.W.exmOne K (.ref CT) (.ref CT) = some true
  tc : ExcC K CT
  tf : XfC K CT
  tT : PySem.W.kitOne K (.ref CT) (.ref CT) = some true
  tX : PySem.W.kitOne K (.ref CT) (.ref CX) = some false
  tM : PySem.W.kitOne K (.ref CT) (.ref CM) = some false
  tV : PySem.W.kitOne K (.ref CT) (.type "ValueError") = some true
  tA : PySem.W.kitAny K (.ref CT) [.ref CM, .ref CI, .ref CX, .ref CN] = some false
  line : PySem.W.findIn K (.ref CT) "line" = some none
theorem tri_rows {H : Hp} {cs : List Tri} {us : List V} (h : Paired (TriA H) cs us) : Paired (RowV H) (cs.map fun c => [V.int c.1, .int c.2.1, .int c.2.2]) us := by
  induction h with
  | nil => exact .nil
  | cons a _ ih => exact .cons a ih
def spRef8 : Sp := fun vs H Q _ => ∃ l : List Nat, vs = [.str (S l)] ∧ asc l = true ∧ l.length ≤ 900000 ∧ ∀ H2, Same H H2 → Q (.bl true) H2
section
variable {P : Program} {w : World} {K : PySem.W.Frag} {mg : Str → Option Value} {base : Heap}
theorem ok_P_is_ring {f : Addr} {CS : List Addr} {fd : FuncData} (F : Fun K "is_ring" "Pipeline.is_ring" s_Pipeline_is_ring f fd) : FnOk P w K mg base (L2.CX P w) 1 f fd ["self"] (spRing1 CS false) := by
  refine F.okX sc_Pipeline_is_ring (fun vs H Q E h => ?_) (fun cdv A outer s H vs Q E hr h => ?_)
  · obtain ⟨x, rfl, _⟩ := h
    rfl
  · obtain ⟨x, rfl, q⟩ := h
    exact ⟨_, (pss_one (ps_ret pe_bl)), q⟩
theorem ok_R_is_ring {f : Addr} {CS : List Addr} {fd : FuncData} (F : Fun K "is_ring" "Ring.is_ring" s_Ring_is_ring f fd) : FnOk P w K mg base (L2.CX P w) 1 f fd ["self"] (spRing1 CS true) := by
  refine F.okX sc_Ring_is_ring (fun vs H Q E h => ?_) (fun cdv A outer s H vs Q E hr h => ?_)
  · obtain ⟨x, rfl, _⟩ := h
    rfl
  · obtain ⟨x, rfl, q⟩ := h
    exact ⟨_, (pss_one (ps_ret pe_bl)), q⟩
theorem ok_refused8 {f CP CR CW CN CM CI CX CT : Addr} {fd : FuncData} (F : Fun K "_law_refused_well" "_law_refused_well" s_law_refused_well f fd) (B : Blt mg) (T : Ref8 K mg CW CN CM CI CX CT) (TC : ∀ C ∈ [CP, CR], NetCls K C) (MIR : ∀ C ring, KC CP CR C ring → MetR P w K mg base C "is_ring" 1 (spRing1 [CP, CR] ring)) (g_law_read : DefR P w K mg base "_law_read" 3 spRead8) (g_read_net : DefR P w K mg base "read_net" 7 (spRdN8 CP CR CT)) (g_law_same : DefQ P w K mg base "_law_same" 1 spSame) (g_law_same_rows : DefR P w K mg base "_law_same_rows" 3 (spSRs K)) : FnOk P w K mg base (L2.CX P w) 8 f fd ["text"] spRef8 := by
  refine F.okX sc_law_refused_well (fun vs H Q E h => ?_) (fun cdv A outer s H vs Q E hr h => ?_)
  · obtain ⟨l, rfl, _⟩ := h
    rfl
  · obtain ⟨l, rfl, ha, hz, q⟩ := h
    have hrq := L2H.roomH_of hr
    -- slots: 0 text, 1 bad, 2 world, 3 net, 4 refusal
    obtain ⟨C, ring, hK, hg⟩ : ∃ C ring, KC CP CR C ring ∧ ∀ r n cs, NetGood l r n cs → r = ring := by
      by_cases h : ∃ r n cs, NetGood l r n cs
      · obtain ⟨r, n, cs, g⟩ := h
        refine ⟨if r = true then CR else CP, r, ?_, fun r2 n2 cs2 g2 => (good_one g2 g).1⟩
        cases r with
        | true => exact .inr ⟨rfl, rfl⟩
        | false => exact .inl ⟨rfl, rfl⟩
      · exact ⟨CP, false, .inl ⟨rfl, rfl⟩, fun r n cs g => absurd ⟨r, n, cs, g⟩ h⟩
    have g_is_ring := MIR C ring hK
    have TN := TC C (by rcases hK with ⟨e, _⟩ | ⟨e, _⟩ <;> rw [e] <;> simp)
    refine ⟨_, pss_cons (ps_asg (pe_cd g_law_read hr psE (pa_cons (pv 0) pa_nil)) (pg_lst rfl (pgs_cons (pg_name (i := 1) sc_law_refused_well.nd rfl (Or.inl rfl)) (pgs_cons (pg_name (i := 2) sc_law_refused_well.nd rfl (Or.inl rfl)) pgs_nil))))
      (pss_cons (ps_try_as (i := 4) (c := .ref CW) rfl rfl sc_law_refused_well.nd rfl rfl ⟨rfl, by decide, Or.inl T.gW⟩ (takes_of rfl rfl rfl rfl)
        (fun W pn xe tk _ => pss_one (ps_set (i := 3) sc_law_refused_well.nd rfl (Or.inl rfl) (pe_cdS (W := W) g_read_net (by exact hr) tk (pa_cons (pv 0) pa_nil))))
        (fun a oe cls d pn hz hf => pss_cons (ps_if (PW.pt (pw_or (pt_not (pt_val (pe_callB (call_isX T.tc hz hf) (by rfl) B.isi bt_isi (pa_cons (pv 4) (pa_cons (pe_glob (v := .ref CT) (by rfl) T.gT rfl) pa_nil)))))
            (pw_or1 (pt_not (pt_val (pe_callB (call_isX T.tc hz hf) (by rfl) B.isi bt_isi (pa_cons (pv 4) (pa_cons (pe_bltn (v := .ty "ValueError") (by rfl) B.verr bt_verr rfl) pa_nil)))))))) (pss_one (ps_ret pe_bl)) pss_nil)
          (pss_cons (ps_if (pt_val (pe_callB (call_isXT T.tc hz hf) (by rfl) B.isi bt_isi (pa_cons (pv 4) (pa_cons (pe_tup (pa_cons (pe_glob (v := .ref CM) (by rfl) T.gM rfl) (pa_cons (pe_glob (v := .ref CI) (by rfl) T.gI rfl) (pa_cons (pe_glob (v := .ref CX) (by rfl) T.gX rfl) (pa_cons (pe_glob (v := .ref CN) (by rfl) T.gN rfl) pa_nil))))) pa_nil)))) (pss_one (ps_ret pe_bl)) pss_nil)
          (pss_one (ps_ret (pe_and (pe_cmpR op_gt (pv 1) pe_int (nomark _)) (pe_one (pe_cq (j := 7) g_law_same (by exact ⟨hrq.dp, hrq.un⟩) (pa_cons (pe_xf T.tf T.line hz hf (pv 4)) (pa_cons (pv 1) pa_nil))))))))))
      (pss_cons (ps_if (PW.pt (pw_or (pt_cmpR op_gt (pv 1) pe_int (nomark _)) (pw_or (pt_not (pt_val (pe_cq g_law_same hrq (pa_cons (pe_fld (pv 3) rfl) (pa_cons (pe_ix ix_list (pv 2) pe_int (fun _ _ => rfl)) pa_nil))))) (pw_or1 (pt_not (pt_val (pe_cq g_law_same hrq (pa_cons (pe_mtr0 g_is_ring (pv 3) hr psE) (pa_cons (pe_ix ix_list (pv 2) pe_int (fun _ _ => rfl)) pa_nil))))))))) (pss_one (ps_ret pe_bl)) pss_nil)
      (pss_one (ps_ret (pe_cd g_law_same_rows hr psE (pa_cons (pe_fld (pv 3) rfl) (pa_cons (pe_ix ix_list (pv 2) pe_int (fun _ _ => rfl)) pa_nil))))))), ?_⟩
    refine ⟨_, rfl, l, rfl, ha, by omega, fun r n cs g n40 l120 R W L ws H2 s2 nR _ _ hR hW hL pw => ?_, fun k nb k0 R H2 s2 nR hR => ?_⟩
    · obtain rfl := hg r n cs g
      have a0 : atI [V.int n, .ref L, .bl r] (0 : Int) = some (.int n) := atI_nat (j := 0) rfl
      have a1 : atI [V.int n, .ref L, .bl r] (1 : Int) = some (.ref L) := atI_nat (j := 1) rfl
      have a2 : atI [V.int n, .ref L, .bl r] (2 : Int) = some (.bl r) := atI_nat (j := 2) rfl
      refine ⟨R, _, rfl, SqL.of hR, rfl, _, _, rfl, _, _, rfl, rfl, ?_⟩
      refine ⟨_, rfl, l, rfl, ha, hz, fun r2 n2 cs2 g2 C2 hK2 H3 x s3 nx NA => ?_, fun k nb => absurd nb (good_bad g)⟩
      obtain ⟨e1, rfl, rfl⟩ := good_one g2 g
      subst e1
      obtain rfl : C2 = C := by
        rcases hK with ⟨a, b⟩ | ⟨a, b⟩ <;> rcases hK2 with ⟨c, d⟩ | ⟨c, d⟩ <;> first | (exfalso; rw [b] at d; cases d; done) | (rw [a, c]; done)
      obtain ⟨dx, tc, ti, to, vs, hx, htc, hp, _⟩ := NA.ex
      have ln : List.lookup ("is_ring" : Str) [(("stages" : Str), V.int n2), ("channels", .ref tc), ("_incoming", .ref ti), ("_outgoing", .ref to)] = none := by
        simp only [List.lookup, show (("is_ring" : Str) == "stages") = false by decide +kernel, show (("is_ring" : Str) == "channels") = false by decide +kernel, show (("is_ring" : Str) == "_incoming") = false by decide +kernel, show (("is_ring" : Str) == "_outgoing") = false by decide +kernel]
      have hW3 := s3 _ _ hW
      have hL3 := s3 _ _ hL
      have pw3 := tris_same s3 pw
      dsimp only [gName]
      refine ⟨_, rfl, _, _, rfl, rfl, _, rfl, iteF ?_⟩
      refine ⟨_, rfl, x, C2, dx, _, _, rfl, hx, TN.cl, TN.nS, lk_st, _, rfl, W, _, _, _, rfl, rfl, SqL.of hW3, a0, .int n2, rfl, rfl, _, rfl, iteF ?_⟩
      refine ⟨_, rfl, x, dx, _, rfl, hx, ln, x, rfl, _, rfl, W, _, _, _, rfl, rfl, SqL.of hW3, a2, .bl r2, rfl, rfl, true, rfl, iteF ?_⟩
      refine ⟨_, rfl, x, C2, dx, _, _, rfl, hx, TN.cl, TN.nC, lk_ch, _, rfl, W, _, _, _, rfl, rfl, SqL.of hW3, a1, tc, L, false, vs, ws, (cs2.map fun c => [V.int c.1, .int c.2.1, .int c.2.2]), rfl, htc, SqL.of hL3, tri_rows hp, tri_rows pw3, by rw [List.length_map]; omega, fun rr hr2 => ?_, fun H4 s4 => q H4 (s2.trans (s3.trans s4))⟩
      obtain ⟨c, _, rfl⟩ := List.mem_map.mp hr2
      refine ⟨by show 3 ≤ 1000000; decide, fun y hy => ?_⟩
      simp only [List.mem_cons, List.not_mem_nil, or_false] at hy
      rcases hy with e | e | e <;> subst e <;> rfl
    · refine ⟨R, _, rfl, SqL.of hR, rfl, _, _, rfl, _, _, rfl, rfl, ?_⟩
      refine ⟨_, rfl, l, rfl, ha, hz, fun r2 n2 cs2 g2 => absurd nb (good_bad g2), fun k2 nb2 => ?_⟩
      obtain rfl := bad_one8 nb nb2
      intro H3 d s3 nd hd
      refine ⟨true, T.tW, fun _ a ha => ?_, fun z => by cases z⟩
      refine ⟨_, rfl, .ref CT, .ref CT, true, d, _, rfl, .own CT, T.tT, rfl, rfl, hd, _, rfl, iteF ?_⟩
      refine ⟨_, rfl, .ty "ValueError", .type "ValueError", true, d, _, rfl, .ty _, T.tV, rfl, rfl, hd, _, rfl, iteF ?_⟩
      refine ⟨_, rfl, by show 4 ≤ sizeLine; decide, fun p hp => ?_⟩
      have pd : d ≠ p := fun z => by rw [← z, hd] at hp; cases hp
      have s4 : Same H3 (upd H3 p (.tup [.ref CM, .ref CI, .ref CX, .ref CN])) := Same.new hp
      refine ⟨p, _, _, false, d, _, rfl, upd_same, .cons (.own _) (.cons (.own _) (.cons (.own _) (.cons (.own _) .nil))), T.tA, rfl, rfl, s4 _ _ hd, _, rfl, iteF ?_⟩
      refine ⟨_, rfl, _, _, rfl, rfl, _, rfl, ?_⟩
      rw [show decide ((0 : Int) < k) = true from decide_eq_true k0]
      exact iteT ⟨_, rfl, rfl, rfl, d, _, .int k, rfl, s4 _ _ hd, rfl, _, rfl, .int k, rfl, rfl, q _ (s2.trans (s3.trans s4))⟩
end
end WC

set_option maxHeartbeats 8000000
namespace WC
open PySem PySem.Spec PyProof.Rows L2 SX
def spAsk8 (CP CR : Addr) : Sp := fun vs H Q _ => ∃ (C x : Addr) (n : Nat) (cs : List Tri) (l : List Nat), C ∈ [CP, CR] ∧ vs = [.ref x, .str (S l), .int n] ∧ NetAt H x C n cs ∧ n ≤ 40 ∧ asc l = true ∧ l.length ≤ 900000 ∧ ∀ H2, Same H H2 → Q (.bl true) H2
theorem seqA_some {α : Type} : ∀ {xs : List (Option α)} {ns : List α}, seqA xs = some ns → xs = ns.map some
  | [], ns, h => by cases h; rfl
  | none :: _, ns, h => by cases h
  | some i :: r, ns, h => by
    have h : (seqA r).map (i :: ·) = some ns := h
    cases e : seqA r with
    | none => rw [e] at h; cases h
    | some ms =>
      rw [e] at h
      cases h
      rw [seqA_some e]
      rfl
theorem stP_len {n : Nat} {l : List Nat} {ns : List Int} (h : stP n l = some ns) : ns.length = n := by
  unfold stP at h
  by_cases e : (stN l).length = n
  · rw [if_pos e] at h
    have := congrArg List.length (seqO_some h)
    rw [List.length_map] at this
    omega
  · rw [if_neg e] at h
    cases h
theorem mvsP_len {n : Nat} {l : List Nat} {ms : List (Int × Bool)} (h : mvsP n l = some ms) : ms.length ≤ l.length + 1 := by
  unfold mvsP at h
  by_cases e : l = []
  · rw [if_pos e] at h
    cases h
    exact Nat.zero_le _
  · rw [if_neg e] at h
    have := congrArg List.length (seqA_some h)
    rw [List.length_map, List.length_map] at this
    have := spl1_len (s := 32) l []
    omega
theorem mvv_rows {H : Hp} {ms : List (Int × Bool)} {us : List V} (h : Paired (MvV H) ms us) : Paired (RowV H) (ms.map fun m => [V.int m.1, .str (kw m.2)]) us := by
  induction h with
  | nil => exact .nil
  | cons a _ ih => exact .cons a ih
section
variable {P : Program} {w : World} {K : PySem.W.Frag} {mg : Str → Option Value} {base : Heap}
theorem ok_state_asked8 {f CP CR CW CN CM CI CX CT : Addr} {fd : FuncData} (F : Fun K "_law_state_asked" "_law_state_asked" s_law_state_asked f fd) (B : Blt mg) (T : Ref8 K mg CW CN CM CI CX CT) (g_law_read_state : DefR P w K mg base "_law_read_state" 2 spLRS8) (g_read_state : DefR P w K mg base "read_state" 3 (spRdS8 [CP, CR] CT)) (g_law_same : DefQ P w K mg base "_law_same" 1 spSame) (g_law_same_row : DefR P w K mg base "_law_same_row" 2 (spSR K)) : FnOk P w K mg base (L2.CX P w) 4 f fd ["net", "text", "count"] (spAsk8 CP CR) := by
  refine F.okX sc_law_state_asked (fun vs H Q E h => ?_) (fun cdv A outer s H vs Q E hr h => ?_)
  · obtain ⟨C, x, n, cs, l, _, rfl, _⟩ := h
    rfl
  · obtain ⟨C, x, n, cs, l, hC, rfl, NA, n40, ha, hz, q⟩ := h
    have hrq := L2H.roomH_of hr
    -- slots: 0 net, 1 text, 2 count, 3 due, 4 told, 5 refusal
    refine ⟨_, pss_cons (ps_set (i := 3) sc_law_state_asked.nd rfl (Or.inl rfl) (pe_cd g_law_read_state hr psE (pa_cons (pv 1) (pa_cons (pv 2) pa_nil))))
      (pss_cons (ps_try_as (i := 5) (c := .ref CT) rfl rfl sc_law_state_asked.nd rfl rfl ⟨rfl, by decide, Or.inl T.gT⟩ (takes_of rfl rfl rfl rfl)
        (fun W pn xe tk _ => pss_one (ps_set (i := 4) sc_law_state_asked.nd rfl (Or.inl rfl) (pe_cdS (W := W) g_read_state (by exact hr) tk (pa_cons (pv 0) (pa_cons (pv 1) pa_nil)))))
        (fun a oe cls d pn hz hf => pss_one (ps_ret (pe_and (pe_cmpR op_isN (pv 3) pe_non (nomark _)) (pe_and (pe_cq (j := 3) g_law_same (by exact ⟨hrq.dp, hrq.un⟩) (pa_cons (pe_xf T.tf T.line hz hf (pv 5)) (pa_cons pe_int pa_nil))) (pe_one (pe_not (pe_callB (call_isX T.tc hz hf) (by rfl) B.isi bt_isi (pa_cons (pv 5) (pa_cons (pe_glob (v := .ref CX) (by rfl) T.gX rfl) pa_nil))))))))))
      (pss_one (ps_ret (pe_and (pe_cmpR op_notN (pv 3) pe_non (nomark _)) (pe_one (pe_cd g_law_same_row hr psE (pa_cons (pv 4) (pa_cons (pv 3) pa_nil)))))))), ?_⟩
    refine ⟨_, rfl, _, rfl, n, l, rfl, ha, by omega, fun ns en r H1 s1 hr1 => ?_, fun en H1 s1 => ?_⟩
    · have ln := stP_len en
      dsimp only [gName]
      refine ⟨_, rfl, _, rfl, C, x, n, cs, l, hC, rfl, NA.same s1, ha, by omega, fun ns2 en2 r2 H2 s2 hr2 => ?_, fun z => by rw [en] at z; cases z⟩
      rw [en] at en2
      cases en2
      dsimp only [gName]
      exact ⟨_, rfl, rfl, true, rfl, iteT ⟨_, rfl, _, rfl, r2, r, false, ns.map V.int, rfl, hr2, SqL.of (s2 _ _ hr1), by rw [List.length_map]; omega, fun y hy => by obtain ⟨c, _, rfl⟩ := List.mem_map.mp hy; rfl, fun H3 s3 => q H3 (s1.trans (s2.trans s3))⟩⟩
    · dsimp only [gName]
      refine ⟨_, rfl, _, rfl, C, x, n, cs, l, hC, rfl, NA.same s1, ha, by omega, fun ns2 en2 => (by rw [en] at en2; cases en2), fun _ => ?_⟩
      intro H2 d s2 nd hd
      refine ⟨true, T.tE, fun _ a ha => ?_, fun z => by cases z⟩
      refine ⟨_, rfl, rfl, true, rfl, iteT ?_⟩
      refine ⟨_, rfl, rfl, rfl, d, _, .int 1, rfl, hd, rfl, .int 1, rfl, rfl, true, rfl, iteT ?_⟩
      exact ⟨_, rfl, .ref CX, .ref CX, false, d, _, rfl, .own CX, T.tX, rfl, rfl, hd, _, rfl, q _ (s1.trans s2)⟩
theorem ok_moves_asked8 {f CP CR CW CN CM CI CX CT : Addr} {fd : FuncData} (F : Fun K "_law_moves_asked" "_law_moves_asked" s_law_moves_asked f fd) (B : Blt mg) (T : Ref8 K mg CW CN CM CI CX CT) (g_law_read_moves : DefR P w K mg base "_law_read_moves" 2 spLRM8) (g_read_moves : DefR P w K mg base "read_moves" 3 (spRdM8 [CP, CR] CT)) (g_law_same : DefQ P w K mg base "_law_same" 1 spSame) (g_law_same_rows : DefR P w K mg base "_law_same_rows" 3 (spSRs K)) : FnOk P w K mg base (L2.CX P w) 4 f fd ["net", "text", "count"] (spAsk8 CP CR) := by
  refine F.okX sc_law_moves_asked (fun vs H Q E h => ?_) (fun cdv A outer s H vs Q E hr h => ?_)
  · obtain ⟨C, x, n, cs, l, _, rfl, _⟩ := h
    rfl
  · obtain ⟨C, x, n, cs, l, hC, rfl, NA, n40, ha, hz, q⟩ := h
    have hrq := L2H.roomH_of hr
    -- slots: 0 net, 1 text, 2 count, 3 due, 4 told, 5 refusal
    refine ⟨_, pss_cons (ps_set (i := 3) sc_law_moves_asked.nd rfl (Or.inl rfl) (pe_cd g_law_read_moves hr psE (pa_cons (pv 1) (pa_cons (pv 2) pa_nil))))
      (pss_cons (ps_try_as (i := 5) (c := .ref CT) rfl rfl sc_law_moves_asked.nd rfl rfl ⟨rfl, by decide, Or.inl T.gT⟩ (takes_of rfl rfl rfl rfl)
        (fun W pn xe tk _ => pss_one (ps_set (i := 4) sc_law_moves_asked.nd rfl (Or.inl rfl) (pe_cdS (W := W) g_read_moves (by exact hr) tk (pa_cons (pv 0) (pa_cons (pv 1) pa_nil)))))
        (fun a oe cls d pn hz hf => pss_one (ps_ret (pe_and (pe_cmpR op_isN (pv 3) pe_non (nomark _)) (pe_and (pe_cq (j := 3) g_law_same (by exact ⟨hrq.dp, hrq.un⟩) (pa_cons (pe_xf T.tf T.line hz hf (pv 5)) (pa_cons pe_int pa_nil))) (pe_one (pe_not (pe_callB (call_isX T.tc hz hf) (by rfl) B.isi bt_isi (pa_cons (pv 5) (pa_cons (pe_glob (v := .ref CM) (by rfl) T.gM rfl) pa_nil))))))))))
      (pss_one (ps_ret (pe_and (pe_cmpR op_notN (pv 3) pe_non (nomark _)) (pe_one (pe_cd g_law_same_rows hr psE (pa_cons (pv 4) (pa_cons (pv 3) pa_nil)))))))), ?_⟩
    refine ⟨_, rfl, _, rfl, n, l, rfl, ha, by omega, fun ms en r ks H1 s1 hr1 pk => ?_, fun en H1 s1 => ?_⟩
    · have lm := mvsP_len en
      dsimp only [gName]
      refine ⟨_, rfl, _, rfl, C, x, n, cs, l, hC, rfl, NA.same s1, ha, by omega, fun ms2 en2 r2 us H2 s2 hr2 pu => ?_, fun z => by rw [en] at z; cases z⟩
      rw [en] at en2
      cases en2
      have pk2 : Paired (MvV H2) ms ks := Paired.mapP pk fun _ _ ⟨t, e, h⟩ => ⟨t, e, s2 _ _ h⟩
      dsimp only [gName]
      refine ⟨_, rfl, rfl, true, rfl, iteT ⟨_, rfl, _, rfl, r2, r, false, us, ks, (ms.map fun m => [V.int m.1, .str (kw m.2)]), rfl, hr2, SqL.of (s2 _ _ hr1), mvv_rows pu, mvv_rows pk2, by rw [List.length_map]; omega, fun y hy => ?_, fun H3 s3 => q H3 (s1.trans (s2.trans s3))⟩⟩
      obtain ⟨m, _, rfl⟩ := List.mem_map.mp hy
      refine ⟨by show 2 ≤ 1000000; decide, fun z hz => ?_⟩
      simp only [List.mem_cons, List.not_mem_nil, or_false] at hz
      rcases hz with e | e <;> subst e <;> rfl
    · dsimp only [gName]
      refine ⟨_, rfl, _, rfl, C, x, n, cs, l, hC, rfl, NA.same s1, ha, by omega, fun ms2 en2 => (by rw [en] at en2; cases en2), fun _ => ?_⟩
      intro H2 d s2 nd hd
      refine ⟨true, T.tE, fun _ a ha => ?_, fun z => by cases z⟩
      refine ⟨_, rfl, rfl, true, rfl, iteT ?_⟩
      refine ⟨_, rfl, rfl, rfl, d, _, .int 1, rfl, hd, rfl, .int 1, rfl, rfl, true, rfl, iteT ?_⟩
      exact ⟨_, rfl, .ref CM, .ref CM, false, d, _, rfl, .own CM, T.tM, rfl, rfl, hd, _, rfl, q _ (s1.trans s2)⟩
end
end WC

set_option maxHeartbeats 8000000
namespace WC
open PySem PySem.Spec PyProof.Rows L2 SX
/-! pieces of texts: all ASCII, none longer than told -/
theorem asc_mem {l : List Nat} : asc l = true ↔ ∀ c ∈ l, c < 128 := ⟨asc_of, fun h => List.all_eq_true.mpr fun c hc => decide_eq_true (h c hc)⟩
theorem asc_sub {l m : List Nat} (h : asc l = true) (s : ∀ c ∈ m, c ∈ l) : asc m = true := asc_mem.mpr fun c hc => asc_of h c (s c hc)
theorem asc_cat {l m : List Nat} (h : asc l = true) (g : asc m = true) : asc (l ++ m) = true := asc_mem.mpr fun c hc => (List.mem_append.mp hc).elim (asc_of h c) (asc_of g c)
theorem slice_gen (l : List Nat) (lo hi : Option Int) : ∃ m, Txt.slice (S l) lo hi = S m ∧ (∀ c ∈ m, c ∈ l) ∧ m.length ≤ l.length := by
  refine ⟨(l.drop (HT.sIx (S l).length 0 lo)).take (HT.sIx (S l).length (S l).length hi - HT.sIx (S l).length 0 lo), ?_, fun c hc => List.mem_of_mem_drop (List.mem_of_mem_take hc), ?_⟩
  · rw [← C8.cutS_slice]
    rfl
  · rw [List.length_take, List.length_drop]
    omega
theorem slice_asc {l : List Nat} (h : asc l = true) (lo hi : Option Int) : ∃ m, Txt.slice (S l) lo hi = S m ∧ asc m = true ∧ m.length ≤ l.length := by
  obtain ⟨m, a, b, c⟩ := slice_gen l lo hi
  exact ⟨m, a, asc_sub h b, c⟩
/-- the weight of words: what they take when joined -/
def wt (ws : List (List Nat)) : Nat := (ws.map fun w => w.length + 1).sum
theorem wt_cat (a b : List (List Nat)) : wt (a ++ b) = wt a + wt b := by
  unfold wt
  rw [List.map_append, List.sum_append]
theorem wt_one (a : List Nat) : wt [a] = a.length + 1 := rfl
theorem wt_take (ws : List (List Nat)) (k : Nat) : wt (ws.take k) + wt (ws.drop k) = wt ws := by rw [← wt_cat, List.take_append_drop]
theorem wt_mem {ws : List (List Nat)} {a : List Nat} (h : a ∈ ws) : a.length + 1 ≤ wt ws := by
  obtain ⟨p, q, rfl⟩ := List.append_of_mem h
  rw [wt_cat, show a :: q = [a] ++ q from rfl, wt_cat, wt_one]
  omega
theorem wt_len (ws : List (List Nat)) : ws.length ≤ wt ws := by
  induction ws with
  | nil => exact Nat.le_refl _
  | cons a r ih =>
    rw [show a :: r = [a] ++ r from rfl, wt_cat, wt_one, List.length_append]
    show 1 + r.length ≤ _
    omega
theorem wt_set {ws : List (List Nat)} {a : List Nat} {i : Nat} : wt (ws.set i a) ≤ wt ws + (a.length + 1) := by
  by_cases h : i < ws.length
  · rw [List.set_eq_take_append_cons_drop, if_pos h, show a :: ws.drop (i + 1) = [a] ++ ws.drop (i + 1) from rfl, wt_cat, wt_cat, wt_one]
    have h1 := wt_take ws i
    have h2 : wt (ws.drop (i + 1)) ≤ wt (ws.drop i) := by
      have := wt_take (ws.drop i) 1
      rw [List.drop_drop] at this
      omega
    omega
  · rw [List.set_eq_of_length_le (by omega)]
    omega
theorem wt_spl {s : Nat} : ∀ (l acc : List Nat), wt (TL.spl [s] 0 acc l) = acc.length + l.length + 1
  | [], acc => by rw [TL.spl_nil, wt_one]; rfl
  | c :: r, acc => by
    cases e : TL.pre [s] (c :: r) with
    | true =>
      rw [TL.spl_hit e, show ∀ z : List (List Nat), acc :: z = [acc] ++ z from fun _ => rfl, wt_cat, wt_one]
      have := wt_spl (s := s) r []
      rw [show [s].length - 1 = 0 from rfl, this, List.length_nil, List.length_cons]
      omega
    | false =>
      rw [TL.spl_miss e, wt_spl r (acc ++ [c]), List.length_append, List.length_singleton, List.length_cons]
      omega
theorem join_ok {s : Nat} (hs : s < 128) : ∀ {ws : List (List Nat)}, (∀ w ∈ ws, asc w = true) → asc (TL.joinL [s] ws) = true ∧ (TL.joinL [s] ws).length ≤ wt ws
  | [], _ => ⟨rfl, Nat.zero_le _⟩
  | [a], h => ⟨h a List.mem_cons_self, by rw [wt_one]; exact Nat.le_succ _⟩
  | a :: b :: r, h => by
    obtain ⟨i1, i2⟩ := join_ok hs (ws := b :: r) fun w hw => h w (List.mem_cons_of_mem _ hw)
    have e : TL.joinL [s] (a :: b :: r) = a ++ ([s] ++ TL.joinL [s] (b :: r)) := by first | rfl | exact List.append_assoc _ _ _ | simp [TL.joinL]
    rw [e, show a :: b :: r = [a] ++ (b :: r) from rfl, wt_cat, wt_one]
    refine ⟨asc_cat (h a List.mem_cons_self) (asc_cat (by simp [asc, hs]) i1), ?_⟩
    rw [List.length_append, List.length_append]
    show a.length + (1 + _) ≤ _
    omega
/-- a text that is spoilt -/
def spTx8 : Sp := fun vs H Q _ => ∃ (b : Addr) (l : List Nat), vs = [.ref b, .str (S l)] ∧ BagAt H b ∧ asc l = true ∧ l.length ≤ 600000 ∧ ∀ l2 H2, SameB b H H2 → BagAt H2 b → asc l2 = true → l2.length ≤ 3 * l.length + 7000 → Q (.str (S l2)) H2
def menuL : List Nat := cl "0123456789 >:+-\npiperlnga.x,_=A"
theorem menu_asc : asc menuL = true := by decide
theorem S_cps (l : List Nat) : (S l).cps.toList = l := rfl
section
variable {P : Program} {w : World} {K : PySem.W.Frag} {mg : Str → Option Value} {base : Heap}
theorem ok_char_spoilt {f : Addr} {fd : FuncData} (F : Fun K "_law_char_spoilt" "_law_char_spoilt" s_law_char_spoilt f fd) (B : Blt mg) (g_law_draw : DefR P w K mg base "_law_draw" 1 spDraw) : FnOk P w K mg base (L2.CX P w) 2 f fd ["bag", "text"] spTx8 := by
  refine F.okX sc_law_char_spoilt (fun vs H Q E h => ?_) (fun cdv A outer s H vs Q E hr h => ?_)
  · obtain ⟨b, l, rfl, _⟩ := h
    rfl
  · obtain ⟨b, l, rfl, hb, ha, hz, q⟩ := h
    have hzl : (S l).length ≤ sizeLine := line8 (by rw [S_len]; omega)
    have eM : (Str.ofString "0123456789 >:+-\npiperlnga.x,_=A" : Str) = S menuL := ofS _
    have lM : (S menuL).length ≤ sizeLine := line8 (by rw [S_len]; decide)
    -- slots: 0 bag, 1 text, 2 menu, 3 one, 4 place, 5 way
    refine ⟨_, (pss_cons (ps_set (i := 2) sc_law_char_spoilt.nd rfl (Or.inl rfl) pe_str)
      (pss_cons (ps_set (i := 3) sc_law_char_spoilt.nd rfl (Or.inl rfl) (pe_ix ix_str (pv 2) (pe_cd g_law_draw hr psE (pa_cons (pv 0) (pa_cons (pe_callB call_len_str (by rfl) B.len bt_len (pa_cons (pv 2) pa_nil)) pa_nil))) (fun _ _ => rfl)))
      (pss_cons (ps_set (i := 4) sc_law_char_spoilt.nd rfl (Or.inl rfl) (pe_cd g_law_draw hr psE (pa_cons (pv 0) (pa_cons (pe_op op_add (pe_callB call_len_str (by rfl) B.len bt_len (pa_cons (pv 1) pa_nil)) pe_int) pa_nil))))
      (pss_cons (ps_set (i := 5) sc_law_char_spoilt.nd rfl (Or.inl rfl) (pe_cd g_law_draw hr psE (pa_cons (pv 0) (pa_cons pe_int pa_nil))))
      (pss_cons (ps_if (pt_cmpR op_eq (pv 5) pe_int (nomark _)) (pss_one (ps_ret (pe_op op_add_str (pe_op op_add_str (pe_slice C8.sl_txt (pv 1) po_none (po_some (pv 4))) (pv 3)) (pe_slice C8.sl_txt (pv 1) (po_some (pv 4)) po_none)))) pss_nil)
      (pss_cons (ps_if (pt_cmpR op_eq (pv 5) pe_int (nomark _)) (pss_one (ps_ret (pe_op op_add_str (pe_slice C8.sl_txt (pv 1) po_none (po_some (pv 4))) (pe_slice C8.sl_txt (pv 1) (po_some (pe_op op_add (pv 4) pe_int)) po_none)))) pss_nil)
      (pss_cons (ps_if (pt_cmpR op_eq (pv 5) pe_int (nomark _)) (pss_one (ps_ret (pe_op op_add_str (pe_op op_add_str (pe_slice C8.sl_txt (pv 1) po_none (po_some (pv 4))) (pv 3)) (pe_slice C8.sl_txt (pv 1) (po_some (pe_op op_add (pv 4) pe_int)) po_none)))) pss_nil)
      (pss_one (ps_ret (pe_op op_add_str (pe_op op_add_str (pe_slice C8.sl_txt (pv 1) po_none (po_some (pv 4))) (pe_slice C8.sl_txt (pv 1) (po_some (pv 4)) (po_some (pe_op op_add (pv 4) pe_int)))) (pe_slice C8.sl_txt (pv 1) (po_some (pv 4)) po_none))))))))))), ?_⟩
    have lM2 : (Str.ofString "0123456789 >:+-\npiperlnga.x,_=A" : Str).length = 31 := by rw [eM, S_len]; decide
    refine ⟨_, rfl, _, rfl, _, rfl, _, rfl, by rw [lM2]; decide, b, _, rfl, hb, by rw [lM2]; decide, by rw [lM2]; decide, fun d H1 d0 d1 s1 b1 => ?_⟩
    rw [lM2] at d1
    obtain ⟨k, rfl⟩ : ∃ k : Nat, d = k := ⟨d.toNat, by omega⟩
    obtain ⟨c, hc, c128⟩ : ∃ c, menuL[k]? = some c ∧ c < 128 := by
      have hk : k < menuL.length := by show k < 31; omega
      exact ⟨_, List.getElem?_eq_getElem hk, asc_of menu_asc _ (List.getElem_mem hk)⟩
    have atM : atI (Str.ofString "0123456789 >:+-\npiperlnga.x,_=A" : Str).cps.toList ((k : Nat) : Int) = some c := atI_nat (j := k) (by rw [eM]; exact hc)
    refine ⟨_, _, c, rfl, rfl, by rw [lM2]; decide, atM, ?_⟩
    have asC : asc [c] = true := asc_mem.mpr fun x hx => by rw [List.mem_singleton.mp hx]; exact c128
    have eC : (⟨#[c]⟩ : Str) = S [c] := rfl
    rw [eC]
    dsimp only [gName]
    refine ⟨_, rfl, _, rfl, _, rfl, hzl, _, _, rfl, rfl, b, _, rfl, b1, by omega, by rw [S_len]; omega, fun p H2 p0 p1 s2 b2 => ?_⟩
    rw [S_len] at p1
    dsimp only [gName]
    refine ⟨_, rfl, b, 4, rfl, b2, by decide, by decide, fun g H3 g0 g1 s3 b3 => ?_⟩
    have s03 := s1.trans (s2.trans s3)
    have fin : ∀ m, asc m = true → m.length ≤ 3 * l.length + 7000 → Q (.str (S m)) H3 := fun m a z => q m H3 s03 b3 a z
    obtain ⟨m1, e1, a1, z1⟩ := slice_asc ha none (some p)
    obtain ⟨m2, e2, a2, z2⟩ := slice_asc ha (some p) none
    obtain ⟨m3, e3, a3, z3⟩ := slice_asc ha (some (p + 1)) none
    obtain ⟨m4, e4, a4, z4⟩ := slice_asc ha (some p) (some (p + 1))
    have LL : ∀ {x y : List Nat}, x.length + y.length ≤ 2000000 → (S x).length + (S y).length ≤ sizeLine := fun {x y} h => by rw [S_len, S_len]; exact line8 h
    dsimp only [gName]
    refine ⟨_, rfl, rfl, _, rfl, ite2 (fun _ => ?_) (fun _ => ?_)⟩
    · refine ⟨_, rfl, ?_⟩
      dsimp only [tNoPart]
      refine ⟨_, rfl, _, rfl, _, rfl, hzl, ?_⟩
      rw [e1]
      refine ⟨_, rfl, S m1, S [c], rfl, rfl, LL (by rw [List.length_singleton]; omega), ?_⟩
      rw [S_cat]
      refine ⟨_, rfl, _, rfl, _, rfl, ?_⟩
      dsimp only [tNoPart]
      refine ⟨_, rfl, hzl, ?_⟩
      rw [e2]
      refine ⟨_, _, rfl, rfl, LL (by (try simp only [List.length_append, List.length_singleton]); omega), ?_⟩
      rw [S_cat]
      exact fin _ (asc_cat (asc_cat a1 asC) a2) (by (try simp only [List.length_append, List.length_singleton]); omega)
    refine ⟨_, rfl, rfl, _, rfl, ite2 (fun _ => ?_) (fun _ => ?_)⟩
    · refine ⟨_, rfl, ?_⟩
      dsimp only [tNoPart]
      refine ⟨_, rfl, _, rfl, _, rfl, hzl, ?_⟩
      rw [e1]
      refine ⟨_, rfl, _, rfl, _, _, rfl, rfl, _, rfl, ?_⟩
      dsimp only [tNoPart]
      refine ⟨_, rfl, hzl, ?_⟩
      rw [e3]
      refine ⟨_, _, rfl, rfl, LL (by (try simp only [List.length_append, List.length_singleton]); omega), ?_⟩
      rw [S_cat]
      exact fin _ (asc_cat a1 a3) (by (try simp only [List.length_append, List.length_singleton]); omega)
    refine ⟨_, rfl, rfl, _, rfl, ite2 (fun _ => ?_) (fun _ => ?_)⟩
    · refine ⟨_, rfl, ?_⟩
      dsimp only [tNoPart]
      refine ⟨_, rfl, _, rfl, _, rfl, hzl, ?_⟩
      rw [e1]
      refine ⟨_, rfl, S m1, S [c], rfl, rfl, LL (by rw [List.length_singleton]; omega), ?_⟩
      rw [S_cat]
      refine ⟨_, rfl, _, rfl, _, _, rfl, rfl, _, rfl, ?_⟩
      dsimp only [tNoPart]
      refine ⟨_, rfl, hzl, ?_⟩
      rw [e3]
      refine ⟨_, _, rfl, rfl, LL (by (try simp only [List.length_append, List.length_singleton]); omega), ?_⟩
      rw [S_cat]
      exact fin _ (asc_cat (asc_cat a1 asC) a3) (by (try simp only [List.length_append, List.length_singleton]); omega)
    · refine ⟨_, rfl, ?_⟩
      dsimp only [tNoPart]
      refine ⟨_, rfl, _, rfl, _, rfl, hzl, ?_⟩
      rw [e1]
      refine ⟨_, rfl, _, rfl, _, rfl, _, rfl, _, _, rfl, rfl, _, rfl, _, rfl, hzl, ?_⟩
      rw [e4]
      refine ⟨_, _, rfl, rfl, LL (by omega), ?_⟩
      rw [S_cat]
      refine ⟨_, rfl, _, rfl, _, rfl, ?_⟩
      dsimp only [tNoPart]
      refine ⟨_, rfl, hzl, ?_⟩
      rw [e2]
      refine ⟨_, _, rfl, rfl, LL (by (try simp only [List.length_append, List.length_singleton]); omega), ?_⟩
      rw [S_cat]
      exact fin _ (asc_cat (asc_cat a1 a4) a2) (by (try simp only [List.length_append, List.length_singleton]); omega)
end
end WC

set_option maxHeartbeats 8000000
namespace WC
open PySem PySem.Spec PyProof.Rows L2 SX
/-! what is written: numbers, lines, heads, whole nets -/
theorem emp_S : Str.empty = S [] := rfl
theorem cat_len (a b : Str) : (a ++ b).length = a.length + b.length := by rw [TL.len_tl, TL.tl_append, List.length_append, ← TL.len_tl, ← TL.len_tl]
theorem numL_len20 {n : Nat} (h : n < 1000000) : (TL.numL n).length ≤ 6 := TL.numL_len (by decide) h
theorem int_len {i : Int} (h : i.natAbs < 1000000) : (Str.ofString (toString i)).length ≤ 7 := by
  rw [int_str, S_len]
  have := numL_len20 h
  unfold iL
  split
  · rw [List.length_cons]; omega
  · omega
theorem log_ok {n : Nat} (h : n < 1000000) : n.log2 < 1920 := by
  by_cases e : n = 0
  · subst e; decide
  · have : n.log2 < 64 := (Nat.log2_lt e).mpr (Nat.lt_of_lt_of_le h (by decide))
    omega
theorem sum_le {k : Nat} : ∀ {ys : List Str}, (∀ y ∈ ys, y.length ≤ k) → (ys.map (·.length)).sum ≤ k * ys.length
  | [], _ => Nat.zero_le _
  | y :: ys, h => by
    have h1 := h y List.mem_cons_self
    have h2 := sum_le (ys := ys) fun z hz => h z (List.mem_cons_of_mem _ hz)
    rw [List.map_cons, List.sum_cons, List.length_cons, Nat.mul_succ]
    omega
def lineL (c : Tri) : List Nat := iL c.1 ++ (cl " > " ++ (iL c.2.1 ++ (cl " : " ++ iL c.2.2)))
def headL (ring : Bool) (n : Nat) : List Nat := wordL ring ++ (cl " " ++ TL.numL n)
def netRows (ring : Bool) (n : Nat) (cs : List Tri) : List (List Nat) := headL ring n :: cs.map lineL
def netL (ring : Bool) (n : Nat) (cs : List Tri) : List Nat := TL.joinL [10] (netRows ring n cs)
theorem line_out (c : Tri) : Str.empty ++ Str.ofString (toString c.1) ++ Str.ofString " > " ++ Str.ofString (toString c.2.1) ++ Str.ofString " : " ++ Str.ofString (toString c.2.2) = S (lineL c) := by
  rw [int_str, int_str, int_str, ofS, ofS, emp_S, S_cat, S_cat, S_cat, S_cat, S_cat]
  unfold lineL
  simp only [List.append_assoc, List.nil_append]
theorem head_out (ring : Bool) (n : Nat) : Str.empty ++ S (wordL ring) ++ Str.ofString " " ++ Str.ofString (toString (n : Int)) = S (headL ring n) := by
  rw [int_str, ofS, emp_S, S_cat, S_cat, S_cat, iL_nat]
  unfold headL
  simp only [List.append_assoc, List.nil_append]
theorem line_len {c : Tri} (h1 : c.1.natAbs < 1000000) (h2 : c.2.1.natAbs < 1000000) (h3 : c.2.2.natAbs < 1000000) : (S (lineL c)).length ≤ 40 := by
  rw [← line_out, cat_len, cat_len, cat_len, cat_len, cat_len]
  have a := int_len h1
  have b := int_len h2
  have d := int_len h3
  have e1 : (Str.ofString " > ").length = 3 := rfl
  have e2 : (Str.ofString " : ").length = 3 := rfl
  have e0 : Str.empty.length = 0 := rfl
  omega
theorem word_len (ring : Bool) : (S (wordL ring)).length ≤ 8 := by cases ring <;> decide
theorem head_len (ring : Bool) {n : Nat} (h : n < 1000000) : (S (headL ring n)).length ≤ 40 := by
  rw [← head_out, cat_len, cat_len, cat_len]
  have a := int_len (i := (n : Int)) (by omega)
  have b := word_len ring
  have e1 : (Str.ofString " ").length = 1 := rfl
  have e0 : Str.empty.length = 0 := rfl
  omega
theorem rows_len {ring : Bool} {n : Nat} {cs : List Tri} (n40 : n ≤ 40) (ok : ∀ c ∈ cs, ChOk n c) : ∀ y ∈ (netRows ring n cs).map S, y.length ≤ 40 := fun y hy => by
  obtain ⟨l, hl, rfl⟩ := List.mem_map.mp hy
  unfold netRows at hl
  rcases List.mem_cons.mp hl with e | e
  · rw [e]; exact head_len ring (by omega)
  · obtain ⟨c, hc, rfl⟩ := List.mem_map.mp e
    obtain ⟨⟨a1, a2⟩, ⟨a3, a4⟩, _, a5, a6⟩ := ok c hc
    exact line_len (by omega) (by omega) (by omega)
theorem net_sz {ring : Bool} {n : Nat} {cs : List Tri} (n40 : n ≤ 40) (ok : ∀ c ∈ cs, ChOk n c) (hl : cs.length ≤ 200) : (((netRows ring n cs).map S).map (·.length)).sum + ((netRows ring n cs).map S).length * (Str.ofString "\n").length ≤ 16777216 := by
  have h := sum_le (rows_len (ring := ring) n40 ok)
  have e : ((netRows ring n cs).map S).length = cs.length + 1 := by unfold netRows; rw [List.length_map, List.length_cons, List.length_map]
  have e1 : (Str.ofString "\n").length = 1 := rfl
  rw [e] at h ⊢
  rw [e1]
  omega
theorem net_join (ring : Bool) (n : Nat) (cs : List Tri) : Txt.join (Str.ofString "\n") ((netRows ring n cs).map S) = S (netL ring n cs) := by
  rw [ofS]
  exact join_S _ _
def stT (ns : List Int) : List Nat := TL.joinL [32] (ns.map iL)
def mvW (m : Int × Bool) : List Nat := sgL m.2 ++ iL m.1
def mvL (ms : List (Int × Bool)) : List Nat := TL.joinL [32] (ms.map mvW)
theorem iL_len {i : Int} (h : i.natAbs < 1000000) : (S (iL i)).length ≤ 7 := by
  rw [← int_str]
  exact int_len h
theorem sp_join (ps : List (List Nat)) : Txt.join (Str.ofString " ") (ps.map S) = S (TL.joinL [32] ps) := by
  rw [ofS]
  exact join_S _ _
theorem sp_sz {ps : List (List Nat)} (h : ∀ p ∈ ps, (S p).length ≤ 10) (hl : ps.length ≤ 1000) : (((ps).map S).map (·.length)).sum + (ps.map S).length * (Str.ofString " ").length ≤ 16777216 := by
  have h1 := sum_le (k := 10) (ys := ps.map S) fun y hy => by
    obtain ⟨p, hp, rfl⟩ := List.mem_map.mp hy
    exact h p hp
  have e1 : (Str.ofString " ").length = 1 := rfl
  rw [e1]
  rw [List.length_map] at h1 ⊢
  omega
theorem head_out2 (ring : Bool) (n : Nat) : Str.ofString (if ring = true then "ring " else "pipeline ") ++ Str.ofString (toString (n : Int)) = S (headL ring n) := by
  rw [int_str, ofS, S_cat, iL_nat]
  unfold headL
  cases ring <;> rfl
theorem line_out2 (c : Tri) : Str.ofString (toString c.1) ++ Str.ofString " > " ++ Str.ofString (toString c.2.1) ++ Str.ofString " : " ++ Str.ofString (toString c.2.2) = S (lineL c) := by
  have h := line_out c
  have e : ∀ x : Str, Str.empty ++ x = x := fun x => TL.ext_tl (by rw [TL.tl_append]; rfl)
  rw [e] at h
  exact h
theorem LL8 {x y : List Nat} (h : x.length + y.length ≤ 2000000) : (S x).length + (S y).length ≤ sizeLine := by rw [S_len, S_len]; exact line8 h
theorem asc_num (n : Nat) : asc (TL.numL n) = true := asc_mem.mpr fun c hc => by
  by_cases h : c < 128
  · exact h
  · exact absurd hc (TL.numL_free (by omega))
theorem asc_int {i : Int} (h : 0 ≤ i) : asc (iL i) = true := by
  unfold iL
  rw [if_neg (by omega)]
  exact asc_num _
theorem asc_rep {c n : Nat} (h : c < 128) : asc (List.replicate n c) = true := asc_mem.mpr fun d hd => by
  rw [(List.mem_replicate.mp hd).2]
  exact h
theorem wt_sum (ws : List (List Nat)) : ((ws.map S).map (·.length)).sum + (ws.map S).length * 1 = wt ws := by
  induction ws with
  | nil => rfl
  | cons a r ih =>
    rw [show a :: r = [a] ++ r from rfl, wt_cat, wt_one, ← ih]
    simp only [List.map_append, List.map_cons, List.map_nil, List.sum_append, List.sum_cons, List.sum_nil, List.length_append, List.length_cons, List.length_nil, S_len]
    omega
/-- words joined again -/
theorem join_use {K : PySem.W.Frag} {H : Hp} {p : Addr} {ws : List (List Nat)} {s : Nat} {sep : Str} {Q : VK} (e : sep = S [s]) (hs : s < 128) (hp : H p = some (.lst (rowsT ws))) (a : ∀ w ∈ ws, asc w = true) (z : wt ws ≤ 2000000) (q : ∀ m, asc m = true → m.length ≤ wt ws → Q (.str (S m)) H) : ∃ (a : Str) (p' : Addr) (ys : List Str), V.str sep = V.str a ∧ [V.ref p] = [V.ref p'] ∧ (SqL K H p' (ys.map V.str) ∨ SqT K H p' (ys.map V.str)) ∧ (ys.map (fun x => x.length)).sum + ys.length * a.length ≤ 16777216 ∧ Q (.str (Txt.join a ys)) H := by
  subst e
  obtain ⟨j1, j2⟩ := join_ok hs a
  refine ⟨S [s], p, ws.map S, rfl, rfl, .inl (SqL.of hp), ?_, ?_⟩
  · have := wt_sum ws
    rw [show (S [s]).length = 1 from S_len _]
    omega
  · rw [join_S]
    exact q _ j1 j2
theorem mem_set8 {ws : List (List Nat)} {i : Nat} {u w : List Nat} (h : w ∈ ws.set i u) : w ∈ ws ∨ w = u := List.mem_or_eq_of_mem_set h
theorem rowsT_set (ws : List (List Nat)) (i : Nat) (u : List Nat) : (rowsT ws).set i (.str (S u)) = rowsT (ws.set i u) := by
  unfold rowsT
  rw [List.map_set, List.map_set]
/-! what is written is read -/
theorem numP_back {k : Nat} {lo hi : Int} (h : k < 1000) (h1 : lo ≤ k) (h2 : (k : Int) ≤ hi) : numP lo hi (TL.numL k) = some (k : Int) := by
  have dg : digs8 (TL.numL k) = true := by
    unfold digs8
    rw [Bool.and_eq_true, decide_eq_true_iff]
    refine ⟨List.length_pos_iff.mpr (TL.numL_ne k), List.all_eq_true.mpr fun c hc => ?_⟩
    have := TL.numL_digits k c hc
    unfold dgt
    rw [Bool.and_eq_true, decide_eq_true_iff, decide_eq_true_iff]
    exact this
  have ln : (TL.numL k).length ≤ 3 := TL.numL_len (by decide) (by omega)
  have ld : lead0 (TL.numL k) = false := by
    unfold lead0
    by_cases hk : k < 10
    · rw [TL.numL_lt hk]
      rfl
    · have hd : ∃ c r, TL.numL k = c :: r ∧ c ≠ 48 := by
        have : ∀ m : Nat, 0 < m → ∃ c r, TL.numL m = c :: r ∧ c ≠ 48 := fun m => by
          induction m using Nat.strongRecOn with
          | ind m ih =>
            intro hm
            by_cases q : m < 10
            · exact ⟨48 + m, [], TL.numL_lt q, by omega⟩
            · obtain ⟨c, r, e, ne⟩ := ih (m / 10) (by omega) (by omega)
              exact ⟨c, r ++ [48 + m % 10], by rw [TL.numL_step (by omega), e]; rfl, ne⟩
        exact this k (by omega)
      obtain ⟨c, r, e, ne⟩ := hd
      rw [e]
      have : decide ((c :: r).head? = some 48) = false := decide_eq_false fun z => ne (Option.some.inj z)
      rw [this, Bool.and_false]
  have vl : val8 (TL.numL k) = (k : Int) := by
    unfold val8
    rw [TL.numL_val]
  unfold numP
  rw [vl, if_pos ⟨dg, ln, ld, h1, h2⟩]
theorem iL_nat0 {i : Int} (h : 0 ≤ i) : iL i = TL.numL i.toNat := by
  obtain ⟨k, rfl⟩ : ∃ k : Nat, i = k := ⟨i.toNat, by omega⟩
  rw [iL_nat, Int.toNat_natCast]
theorem iL_back {i : Int} {lo hi : Int} (h0 : 0 ≤ i) (h : i < 1000) (h1 : lo ≤ i) (h2 : i ≤ hi) : numP lo hi (iL i) = some i := by
  obtain ⟨k, rfl⟩ : ∃ k : Nat, i = k := ⟨i.toNat, by omega⟩
  rw [iL_nat]
  exact numP_back (by omega) h1 h2
theorem iL_free {i : Int} (h : 0 ≤ i) {s : Nat} (hs : s < 48 ∨ 57 < s) : s ∉ iL i := by
  rw [iL_nat0 h]
  exact TL.numL_free hs
theorem chan_back {n : Nat} {c : Tri} (n40 : n ≤ 40) (ok : ChOk n c) : chanP n (lineL c) = some c := by
  obtain ⟨⟨a1, a2⟩, ⟨a3, a4⟩, ne, a5, a6⟩ := ok
  have e : lineL c = TL.joinL [32] [iL c.1, [62], iL c.2.1, [58], iL c.2.2] := by
    unfold lineL
    simp only [TL.joinL]
    simp [cl]
  unfold chanP
  rw [e, SX.spl_join (by intro z; cases z)]
  · show (if [62] = [62] ∧ [58] = [58] then (match numP 0 ((n : Nat) - 1) (iL c.1), numP 0 ((n : Nat) - 1) (iL c.2.1), numP 1 999 (iL c.2.2) with
        | some i, some j, some k => if i = j then none else some (i, j, k)
        | _, _, _ => none) else none) = some c
    rw [if_pos ⟨rfl, rfl⟩, iL_back a1 (by omega) a1 (by omega), iL_back a3 (by omega) a3 (by omega), iL_back (by omega) (by omega) a5 a6]
    show (if c.1 = c.2.1 then none else some (c.1, c.2.1, c.2.2)) = some c
    rw [if_neg ne]
  · intro p hp
    simp only [List.mem_cons, List.not_mem_nil, or_false] at hp
    rcases hp with z | z | z | z | z <;> rw [z]
    · exact iL_free a1 (by decide)
    · decide
    · exact iL_free a3 (by decide)
    · decide
    · exact iL_free (by omega) (by decide)
theorem head_back {ring : Bool} {n : Nat} (h1 : (if ring = true then 3 else 1) ≤ n) (n40 : n ≤ 40) : headP (headL ring n) = some (ring, (n : Int)) := by
  have e : headL ring n = TL.joinL [32] [wordL ring, TL.numL n] := by
    unfold headL
    simp only [TL.joinL]
    simp [cl]
  unfold headP
  rw [e, SX.spl_join (by intro z; cases z)]
  · show (if wordL ring = cl "ring" then (numP 3 40 (TL.numL n)).map (fun i => (true, i)) else if wordL ring = cl "pipeline" then (numP 1 40 (TL.numL n)).map (fun i => (false, i)) else none) = _
    cases ring with
    | true => rw [if_pos rfl] at h1; rw [if_pos (show wordL true = cl "ring" from rfl), numP_back (by omega) (by omega) (by omega)]; rfl
    | false => rw [if_neg (by decide)] at h1; rw [if_neg (show wordL false ≠ cl "ring" by decide), if_pos (show wordL false = cl "pipeline" from rfl), numP_back (by omega) (by omega) (by omega)]; rfl
  · intro p hp
    simp only [List.mem_cons, List.not_mem_nil, or_false] at hp
    rcases hp with z | z <;> rw [z]
    · cases ring <;> decide
    · exact TL.numL_free (by decide)
theorem line_free {c : Tri} (h1 : 0 ≤ c.1) (h2 : 0 ≤ c.2.1) (h3 : 0 ≤ c.2.2) : asc (lineL c) = true ∧ 10 ∉ lineL c := by
  unfold lineL
  refine ⟨asc_cat (asc_int h1) (asc_cat (by decide) (asc_cat (asc_int h2) (asc_cat (by decide) (asc_int h3)))), fun z => ?_⟩
  rcases List.mem_append.mp z with z | z
  · exact iL_free h1 (by decide) z
  rcases List.mem_append.mp z with z | z
  · exact absurd z (by decide)
  rcases List.mem_append.mp z with z | z
  · exact iL_free h2 (by decide) z
  rcases List.mem_append.mp z with z | z
  · exact absurd z (by decide)
  · exact iL_free h3 (by decide) z
theorem head_free (ring : Bool) (n : Nat) : asc (headL ring n) = true ∧ 10 ∉ headL ring n := by
  unfold headL
  refine ⟨asc_cat (by cases ring <;> decide) (asc_cat (by decide) (asc_num n)), fun z => ?_⟩
  rcases List.mem_append.mp z with z | z
  · exact absurd z (by cases ring <;> decide)
  rcases List.mem_append.mp z with z | z
  · exact absurd z (by decide)
  · exact TL.numL_free (by decide) z
theorem net_asc {ring : Bool} {n : Nat} {cs : List Tri} (n40 : n ≤ 40) (ok : ∀ c ∈ cs, ChOk n c) (hl : cs.length ≤ 130) : asc (netL ring n cs) = true ∧ (netL ring n cs).length ≤ 6000 := by
  have all : ∀ w ∈ netRows ring n cs, asc w = true := fun w hw => by
    unfold netRows at hw
    rcases List.mem_cons.mp hw with e | e
    · rw [e]; exact (head_free ring n).1
    · obtain ⟨c, hc, rfl⟩ := List.mem_map.mp e
      obtain ⟨⟨a1, a2⟩, ⟨a3, a4⟩, _, a5, a6⟩ := ok c hc
      exact (line_free a1 a3 (by omega)).1
  obtain ⟨j1, j2⟩ := join_ok (s := 10) (by decide) all
  refine ⟨j1, Nat.le_trans j2 ?_⟩
  have len : ∀ w ∈ netRows ring n cs, w.length ≤ 40 := fun w hw => by
    have := rows_len (ring := ring) n40 ok (S w) (List.mem_map.mpr ⟨w, hw, rfl⟩)
    rw [S_len] at this
    exact this
  have k : ∀ ws : List (List Nat), (∀ w ∈ ws, w.length ≤ 40) → wt ws ≤ 41 * ws.length := fun ws => by
    induction ws with
    | nil => exact fun _ => Nat.le_refl _
    | cons a r ih =>
      intro h
      have h1 := h a List.mem_cons_self
      have h2 := ih fun w hw => h w (List.mem_cons_of_mem _ hw)
      rw [show a :: r = [a] ++ r from rfl, wt_cat, wt_one, List.length_append]
      show _ ≤ 41 * (1 + r.length)
      omega
  have := k _ len
  have e : (netRows ring n cs).length = cs.length + 1 := by unfold netRows; rw [List.length_cons, List.length_map]
  rw [e] at this
  omega
theorem net_back {ring : Bool} {n : Nat} {cs : List Tri} (h1 : (if ring = true then 3 else 1) ≤ n) (n40 : n ≤ 40) (ok : ∀ c ∈ cs, ChOk n c) (fit : ∀ k c, cs[k]? = some c → okOf ring n (cs.take k) c) (full : ring = true → cs.length = n) : NetGood (netL ring n cs) ring n cs := by
  refine ⟨headL ring n, cs.map lineL, ?_, head_back h1 n40, ⟨?_, fit⟩, full⟩
  · unfold netL netRows
    rw [SX.spl_join (by intro z; cases z)]
    intro p hp
    rcases List.mem_cons.mp hp with e | e
    · rw [e]; exact (head_free ring n).2
    · obtain ⟨c, hc, rfl⟩ := List.mem_map.mp e
      obtain ⟨⟨a1, a2⟩, ⟨a3, a4⟩, _, a5, a6⟩ := ok c hc
      exact (line_free a1 a3 (by omega)).2
  · rw [List.map_map]
    exact List.map_congr_left fun c hc => chan_back n40 (ok c hc)
theorem good_pipe {n : Nat} {cs : List Tri} (n1 : 1 ≤ n) (n40 : n ≤ 40) (L : LkRes n cs) : NetGood (netL false n cs) false n cs := by
  refine net_back (by rw [if_neg (by decide)]; exact n1) n40 L.ok (fun k c e => ?_) (fun z => by cases z)
  have hk := (List.getElem?_eq_some_iff.mp e).1
  have l120 := L.len
  have st := lk_strict n40 L
  refine ⟨by rw [List.length_take]; omega, fun d hd => ?_, ?_⟩
  · cases k with
    | zero => rw [List.take_zero] at hd; cases hd
    | succ j =>
      have hj : j < cs.length := by omega
      have ej : cs[j]? = some cs[j] := List.getElem?_eq_getElem hj
      rw [last_take ej] at hd
      cases hd
      have z := (List.pairwise_iff_getElem.mp st) j (j + 1) hj hk (by omega)
      have ek : cs[j + 1] = c := by rw [List.getElem?_eq_getElem hk] at e; exact Option.some.inj e
      rw [ek] at z
      have o1 := L.ok cs[j] (List.getElem_mem hj)
      have o2 := L.ok c (List.mem_of_getElem? e)
      obtain ⟨⟨a1, a2⟩, ⟨a3, a4⟩, _, a5, a6⟩ := o1
      obtain ⟨⟨b1, b2⟩, ⟨b3, b4⟩, _, b5, b6⟩ := o2
      have nd := L.nd
      have ne : ¬ (cs[j].1 = c.1 ∧ cs[j].2.1 = c.2.1) := fun q => by
        have y := (List.pairwise_iff_getElem.mp (List.pairwise_map.mp nd)) j (j + 1) hj hk (by omega)
        rw [ek] at y
        apply y
        unfold pairOf2
        exact Prod.ext q.1 q.2
      unfold key at z
      unfold lt2
      omega
  · have e2 : cs.take k ++ [c] = cs.take (k + 1) := (take_snoc e).symm
    rw [e2]
    exact L.acyc.sub fun x hx => List.mem_of_mem_take hx
theorem good_ring {n : Nat} {ns : List Int} (n3 : 3 ≤ n) (n40 : n ≤ 40) (hn : ns.length = n) (z : SzOk ns) : NetGood (netL true n (ringOf ns)) true n (ringOf ns) := by
  subst hn
  refine net_back (by rw [if_pos rfl]; exact n3) n40 (ringOf_ok z n3) (fun k c e => ?_) (fun _ => ringOf_len _)
  have hk := (List.getElem?_eq_some_iff.mp e).1
  rw [ringOf_len] at hk
  have hm : ns[k]? = some ns[k] := List.getElem?_eq_getElem hk
  rw [ringOf_at hm] at e
  cases e
  show okR ns.length _ _
  unfold okR
  rw [List.length_take, ringOf_len, Nat.min_eq_left (by omega)]
  exact ⟨rfl, rfl⟩
end WC

set_option maxHeartbeats 8000000
namespace WC
open PySem PySem.Spec PyProof.Rows L2 SX
/-! lists of pieces -/
def GL (xs : List V) : Prop := ∀ v ∈ xs, ∃ w, v = .str (S w) ∧ asc w = true ∧ w.length ≤ 4500
theorem GL.nil : GL [] := fun v h => by cases h
theorem GL.cons {s : Str} {w : List Nat} {xs : List V} (e : s = S w) (a : asc w = true) (l : w.length ≤ 4500) (h : GL xs) : GL (.str s :: xs) := fun v hv => by
  rcases List.mem_cons.mp hv with z | z
  · exact ⟨w, by rw [z, e], a, l⟩
  · exact h v z
theorem GL.cat {xs ys : List V} (h : GL xs) (g : GL ys) : GL (xs ++ ys) := fun v hv => (List.mem_append.mp hv).elim (h v) (g v)
theorem GL.at {xs : List V} (h : GL xs) {k : Nat} (hk : k < xs.length) : ∃ w, atI xs ((k : Nat) : Int) = some (.str (S w)) ∧ asc w = true ∧ w.length ≤ 4500 := by
  obtain ⟨w, e, a, l⟩ := h _ (List.getElem_mem hk)
  exact ⟨w, atI_nat (j := k) (by rw [List.getElem?_eq_getElem hk, e]), a, l⟩
/-- a piece drawn -/
def spPc8 : Sp := fun vs H Q _ => ∃ b : Addr, vs = [.ref b] ∧ BagAt H b ∧ ∀ w H2, SameB b H H2 → BagAt H2 b → asc w = true → w.length ≤ 4600 → Q (.str (S w)) H2
def spBent8 : Sp := fun vs H Q _ => ∃ (b : Addr) (l : List Nat), vs = [.ref b, .str (S l)] ∧ BagAt H b ∧ asc l = true ∧ l.length ≤ 600000 ∧ ∀ w H2, SameB b H H2 → BagAt H2 b → asc w = true → w.length ≤ l.length + 4600 → Q (.str (S w)) H2
theorem st_cat {s : String} {l : List Nat} : (Str.ofString s ++ S l : Str) = S (cl s ++ l) := by rw [ofS, S_cat]
section
variable {P : Program} {w : World} {K : PySem.W.Frag} {mg : Str → Option Value} {base : Heap}
theorem ok_line8 {f : Addr} {fd : FuncData} (F : Fun K "_law_line" "_law_line" s_law_line f fd) (B : Blt mg) (g_law_draw : DefR P w K mg base "_law_draw" 1 spDraw) : FnOk P w K mg base (L2.CX P w) 2 f fd ["bag"] spPc8 := by
  refine F.okX sc_law_line (fun vs H Q E h => ?_) (fun cdv A outer s H vs Q E hr h => ?_)
  · obtain ⟨b, rfl, _⟩ := h
    rfl
  · obtain ⟨b, rfl, b0, q⟩ := h
    have s0 : SameB b H H := SameB.of (Same.refl H)
    refine ⟨_, (pss_cons (ps_set (i := 1) sc_law_line.nd rfl (Or.inl rfl) (pe_lst (pa_cons pe_str (pa_cons pe_str (pa_cons pe_str (pa_cons pe_str (pa_cons pe_str (pa_cons pe_str (pa_cons pe_str (pa_cons pe_str pa_nil))))))))))
      (pss_cons (ps_set (i := 1) sc_law_line.nd rfl (Or.inl rfl) (pe_op op_cat (pv 1) (pe_lst (pa_cons pe_str (pa_cons pe_str (pa_cons pe_str (pa_cons pe_str (pa_cons pe_str (pa_cons pe_str pa_nil)))))))))
      (pss_cons (ps_set (i := 1) sc_law_line.nd rfl (Or.inl rfl) (pe_op op_cat (pv 1) (pe_lst (pa_cons pe_str (pa_cons pe_str (pa_cons pe_str (pa_cons pe_str (pa_cons pe_str (pa_cons pe_str pa_nil)))))))))
      (pss_cons (ps_set (i := 1) sc_law_line.nd rfl (Or.inl rfl) (pe_op op_cat (pv 1) (pe_lst (pa_cons pe_str (pa_cons pe_str (pa_cons pe_str (pa_cons pe_str (pa_cons pe_str pa_nil))))))))
      (pss_cons (ps_set (i := 1) sc_law_line.nd rfl (Or.inl rfl) (pe_op op_cat (pv 1) (pe_lst (pa_cons pe_str (pa_cons pe_str (pa_cons pe_str (pa_cons pe_str (pa_cons pe_str (pa_cons pe_str pa_nil)))))))))
      (pss_cons (ps_set (i := 1) sc_law_line.nd rfl (Or.inl rfl) (pe_op op_cat (pv 1) (pe_lst (pa_cons pe_str (pa_cons pe_str (pa_cons pe_str (pa_cons (pe_op op_add_str pe_str (pe_op op_mulS pe_str pe_int)) pa_nil)))))))
      (pss_one (ps_ret (pe_ix ix_list (pv 1) (pe_cd g_law_draw hr psE (pa_cons (pv 0) (pa_cons (pe_callB call_len_seq (by rfl) B.len bt_len (pa_cons (pv 1) pa_nil)) pa_nil))) (fun _ _ => rfl)))))))))), ?_⟩
    refine seq_mid (fun σ H5 => ∃ R xs, σ = [some (.ref b), some (.ref R)] ∧ SameB b H H5 ∧ BagAt H5 b ∧ R ≠ b ∧ H5 R = some (.lst xs) ∧ GL xs ∧ xs.length = 8) (fun M hM => ?_) ?_
    · exact ⟨by show 8 ≤ sizeLine; decide, fun p1 np1 => hM _ _ ⟨p1, _, rfl, s0.trans (SameB.of (Same.new np1)), b0.same (Same.new np1), (bag_ne b0 np1).symm, upd_same, (GL.cons (ofS _) (by decide) (by decide) (GL.cons (ofS _) (by decide) (by decide) (GL.cons (ofS _) (by decide) (by decide) (GL.cons (ofS _) (by decide) (by decide) (GL.cons (ofS _) (by decide) (by decide) (GL.cons (ofS _) (by decide) (by decide) (GL.cons (ofS _) (by decide) (by decide) (GL.cons (ofS _) (by decide) (by decide) GL.nil)))))))), rfl⟩⟩
    rintro σ H5 ⟨R, xs, rfl, s0, b0, Rb, hR, G, ln⟩
    refine seq_mid (fun σ H5 => ∃ R xs, σ = [some (.ref b), some (.ref R)] ∧ SameB b H H5 ∧ BagAt H5 b ∧ R ≠ b ∧ H5 R = some (.lst xs) ∧ GL xs ∧ xs.length = 14) (fun M hM => ?_) ?_
    · exact ⟨_, rfl, by show 6 ≤ sizeLine; decide, fun p1 np1 => ⟨R, p1, xs, _, rfl, rfl, (Same.new np1) _ _ hR, upd_same, by rw [ln]; show 8 + 6 ≤ sizeLine; decide, fun p2 np2 => hM _ _ ⟨p2, _, rfl, s0.trans (SameB.of ((Same.new np1).trans (Same.new np2))), b0.same ((Same.new np1).trans (Same.new np2)), (bag_ne (b0.same (Same.new np1)) np2).symm, upd_same, G.cat (GL.cons (ofS _) (by decide) (by decide) (GL.cons (ofS _) (by decide) (by decide) (GL.cons (ofS _) (by decide) (by decide) (GL.cons (ofS _) (by decide) (by decide) (GL.cons (ofS _) (by decide) (by decide) (GL.cons (ofS _) (by decide) (by decide) GL.nil)))))), by rw [List.length_append, ln]; rfl⟩⟩⟩
    clear G ln hR s0 b0 Rb
    rintro σ H5 ⟨R, xs, rfl, s0, b0, Rb, hR, G, ln⟩
    refine seq_mid (fun σ H5 => ∃ R xs, σ = [some (.ref b), some (.ref R)] ∧ SameB b H H5 ∧ BagAt H5 b ∧ R ≠ b ∧ H5 R = some (.lst xs) ∧ GL xs ∧ xs.length = 20) (fun M hM => ?_) ?_
    · exact ⟨_, rfl, by show 6 ≤ sizeLine; decide, fun p1 np1 => ⟨R, p1, xs, _, rfl, rfl, (Same.new np1) _ _ hR, upd_same, by rw [ln]; show 14 + 6 ≤ sizeLine; decide, fun p2 np2 => hM _ _ ⟨p2, _, rfl, s0.trans (SameB.of ((Same.new np1).trans (Same.new np2))), b0.same ((Same.new np1).trans (Same.new np2)), (bag_ne (b0.same (Same.new np1)) np2).symm, upd_same, G.cat (GL.cons (ofS _) (by decide) (by decide) (GL.cons (ofS _) (by decide) (by decide) (GL.cons (ofS _) (by decide) (by decide) (GL.cons (ofS _) (by decide) (by decide) (GL.cons (ofS _) (by decide) (by decide) (GL.cons (ofS _) (by decide) (by decide) GL.nil)))))), by rw [List.length_append, ln]; rfl⟩⟩⟩
    clear G ln hR s0 b0 Rb
    rintro σ H5 ⟨R, xs, rfl, s0, b0, Rb, hR, G, ln⟩
    refine seq_mid (fun σ H5 => ∃ R xs, σ = [some (.ref b), some (.ref R)] ∧ SameB b H H5 ∧ BagAt H5 b ∧ R ≠ b ∧ H5 R = some (.lst xs) ∧ GL xs ∧ xs.length = 25) (fun M hM => ?_) ?_
    · exact ⟨_, rfl, by show 5 ≤ sizeLine; decide, fun p1 np1 => ⟨R, p1, xs, _, rfl, rfl, (Same.new np1) _ _ hR, upd_same, by rw [ln]; show 20 + 5 ≤ sizeLine; decide, fun p2 np2 => hM _ _ ⟨p2, _, rfl, s0.trans (SameB.of ((Same.new np1).trans (Same.new np2))), b0.same ((Same.new np1).trans (Same.new np2)), (bag_ne (b0.same (Same.new np1)) np2).symm, upd_same, G.cat (GL.cons (ofS _) (by decide) (by decide) (GL.cons (ofS _) (by decide) (by decide) (GL.cons (ofS _) (by decide) (by decide) (GL.cons (ofS _) (by decide) (by decide) (GL.cons (ofS _) (by decide) (by decide) GL.nil))))), by rw [List.length_append, ln]; rfl⟩⟩⟩
    clear G ln hR s0 b0 Rb
    rintro σ H5 ⟨R, xs, rfl, s0, b0, Rb, hR, G, ln⟩
    refine seq_mid (fun σ H5 => ∃ R xs, σ = [some (.ref b), some (.ref R)] ∧ SameB b H H5 ∧ BagAt H5 b ∧ R ≠ b ∧ H5 R = some (.lst xs) ∧ GL xs ∧ xs.length = 31) (fun M hM => ?_) ?_
    · exact ⟨_, rfl, by show 6 ≤ sizeLine; decide, fun p1 np1 => ⟨R, p1, xs, _, rfl, rfl, (Same.new np1) _ _ hR, upd_same, by rw [ln]; show 25 + 6 ≤ sizeLine; decide, fun p2 np2 => hM _ _ ⟨p2, _, rfl, s0.trans (SameB.of ((Same.new np1).trans (Same.new np2))), b0.same ((Same.new np1).trans (Same.new np2)), (bag_ne (b0.same (Same.new np1)) np2).symm, upd_same, G.cat (GL.cons (ofS _) (by decide) (by decide) (GL.cons (ofS _) (by decide) (by decide) (GL.cons (ofS _) (by decide) (by decide) (GL.cons (ofS _) (by decide) (by decide) (GL.cons (ofS _) (by decide) (by decide) (GL.cons (ofS _) (by decide) (by decide) GL.nil)))))), by rw [List.length_append, ln]; rfl⟩⟩⟩
    clear G ln hR s0 b0 Rb
    rintro σ H5 ⟨R, xs, rfl, s0, b0, Rb, hR, G, ln⟩
    refine seq_mid (fun σ H5 => ∃ R xs, σ = [some (.ref b), some (.ref R)] ∧ SameB b H H5 ∧ BagAt H5 b ∧ R ≠ b ∧ H5 R = some (.lst xs) ∧ GL xs ∧ xs.length = 35) (fun M hM => ?_) ?_
    · exact ⟨_, rfl, 55, 4400, rfl, rfl, by decide, by decide, _, _, rfl, rfl, line8 (by decide +kernel), by show 4 ≤ sizeLine; decide, fun p1 np1 => ⟨R, p1, xs, _, rfl, rfl, (Same.new np1) _ _ hR, upd_same, by rw [ln]; show 31 + 4 ≤ sizeLine; decide, fun p2 np2 => hM _ _ ⟨p2, _, rfl, s0.trans (SameB.of ((Same.new np1).trans (Same.new np2))), b0.same ((Same.new np1).trans (Same.new np2)), (bag_ne (b0.same (Same.new np1)) np2).symm, upd_same, G.cat (GL.cons (ofS _) (by decide) (by decide) (GL.cons (ofS _) (by decide) (by decide) (GL.cons (ofS _) (by decide) (by decide) (GL.cons st_cat (asc_cat (by decide) (asc_rep (by decide))) (by rw [List.length_append, List.length_replicate]; decide) GL.nil)))), by rw [List.length_append, ln]; rfl⟩⟩⟩
    clear G ln hR s0 b0 Rb
    rintro σ H5 ⟨R, xs, rfl, s0, b0, Rb, hR, G, ln⟩
    refine ⟨_, rfl, _, rfl, _, rfl, R, _, rfl, .inl (SqL.of hR), b, _, rfl, b0, by rw [ln]; decide, by rw [ln]; decide, fun d H2 d0 d1 s2 b2 => ?_⟩
    rw [ln] at d1
    obtain ⟨k, rfl⟩ : ∃ k : Nat, d = k := ⟨d.toNat, by omega⟩
    obtain ⟨u, at0, a, l⟩ := G.at (k := k) (by omega)
    exact ⟨R, _, _, _, rfl, rfl, SqL.of (s2 _ _ hR Rb), at0, q u H2 (s0.trans s2) b2 a (by omega)⟩
theorem ok_head_drawn8 {f : Addr} {fd : FuncData} (F : Fun K "_law_head" "_law_head" s_law_head f fd) (B : Blt mg) (g_law_draw : DefR P w K mg base "_law_draw" 1 spDraw) : FnOk P w K mg base (L2.CX P w) 2 f fd ["bag"] spPc8 := by
  refine F.okX sc_law_head (fun vs H Q E h => ?_) (fun cdv A outer s H vs Q E hr h => ?_)
  · obtain ⟨b, rfl, _⟩ := h
    rfl
  · obtain ⟨b, rfl, hb, q⟩ := h
    refine ⟨_, (pss_cons (ps_if (pt_cmpR op_eq (pe_cd g_law_draw hr psE (pa_cons (pv 0) (pa_cons pe_int pa_nil))) pe_int (nomark _)) (pss_cons (ps_set (i := 1) sc_law_head.nd rfl (Or.inl rfl) (pe_lst (pa_cons pe_int (pa_cons pe_int (pa_cons pe_int (pa_cons pe_int (pa_cons pe_int (pa_cons pe_int (pa_cons pe_int (pa_cons pe_int (pa_cons pe_int (pa_cons pe_int pa_nil))))))))))))
      (pss_one (ps_ret (pe_op op_add_str (pe_ix ix_list (pe_lst (pa_cons pe_str (pa_cons pe_str pa_nil))) (pe_cd g_law_draw hr psE (pa_cons (pv 0) (pa_cons pe_int pa_nil))) (fun _ _ => rfl)) (pe_callTy (T := "str") call_str_int (by rfl) B.str bt_str (pa_cons (pe_ix ix_list (pv 1) (pe_cd g_law_draw hr psE (pa_cons (pv 0) (pa_cons pe_int pa_nil))) (fun _ _ => rfl)) pa_nil)))))) pss_nil)
      (pss_cons (ps_set (i := 2) sc_law_head.nd rfl (Or.inl rfl) (pe_lst (pa_cons pe_str (pa_cons pe_str (pa_cons pe_str (pa_cons pe_str (pa_cons pe_str (pa_cons pe_str (pa_cons pe_str pa_nil)))))))))
      (pss_cons (ps_set (i := 2) sc_law_head.nd rfl (Or.inl rfl) (pe_op op_cat (pv 2) (pe_lst (pa_cons pe_str (pa_cons pe_str (pa_cons pe_str (pa_cons pe_str (pa_cons pe_str (pa_cons pe_str pa_nil)))))))))
      (pss_cons (ps_set (i := 2) sc_law_head.nd rfl (Or.inl rfl) (pe_op op_cat (pv 2) (pe_lst (pa_cons pe_str (pa_cons pe_str (pa_cons pe_str (pa_cons pe_str (pa_cons pe_str (pa_cons pe_str (pa_cons pe_str pa_nil))))))))))
      (pss_cons (ps_set (i := 2) sc_law_head.nd rfl (Or.inl rfl) (pe_op op_cat (pv 2) (pe_lst (pa_cons pe_str (pa_cons pe_str (pa_cons pe_str (pa_cons pe_str (pa_cons pe_str (pa_cons pe_str pa_nil)))))))))
      (pss_cons (ps_set (i := 2) sc_law_head.nd rfl (Or.inl rfl) (pe_op op_cat (pv 2) (pe_lst (pa_cons pe_str (pa_cons (pe_op op_add_str pe_str (pe_op op_mulS pe_str pe_int)) (pa_cons pe_str (pa_cons pe_str pa_nil)))))))
      (pss_one (ps_ret (pe_ix ix_list (pv 2) (pe_cd g_law_draw hr psE (pa_cons (pv 0) (pa_cons (pe_callB call_len_seq (by rfl) B.len bt_len (pa_cons (pv 2) pa_nil)) pa_nil))) (fun _ _ => rfl)))))))))), ?_⟩
    refine ⟨_, rfl, b, 2, rfl, hb, by decide, by decide, fun d0 H1 d1 d2 s0 b0 => ⟨rfl, _, rfl, ite2 (fun _ => ?_) (fun _ => ?_)⟩⟩
    · refine ⟨by show 10 ≤ sizeLine; decide, fun p1 np1 => ?_⟩
      obtain ⟨zs, ez⟩ : ∃ zs : List Int, zs = [0, 1, 2, 3, 4, 6, 39, 40, 41, 100] := ⟨_, rfl⟩
      have zl : zs.length = 10 := by rw [ez]; rfl
      have zb : ∀ z ∈ zs, 0 ≤ z ∧ z ≤ 100 := by rw [ez]; decide
      obtain ⟨H2, e2⟩ : ∃ H2, H2 = upd H1 p1 (.lst [.int 0, .int 1, .int 2, .int 3, .int 4, .int 6, .int 39, .int 40, .int 41, .int 100]) := ⟨_, rfl⟩
      have s2 : Same H1 H2 := by rw [e2]; exact Same.new np1
      have h2 : H2 p1 = some (.lst (zs.map V.int)) := by rw [e2, upd_same, ez]; rfl
      have b2 := b0.same s2
      have p1b : p1 ≠ b := (bag_ne b0 np1).symm
      rw [← e2]
      clear ez e2
      dsimp only [gName]
      refine ⟨by show 2 ≤ sizeLine; decide, fun p np => ?_⟩
      have s3 : Same H2 (upd H2 p (.lst [.str "pipeline ", .str "ring "])) := Same.new np
      have b3 := b2.same s3
      have pb : p ≠ b := (bag_ne b2 np).symm
      refine ⟨_, rfl, b, 2, rfl, b3, by decide, by decide, fun g H4 g0 g1 s4 b4 => ?_⟩
      have h4 := s4 _ _ (upd_same (H := H2) (a := p) (o := .lst [.str "pipeline ", .str "ring "])) pb
      obtain ⟨u, hu, ua, ul⟩ : ∃ u, atI [V.str "pipeline ", .str "ring "] g = some (.str (S u)) ∧ asc u = true ∧ u.length ≤ 20 := by
        rcases (by omega : g = 0 ∨ g = 1) with e | e <;> subst e
        · exact ⟨cl "pipeline ", by rw [← ofS]; exact atI_nat (j := 0) rfl, by decide, by decide⟩
        · exact ⟨cl "ring ", by rw [← ofS]; exact atI_nat (j := 1) rfl, by decide, by decide⟩
      refine ⟨p, _, _, _, rfl, rfl, SqL.of h4, hu, _, rfl, _, rfl, b, 10, rfl, b4, by decide, by decide, fun d H5 d0 d1 s5 b5 => ?_⟩
      obtain ⟨k, rfl⟩ : ∃ k : Nat, d = k := ⟨d.toNat, by omega⟩
      have hk : k < zs.length := by omega
      have hz := zb _ (List.getElem_mem hk)
      have at0 : atI (zs.map V.int) ((k : Nat) : Int) = some (.int zs[k]) := atI_nat (j := k) (by rw [List.getElem?_map, List.getElem?_eq_getElem hk]; rfl)
      generalize zs[k] = z at hz at0
      have h5 := s5 _ _ (s4 _ _ (s3 _ _ h2) p1b) p1b
      have zl2 := int_len (i := z) (by omega)
      refine ⟨p1, _, _, _, rfl, rfl, SqL.of h5, at0, z, rfl, log_ok (by omega), _, _, rfl, rfl, line_of (by rw [S_len]; omega), ?_⟩
      rw [int_str] at zl2 ⊢
      rw [S_cat]
      rw [S_len] at zl2
      exact q _ H5 ((s0.trans (SameB.of (s2.trans s3))).trans (s4.trans s5)) b5 (asc_cat ua (asc_int hz.1)) (by rw [List.length_append]; omega)
    dsimp only [tNext]
    refine seq_mid (fun σ H5 => ∃ R xs, σ = [some (.ref b), none, some (.ref R)] ∧ SameB b H H5 ∧ BagAt H5 b ∧ R ≠ b ∧ H5 R = some (.lst xs) ∧ GL xs ∧ xs.length = 7) (fun M hM => ?_) ?_
    · exact ⟨by show 7 ≤ sizeLine; decide, fun p1 np1 => hM _ _ ⟨p1, _, rfl, s0.trans (SameB.of (Same.new np1)), b0.same (Same.new np1), (bag_ne b0 np1).symm, upd_same, (GL.cons (ofS _) (by decide) (by decide) (GL.cons (ofS _) (by decide) (by decide) (GL.cons (ofS _) (by decide) (by decide) (GL.cons (ofS _) (by decide) (by decide) (GL.cons (ofS _) (by decide) (by decide) (GL.cons (ofS _) (by decide) (by decide) (GL.cons (ofS _) (by decide) (by decide) GL.nil))))))), rfl⟩⟩
    rintro σ H5 ⟨R, xs, rfl, s0, b0, Rb, hR, G, ln⟩
    refine seq_mid (fun σ H5 => ∃ R xs, σ = [some (.ref b), none, some (.ref R)] ∧ SameB b H H5 ∧ BagAt H5 b ∧ R ≠ b ∧ H5 R = some (.lst xs) ∧ GL xs ∧ xs.length = 13) (fun M hM => ?_) ?_
    · exact ⟨_, rfl, by show 6 ≤ sizeLine; decide, fun p1 np1 => ⟨R, p1, xs, _, rfl, rfl, (Same.new np1) _ _ hR, upd_same, by rw [ln]; show 7 + 6 ≤ sizeLine; decide, fun p2 np2 => hM _ _ ⟨p2, _, rfl, s0.trans (SameB.of ((Same.new np1).trans (Same.new np2))), b0.same ((Same.new np1).trans (Same.new np2)), (bag_ne (b0.same (Same.new np1)) np2).symm, upd_same, G.cat (GL.cons (ofS _) (by decide) (by decide) (GL.cons (ofS _) (by decide) (by decide) (GL.cons (ofS _) (by decide) (by decide) (GL.cons (ofS _) (by decide) (by decide) (GL.cons (ofS _) (by decide) (by decide) (GL.cons (ofS _) (by decide) (by decide) GL.nil)))))), by rw [List.length_append, ln]; rfl⟩⟩⟩
    clear G ln hR s0 b0 Rb
    rintro σ H5 ⟨R, xs, rfl, s0, b0, Rb, hR, G, ln⟩
    refine seq_mid (fun σ H5 => ∃ R xs, σ = [some (.ref b), none, some (.ref R)] ∧ SameB b H H5 ∧ BagAt H5 b ∧ R ≠ b ∧ H5 R = some (.lst xs) ∧ GL xs ∧ xs.length = 20) (fun M hM => ?_) ?_
    · exact ⟨_, rfl, by show 7 ≤ sizeLine; decide, fun p1 np1 => ⟨R, p1, xs, _, rfl, rfl, (Same.new np1) _ _ hR, upd_same, by rw [ln]; show 13 + 7 ≤ sizeLine; decide, fun p2 np2 => hM _ _ ⟨p2, _, rfl, s0.trans (SameB.of ((Same.new np1).trans (Same.new np2))), b0.same ((Same.new np1).trans (Same.new np2)), (bag_ne (b0.same (Same.new np1)) np2).symm, upd_same, G.cat (GL.cons (ofS _) (by decide) (by decide) (GL.cons (ofS _) (by decide) (by decide) (GL.cons (ofS _) (by decide) (by decide) (GL.cons (ofS _) (by decide) (by decide) (GL.cons (ofS _) (by decide) (by decide) (GL.cons (ofS _) (by decide) (by decide) (GL.cons (ofS _) (by decide) (by decide) GL.nil))))))), by rw [List.length_append, ln]; rfl⟩⟩⟩
    clear G ln hR s0 b0 Rb
    rintro σ H5 ⟨R, xs, rfl, s0, b0, Rb, hR, G, ln⟩
    refine seq_mid (fun σ H5 => ∃ R xs, σ = [some (.ref b), none, some (.ref R)] ∧ SameB b H H5 ∧ BagAt H5 b ∧ R ≠ b ∧ H5 R = some (.lst xs) ∧ GL xs ∧ xs.length = 26) (fun M hM => ?_) ?_
    · exact ⟨_, rfl, by show 6 ≤ sizeLine; decide, fun p1 np1 => ⟨R, p1, xs, _, rfl, rfl, (Same.new np1) _ _ hR, upd_same, by rw [ln]; show 20 + 6 ≤ sizeLine; decide, fun p2 np2 => hM _ _ ⟨p2, _, rfl, s0.trans (SameB.of ((Same.new np1).trans (Same.new np2))), b0.same ((Same.new np1).trans (Same.new np2)), (bag_ne (b0.same (Same.new np1)) np2).symm, upd_same, G.cat (GL.cons (ofS _) (by decide) (by decide) (GL.cons (ofS _) (by decide) (by decide) (GL.cons (ofS _) (by decide) (by decide) (GL.cons (ofS _) (by decide) (by decide) (GL.cons (ofS _) (by decide) (by decide) (GL.cons (ofS _) (by decide) (by decide) GL.nil)))))), by rw [List.length_append, ln]; rfl⟩⟩⟩
    clear G ln hR s0 b0 Rb
    rintro σ H5 ⟨R, xs, rfl, s0, b0, Rb, hR, G, ln⟩
    refine seq_mid (fun σ H5 => ∃ R xs, σ = [some (.ref b), none, some (.ref R)] ∧ SameB b H H5 ∧ BagAt H5 b ∧ R ≠ b ∧ H5 R = some (.lst xs) ∧ GL xs ∧ xs.length = 30) (fun M hM => ?_) ?_
    · exact ⟨_, rfl, 51, 4400, rfl, rfl, by decide, by decide, _, _, rfl, rfl, line8 (by decide +kernel), by show 4 ≤ sizeLine; decide, fun p1 np1 => ⟨R, p1, xs, _, rfl, rfl, (Same.new np1) _ _ hR, upd_same, by rw [ln]; show 26 + 4 ≤ sizeLine; decide, fun p2 np2 => hM _ _ ⟨p2, _, rfl, s0.trans (SameB.of ((Same.new np1).trans (Same.new np2))), b0.same ((Same.new np1).trans (Same.new np2)), (bag_ne (b0.same (Same.new np1)) np2).symm, upd_same, G.cat (GL.cons (ofS _) (by decide) (by decide) (GL.cons st_cat (asc_cat (by decide) (asc_rep (by decide))) (by rw [List.length_append, List.length_replicate]; decide) (GL.cons (ofS _) (by decide) (by decide) (GL.cons (ofS _) (by decide) (by decide) GL.nil)))), by rw [List.length_append, ln]; rfl⟩⟩⟩
    clear G ln hR s0 b0 Rb
    rintro σ H5 ⟨R, xs, rfl, s0, b0, Rb, hR, G, ln⟩
    refine ⟨_, rfl, _, rfl, _, rfl, R, _, rfl, .inl (SqL.of hR), b, _, rfl, b0, by rw [ln]; decide, by rw [ln]; decide, fun d H2 d0 d1 s2 b2 => ?_⟩
    rw [ln] at d1
    obtain ⟨k, rfl⟩ : ∃ k : Nat, d = k := ⟨d.toNat, by omega⟩
    obtain ⟨u, at0, a, l⟩ := G.at (k := k) (by omega)
    exact ⟨R, _, _, _, rfl, rfl, SqL.of (s2 _ _ hR Rb), at0, q u H2 (s0.trans s2) b2 a (by omega)⟩
theorem ok_line_bent8 {f : Addr} {fd : FuncData} (F : Fun K "_law_line_bent" "_law_line_bent" s_law_line_bent f fd) (B : Blt mg) (g_law_draw : DefR P w K mg base "_law_draw" 1 spDraw) : FnOk P w K mg base (L2.CX P w) 2 f fd ["bag", "line"] spBent8 := by
  refine F.okX sc_law_line_bent (fun vs H Q E h => ?_) (fun cdv A outer s H vs Q E hr h => ?_)
  · obtain ⟨b, l, rfl, _⟩ := h
    rfl
  · obtain ⟨b, l, rfl, hb, ha, hz, q⟩ := h
    refine ⟨_, (pss_cons (ps_set (i := 2) sc_law_line_bent.nd rfl (Or.inl rfl) (pe_lst (pa_cons pe_str (pa_cons pe_str (pa_cons pe_str (pa_cons pe_str (pa_cons pe_str (pa_cons pe_str (pa_cons pe_str (pa_cons pe_str (pa_cons pe_str (pa_cons pe_str (pa_cons pe_str (pa_cons pe_str (pa_cons pe_str (pa_cons pe_str pa_nil))))))))))))))))
      (pss_cons (ps_set (i := 3) sc_law_line_bent.nd rfl (Or.inl rfl) (pe_split (pv 1) pe_str))
      (pss_cons (ps_asg (pe_ix ix_list (pv 2) (pe_cd g_law_draw hr psE (pa_cons (pv 0) (pa_cons (pe_callB call_len_seq (by rfl) B.len bt_len (pa_cons (pv 2) pa_nil)) pa_nil))) (fun _ _ => rfl)) (pg_sub (pv 3) (pe_cd g_law_draw hr psE (pa_cons (pv 0) (pa_cons (pe_callB call_len_seq (by rfl) B.len bt_len (pa_cons (pv 3) pa_nil)) pa_nil))) set_list))
      (pss_one (ps_ret (pe_join pe_str (pv 3))))))), ?_⟩
    refine ⟨by show 14 ≤ sizeLine; decide, fun R nR => ?_⟩
    have G : GL [.str "0", .str "1", .str "2", .str "999", .str "1000", .str "00", .str "01", .str "-1", .str "+1", .str "", .str ">", .str ":", .str "40", .str "x"] := (GL.cons (ofS _) (by decide) (by decide) (GL.cons (ofS _) (by decide) (by decide) (GL.cons (ofS _) (by decide) (by decide) (GL.cons (ofS _) (by decide) (by decide) (GL.cons (ofS _) (by decide) (by decide) (GL.cons (ofS _) (by decide) (by decide) (GL.cons (ofS _) (by decide) (by decide) (GL.cons (ofS _) (by decide) (by decide) (GL.cons (ofS _) (by decide) (by decide) (GL.cons (ofS _) (by decide) (by decide) (GL.cons (ofS _) (by decide) (by decide) (GL.cons (ofS _) (by decide) (by decide) (GL.cons (ofS _) (by decide) (by decide) (GL.cons (ofS _) (by decide) (by decide) GL.nil))))))))))))))
    have l14 : ([V.str "0", V.str "1", V.str "2", V.str "999", V.str "1000", V.str "00", V.str "01", V.str "-1", V.str "+1", V.str "", V.str ">", V.str ":", V.str "40", V.str "x"] : List V).length = 14 := rfl
    obtain ⟨xs, ex⟩ : ∃ xs, xs = ([V.str "0", V.str "1", V.str "2", V.str "999", V.str "1000", V.str "00", V.str "01", V.str "-1", V.str "+1", V.str "", V.str ">", V.str ":", V.str "40", V.str "x"] : List V) := ⟨_, rfl⟩
    rw [← ex] at G l14 ⊢
    obtain ⟨H1, e1⟩ : ∃ H1, H1 = upd H R (.lst xs) := ⟨_, rfl⟩
    have s1 : Same H H1 := by rw [e1]; exact Same.new nR
    have h1 : H1 R = some (.lst xs) := by rw [e1, upd_same]
    have b1 := hb.same s1
    have Rb : R ≠ b := (bag_ne hb nR).symm
    rw [← e1]
    clear ex e1
    dsimp only [gName]
    refine ⟨_, rfl, ⟨_, rfl⟩, _, _, rfl, rfl, rfl, line8 (by rw [S_len]; omega), fun p np => ?_⟩
    rw [split32]
    have pcs := spl1_asc (s := 32) ha
    have wl := wt_spl (s := 32) l []
    have pne : 0 < (TL.spl [32] 0 [] l).length := by
      cases e : TL.par [32] [] l with
      | none => rw [(par_spl l []).1 e]; exact Nat.zero_lt_one
      | some z => rw [(par_spl l []).2 z.1 z.2 e]; exact Nat.succ_pos _
    generalize TL.spl [32] 0 [] l = ws at pcs wl pne ⊢
    rw [List.length_nil] at wl
    have ln := wt_len ws
    obtain ⟨H2, e2⟩ : ∃ H2, H2 = upd H1 p (.lst ((ws.map S).map V.str)) := ⟨_, rfl⟩
    have s2 : Same H1 H2 := by rw [e2]; exact Same.new np
    have h2 : H2 p = some (.lst (rowsT ws)) := by rw [e2, upd_same]; rfl
    have b2 := b1.same s2
    have pb : p ≠ b := (bag_ne b1 np).symm
    have pR : R ≠ p := ne_of_none h1 np
    rw [← e2]
    dsimp only [gName]
    refine ⟨_, rfl, _, rfl, _, rfl, R, _, rfl, .inl (SqL.of (s2 _ _ h1)), b, _, rfl, b2, by omega, by omega, fun d H3 d0 d1 s3 b3 => ?_⟩
    obtain ⟨k, rfl⟩ : ∃ k : Nat, d = k := ⟨d.toNat, by omega⟩
    obtain ⟨u, at0, ua, ul⟩ := G.at (k := k) (by omega)
    refine ⟨R, _, _, _, rfl, rfl, SqL.of (s3 _ _ (s2 _ _ h1) Rb), at0, ?_⟩
    have h3 := s3 _ _ h2 pb
    refine ⟨_, rfl, _, rfl, _, rfl, p, _, rfl, .inl (SqL.of h3), b, _, rfl, b3, by rw [rowsT_len]; omega, by rw [rowsT_len]; omega, fun e H4 e0 e1 s4 b4 => ?_⟩
    rw [rowsT_len] at e1
    obtain ⟨m, rfl⟩ : ∃ m : Nat, e = m := ⟨e.toNat, by omega⟩
    have h4 := s4 _ _ h3 pb
    refine ⟨p, _, _, m, rfl, rfl, h4, ixn8 (by rw [rowsT_len]; omega), ?_⟩
    have h5 : upd H4 p (.lst ((rowsT ws).set m (.str (S u)))) p = some (.lst (rowsT (ws.set m u))) := by rw [upd_same, rowsT_set]
    have s5 : SameB b H (upd H4 p (.lst ((rowsT ws).set m (.str (S u))))) := (((SameB.of (s1.trans s2)).trans s3).trans s4).put ((s1.free np))
    have b5 : BagAt (upd H4 p (.lst ((rowsT ws).set m (.str (S u))))) b := by
      obtain ⟨x, y, e⟩ := b4
      exact ⟨x, y, by rw [upd_ne pb.symm]; exact e⟩
    refine ⟨⟨_, rfl⟩, _, rfl, ?_⟩
    have ws2 := wt_set (ws := ws) (a := u) (i := m)
    refine join_use (ofS " ") (by decide) h5 (fun w hw => ?_) (by omega) fun x xa xl => q x _ s5 b5 xa (by omega)
    rcases mem_set8 hw with z | z
    · exact (pcs w z).1
    · rw [z]; exact ua
end
end WC

set_option maxHeartbeats 8000000
namespace WC
open PySem PySem.Spec PyProof.Rows L2 SX
def MvIs (H : Hp) (n : Nat) (m : Int × Bool) (v : V) : Prop := MvV H m v ∧ 0 ≤ m.1 ∧ m.1 < n
def spNetT : Sp := fun vs H Q _ => ∃ (wr : Addr) (n : Nat) (cs : List Tri) (ring : Bool), vs = [.ref wr] ∧ WorldR H wr n cs ring ∧ n ≤ 40 ∧ (∀ c ∈ cs, ChOk n c) ∧ cs.length ≤ 130 ∧ ∀ H2, Same H H2 → Q (.str (S (netL ring n cs))) H2
def spStT : Sp := fun vs H Q _ => ∃ (t : Addr) (ns : List Int), vs = [.ref t] ∧ H t = some (.lst (ns.map V.int)) ∧ ns.length ≤ 40 ∧ (∀ c ∈ ns, 0 ≤ c ∧ c ≤ 999) ∧ ∀ H2, Same H H2 → Q (.str (S (stT ns))) H2
def spMvT : Sp := fun vs H Q _ => ∃ (R : Addr) (n : Nat) (ms : List (Int × Bool)) (ks : List V), vs = [.ref R] ∧ H R = some (.lst ks) ∧ Paired (MvIs H n) ms ks ∧ n ≤ 40 ∧ ms.length ≤ 1000 ∧ ∀ H2, Same H H2 → Q (.str (S (mvL ms))) H2
theorem wt_le {k : Nat} : ∀ {ws : List (List Nat)}, (∀ w ∈ ws, w.length ≤ k) → wt ws ≤ (k + 1) * ws.length
  | [], _ => Nat.zero_le _
  | a :: r, h => by
    have h1 := h a List.mem_cons_self
    have h2 := wt_le (ws := r) fun w hw => h w (List.mem_cons_of_mem _ hw)
    rw [show a :: r = [a] ++ r from rfl, wt_cat, wt_one, List.length_append]
    show _ ≤ (k + 1) * (1 + r.length)
    rw [Nat.mul_add]
    omega
theorem st_asc {ns : List Int} (l : ns.length ≤ 40) (h : ∀ c ∈ ns, 0 ≤ c ∧ c ≤ 999) : asc (stT ns) = true ∧ (stT ns).length ≤ 1000 := by
  obtain ⟨a, b⟩ := join_ok (s := 32) (by decide) (ws := ns.map iL) fun w hw => by
    obtain ⟨c, hc, rfl⟩ := List.mem_map.mp hw
    exact asc_int (h c hc).1
  refine ⟨a, Nat.le_trans b ?_⟩
  have := wt_le (k := 7) (ws := ns.map iL) fun w hw => by
    obtain ⟨c, hc, rfl⟩ := List.mem_map.mp hw
    have := iL_len (i := c) (by have := h c hc; omega)
    rw [S_len] at this
    exact this
  rw [List.length_map] at this
  omega
theorem mv_asc {H : Hp} {n : Nat} {ms : List (Int × Bool)} {ks : List V} (n40 : n ≤ 40) (l : ms.length ≤ 100) (p : Paired (MvIs H n) ms ks) : asc (mvL ms) = true ∧ (mvL ms).length ≤ 1000 := by
  have h : ∀ m ∈ ms, 0 ≤ m.1 ∧ m.1 < n := fun m hm => by
    obtain ⟨i, hi⟩ := List.mem_iff_getElem?.mp hm
    obtain ⟨v, _, _, m0, m1⟩ := pr_to p hi
    exact ⟨m0, m1⟩
  have sg : ∀ b, asc (sgL b) = true ∧ (sgL b).length = 1 := fun b => by cases b <;> decide
  obtain ⟨a, b⟩ := join_ok (s := 32) (by decide) (ws := ms.map mvW) fun w hw => by
    obtain ⟨m, hm, rfl⟩ := List.mem_map.mp hw
    exact asc_cat (sg m.2).1 (asc_int (h m hm).1)
  refine ⟨a, Nat.le_trans b ?_⟩
  have := wt_le (k := 8) (ws := ms.map mvW) fun w hw => by
    obtain ⟨m, hm, rfl⟩ := List.mem_map.mp hw
    have h2 := h m hm
    have := iL_len (i := m.1) (by omega)
    rw [S_len] at this
    unfold mvW
    rw [List.length_append, (sg m.2).2]
    omega
  rw [List.length_map] at this
  omega
section
variable {P : Program} {w : World} {K : PySem.W.Frag} {mg : Str → Option Value} {base : Heap}
theorem ok_state_text {f : Addr} {fd : FuncData} (F : Fun K "_law_state_text" "_law_state_text" s_law_state_text f fd) (B : Blt mg) : FnOk P w K mg base (L2.CX P w) 1 f fd ["state"] spStT := by
  refine F.okX sc_law_state_text (fun vs H Q E h => ?_) (fun cdv A outer s H vs Q E hr h => ?_)
  · obtain ⟨t, ns, rfl, _⟩ := h
    rfl
  · obtain ⟨t, ns, rfl, ht, l1, hk, q⟩ := h
    -- slots: 0 state, 1 counter
    refine ⟨_, (pss_one (ps_ret (pe_join pe_str (pe_lc (own := [("counter", 1)]) rfl sc_law_state_text.nd (pi_list (pv 0)) (blkOk_by (N := nn_law_state_text) (sc := defScope s_law_state_text) (own := [("counter", 1)]) (by decide +kernel)) (fun _ _ _ _ _ => (pg_name (i := 1) sc_law_state_text.nd rfl (Or.inl rfl))) (fun _ _ _ _ _ => pts_nil) (fun _ _ _ _ _ => (pe_callTy (T := "str") call_str_int (by rfl) B.str bt_str (pa_cons (pv 1) pa_nil))))))), ?_⟩
    refine ⟨⟨_, rfl⟩, _, rfl, t, rfl, ⟨_, SqL.of ht⟩, fun D hD => lc_it (walk_list (xs := ns.map V.int)) (fun i H3 => Same H H3 ∧ H3 D = some (.lst (((ns.take i).map fun c => S (iL c)).map V.str))) ⟨Same.new hD, upd_same⟩ (fun i H3 _ z => SqL.of (z.1 _ _ ht)) ?_ ?_⟩
    · rintro i y H3 H4 hi ⟨s3, hd⟩ ⟨rfl, hy⟩
      obtain ⟨c, hci, e⟩ : ∃ c, ns[i]? = some c ∧ y = .int c := by
        rw [List.getElem?_map] at hy
        cases e : ns[i]? with
        | none => rw [e] at hy; cases hy
        | some c => rw [e] at hy; cases hy; exact ⟨c, rfl, rfl⟩
      subst e
      have b := hk c (List.mem_of_getElem? hci)
      refine ⟨rfl, yes ⟨_, rfl, _, rfl, log_ok (by omega), _, hd, ?_, Same.newer s3 hD, ?_⟩⟩
      · rw [List.length_map, List.length_map, List.length_take]
        exact line_lt (by omega)
      · rw [upd_same, int_str, take_snoc hci, List.map_append, List.map_append]
        rfl
    · rintro H3 ⟨s3, hd⟩
      have e9 : ns.take (ns.map V.int).length = ns := by rw [List.length_map, List.take_length]
      have hd : H3 D = some (.lst ((ns.map fun c => S (iL c)).map V.str)) := by rw [hd, e9]
      refine ⟨_, D, (ns.map iL).map S, rfl, rfl, .inl (SqL.of ?_), sp_sz (fun p hp => ?_) (by rw [List.length_map]; omega), ?_⟩
      · rw [hd]
        simp only [List.map_map, Function.comp_def]
      · obtain ⟨c, hc, rfl⟩ := List.mem_map.mp hp
        have b := hk c hc
        have := iL_len (i := c) (by omega)
        omega
      · rw [sp_join]
        exact q _ s3
theorem ok_moves_text {f : Addr} {fd : FuncData} (F : Fun K "_law_moves_text" "_law_moves_text" s_law_moves_text f fd) (B : Blt mg) : FnOk P w K mg base (L2.CX P w) 1 f fd ["row"] spMvT := by
  refine F.okX sc_law_moves_text (fun vs H Q E h => ?_) (fun cdv A outer s H vs Q E hr h => ?_)
  · obtain ⟨R, n, ms, ks, rfl, _⟩ := h
    rfl
  · obtain ⟨R, n, ms, ks, rfl, hR, pm, n40, l1000, q⟩ := h
    have lm := pm.length
    -- slots: 0 row, 1 move
    refine ⟨_, (pss_one (ps_ret (pe_join pe_str (pe_lc (own := [("move", 1)]) rfl sc_law_moves_text.nd (pi_list (pv 0)) (blkOk_by (N := nn_law_moves_text) (sc := defScope s_law_moves_text) (own := [("move", 1)]) (by decide +kernel)) (fun _ _ _ _ _ => (pg_name (i := 1) sc_law_moves_text.nd rfl (Or.inl rfl))) (fun _ _ _ _ _ => pts_nil) (fun _ _ _ _ _ => (pe_op op_add_str (pe_ifExp (pt_cmpR op_eq (pe_ix (i_tup (K := K)) (pv 1) pe_int (fun _ _ => rfl)) pe_str (nomark _)) pe_str pe_str) (pe_callTy (T := "str") call_str_int (by rfl) B.str bt_str (pa_cons (pe_ix (i_tup (K := K)) (pv 1) pe_int (fun _ _ => rfl)) pa_nil)))))))), ?_⟩
    refine ⟨⟨_, rfl⟩, _, rfl, R, rfl, ⟨_, SqL.of hR⟩, fun D hD => lc_it (walk_list (xs := ks)) (fun i H3 => Same H H3 ∧ H3 D = some (.lst (((ms.take i).map fun c => S (mvW c)).map V.str))) ⟨Same.new hD, upd_same⟩ (fun i H3 _ z => SqL.of (z.1 _ _ hR)) ?_ ?_⟩
    · rintro i y H3 H4 hi ⟨s3, hd⟩ ⟨rfl, hy⟩
      obtain ⟨m, hmi, ⟨t, rfl, ht⟩, m0, m1⟩ := pr_at pm hy
      have b : m.1.natAbs < 1000000 := by omega
      have l1 := int_len b
      have t1 : atI [V.int m.1, .str (kw m.2)] (1 : Int) = some (.str (kw m.2)) := atI_nat (j := 1) rfl
      have t0 : atI [V.int m.1, .str (kw m.2)] (0 : Int) = some (.int m.1) := atI_nat (j := 0) rfl
      have hk : decide (V.str (kw m.2) = V.str (Str.ofString "advance")) = m.2 := by cases m.2 <;> decide
      have fin : ∀ sg : Str, sg = S (sgL m.2) → ∃ a b_1, V.str sg = V.str a ∧ V.str (Str.ofString (toString m.1)) = V.str b_1 ∧ a.length + b_1.length ≤ sizeLine ∧ ∃ acc, H4 D = some (.lst acc) ∧ acc.length < sizeLine ∧ Same H (upd H4 D (.lst (acc ++ [V.str (a ++ b_1)]))) ∧ upd H4 D (.lst (acc ++ [V.str (a ++ b_1)])) D = some (.lst (((ms.take (i + 1)).map fun c => S (mvW c)).map V.str)) := fun sg e => by
        have e2 : (S (sgL m.2)).length = 1 := by cases m.2 <;> rfl
        refine ⟨_, _, rfl, rfl, line_of (by rw [e]; omega), _, hd, ?_, Same.newer s3 hD, ?_⟩
        · rw [List.length_map, List.length_map, List.length_take]
          exact line_lt (by omega)
        · rw [upd_same, int_str, e, S_cat, take_snoc hmi, List.map_append, List.map_append]
          rfl
      refine ⟨rfl, yes ⟨_, rfl, t, _, _, _, rfl, rfl, SqT.of (s3 _ _ ht), t1, rfl, _, rfl, ?_⟩⟩
      rw [hk]
      cases hm : m.2 with
      | true => exact iteT ⟨_, rfl, t, _, _, _, rfl, rfl, SqT.of (s3 _ _ ht), t0, _, rfl, log_ok b, fin _ (by rw [hm]; rfl)⟩
      | false => exact iteF ⟨_, rfl, t, _, _, _, rfl, rfl, SqT.of (s3 _ _ ht), t0, _, rfl, log_ok b, fin _ (by rw [hm]; rfl)⟩
    · rintro H3 ⟨s3, hd⟩
      have e9 : ms.take ks.length = ms := by rw [← lm, List.take_length]
      have hd : H3 D = some (.lst ((ms.map fun c => S (mvW c)).map V.str)) := by rw [hd, e9]
      refine ⟨_, D, (ms.map mvW).map S, rfl, rfl, .inl (SqL.of ?_), sp_sz (fun p hp => ?_) (by rw [List.length_map]; omega), ?_⟩
      · rw [hd]
        simp only [List.map_map, Function.comp_def]
      · obtain ⟨m, hm, rfl⟩ := List.mem_map.mp hp
        obtain ⟨i, hi⟩ := List.mem_iff_getElem?.mp hm
        obtain ⟨v, _, _, m0, m1⟩ := pr_to pm hi
        have a := iL_len (i := m.1) (by omega)
        have e2 : (sgL m.2).length = 1 := by cases m.2 <;> rfl
        rw [S_len] at a ⊢
        unfold mvW
        rw [List.length_append]
        omega
      · rw [sp_join]
        exact q _ s3
theorem ok_net_text {f : Addr} {fd : FuncData} (F : Fun K "_law_net_text" "_law_net_text" s_law_net_text f fd) (B : Blt mg) : FnOk P w K mg base (L2.CX P w) 1 f fd ["world"] spNetT := by
  refine F.okX sc_law_net_text (fun vs H Q E h => ?_) (fun cdv A outer s H vs Q E hr h => ?_)
  · obtain ⟨wr, n, cs, ring, rfl, _⟩ := h
    rfl
  · obtain ⟨wr, n, cs, ring, rfl, W, n40, ok, l120, q⟩ := h
    obtain ⟨l, ws, h1, h2, hp⟩ := W.ex
    have a0 : atI [V.int n, .ref l, .bl ring] (0 : Int) = some (.int n) := atI_nat (j := 0) rfl
    have a1 : atI [V.int n, .ref l, .bl ring] (1 : Int) = some (.ref l) := atI_nat (j := 1) rfl
    have a2 : atI [V.int n, .ref l, .bl ring] (2 : Int) = some (.bl ring) := atI_nat (j := 2) rfl
    -- slots: 0 world, 1 lines, 2 a, 3 b, 4 size
    refine ⟨_, (pss_cons (ps_set (i := 1) sc_law_net_text.nd rfl (Or.inl rfl) (pe_lst (pa_cons (pe_op op_add_str (pe_ifExp (pt_val (pe_ix ix_list (pv 0) pe_int (fun _ _ => rfl))) pe_str pe_str) (pe_callTy (T := "str") call_str_int (by rfl) B.str bt_str (pa_cons (pe_ix ix_list (pv 0) pe_int (fun _ _ => rfl)) pa_nil))) pa_nil)))
      (pss_cons (ps_for (passes_of rfl) rfl (pi_list (pe_ix ix_list (pv 0) pe_int (fun _ _ => rfl))) (pg_tup rfl (pgs_cons (pg_name (i := 2) sc_law_net_text.nd rfl (Or.inl rfl)) (pgs_cons (pg_name (i := 3) sc_law_net_text.nd rfl (Or.inl rfl)) (pgs_cons (pg_name (i := 4) sc_law_net_text.nd rfl (Or.inl rfl)) pgs_nil))))
        (pss_one (ps_expr (pe_bm PySem.F.plainAttrs_list PySem.F.slot_list_append PySem.F.type_list_append mt_append (pv 1) (pa_cons (pe_op op_add_str (pe_op op_add_str (pe_op op_add_str (pe_op op_add_str (pe_callTy (T := "str") call_str_int (by rfl) B.str bt_str (pa_cons (pv 2) pa_nil)) pe_str) (pe_callTy (T := "str") call_str_int (by rfl) B.str bt_str (pa_cons (pv 3) pa_nil))) pe_str) (pe_callTy (T := "str") call_str_int (by rfl) B.str bt_str (pa_cons (pv 4) pa_nil))) pa_nil)))))
      (pss_one (ps_ret (pe_join pe_str (pv 1)))))), ?_⟩
    refine seq_mid (fun σ H1 => ∃ R, σ = [some (.ref wr), some (.ref R), none, none, none] ∧ Same H H1 ∧ H R = none ∧ H1 R = some (.lst [.str (S (headL ring n))])) (fun N hN => ?_) ?_
    · have ll := int_len (i := (n : Int)) (by omega)
      refine ⟨_, rfl, wr, _, _, _, rfl, rfl, SqL.of h1, a2, ring, rfl, ?_⟩
      have fin : ∀ sg : String, Str.ofString sg = Str.ofString (if ring = true then "ring " else "pipeline ") → ∃ i j, V.str (Str.ofString sg) = V.str i ∧ V.str (Str.ofString (toString (n : Int))) = V.str j ∧ i.length + j.length ≤ sizeLine ∧ [V.str (i ++ j)].length ≤ sizeLine ∧ ∀ p, H p = none → N [some (.ref wr), some (.ref p), none, none, none] (upd H p (.lst [V.str (i ++ j)])) := fun sg e => by
        have e2 : (Str.ofString sg).length ≤ 9 := by rw [e]; cases ring <;> decide
        refine ⟨_, _, rfl, rfl, line_of (by omega), by show 1 ≤ sizeLine; decide, fun p np => hN _ _ ⟨p, rfl, Same.new np, np, ?_⟩⟩
        rw [upd_same, e, head_out2]
      cases ring with
      | true => exact iteT ⟨_, rfl, wr, _, _, _, rfl, rfl, SqL.of h1, a0, _, rfl, log_ok (by omega), fin _ rfl⟩
      | false => exact iteF ⟨_, rfl, wr, _, _, _, rfl, rfl, SqL.of h1, a0, _, rfl, log_ok (by omega), fin _ rfl⟩
    rintro σ H1 ⟨R, rfl, s1, nR, hR1⟩
    refine ⟨_, rfl, wr, _, _, _, rfl, rfl, SqL.of (s1 _ _ h1), a1, l, rfl, ⟨_, SqL.of (s1 _ _ h2)⟩, for_it (walk_list (xs := ws)) (fun i σ H5 => ∃ v2 v3 v4, σ = [some (.ref wr), some (.ref R), v2, v3, v4] ∧ Same H H5 ∧ H5 R = some (.lst ((S (headL ring n) :: (cs.take i).map fun c => S (lineL c)).map V.str))) ⟨_, _, _, rfl, s1, hR1⟩ (fun i σ H5 _ z => ?_) ?_ ?_⟩
    · obtain ⟨_, _, _, _, z, _⟩ := z
      exact SqL.of (z _ _ h2)
    · rintro i y σ H5 H6 hi ⟨v2, v3, v4, rfl, s5, h5⟩ ⟨rfl, hy⟩
      obtain ⟨c, hci, t, rfl, ht⟩ := pr_at hp hy
      obtain ⟨⟨g1, g2⟩, ⟨g3, g4⟩, _, g5, g6⟩ := ok c (List.mem_of_getElem? hci)
      have b1 : c.1.natAbs < 1000000 := by omega
      have b2 : c.2.1.natAbs < 1000000 := by omega
      have b3 : c.2.2.natAbs < 1000000 := by omega
      have l1 := int_len b1
      have l2 := int_len b2
      have l3 := int_len b3
      have f1 : (Str.ofString " > ").length = 3 := rfl
      have f2 : (Str.ofString " : ").length = 3 := rfl
      refine ⟨t, _, rfl, SqT.of (s5 _ _ ht), rfl, _, _, rfl, _, _, rfl, _, _, rfl, rfl, ?_⟩
      refine ⟨_, rfl, .inl ⟨rfl, _, SqL.of h5⟩, _, rfl, _, rfl, log_ok b1, _, _, rfl, rfl, line_of (by omega), _, rfl, _, rfl, log_ok b2, _, _, rfl, rfl, line_of (by simp only [cat_len]; omega), _, _, rfl, rfl, line_of (by simp only [cat_len]; omega), _, rfl, _, rfl, log_ok b3, _, _, rfl, rfl, line_of (by simp only [cat_len]; omega), ?_⟩
      rw [line_out2]
      refine ⟨R, _, _, rfl, rfl, h5, ?_, ?_⟩
      · rw [List.length_map, List.length_cons, List.length_map, List.length_take]
        exact line_lt (by omega)
      refine ⟨_, _, _, rfl, Same.newer s5 nR, ?_⟩
      rw [upd_same, take_snoc hci, List.map_append]
      simp only [List.map_cons, List.map_append, List.map_nil, List.cons_append]
    · rintro σ H5 ⟨v2, v3, v4, rfl, s5, h5⟩
      rw [← hp.length, List.take_length] at h5
      refine ⟨⟨_, rfl⟩, _, rfl, _, R, (netRows ring n cs).map S, rfl, rfl, .inl (SqL.of ?_), net_sz n40 ok (by omega), ?_⟩
      · rw [h5]
        simp only [netRows, List.map_cons, List.map_map, Function.comp_def]
      · rw [net_join]
        exact q H5 s5
end
end WC

set_option maxHeartbeats 8000000
namespace WC
open PySem PySem.Spec PyProof.Rows L2 SX
theorem s_tupK {X : Cx} {K : PySem.W.Frag} (h : X.K = K := by rfl) : SlR X (rSlT K) := by subst h; exact sl_tup
theorem op_neDK {X : Cx} {K : PySem.W.Frag} (h : X.K = K) (hu : X.A.units + 64 < cLine) : OpR X (compareOp .NotEq) (rNeD K) := by subst h; exact op_neD hu
/-- a sorted list of channels, whatever it holds -/
theorem sort_any8 {K : PySem.W.Frag} {H : Hp} {R : Addr} {ks : List V} {cs : List Tri} {Q : VK} (hR : H R = some (.lst ks)) (p : Paired (TriA H) cs ks)
    (q : ∀ cs2 ys (P : Addr), cs2.Perm cs → H P = none → Paired (TriA (upd H P (.lst ys))) cs2 ys → Q (.ref P) (upd H P (.lst ys))) : rSort3 K [.ref R] H Q := by
  obtain ⟨kf, hkf⟩ : ∃ kf : V → I3, ∀ c v, TriA H c v → kf v = c := by
    classical
    refine ⟨fun v => if h : ∃ c, TriA H c v then h.choose else (0, 0, 0), fun c v hc => ?_⟩
    have h : ∃ c, TriA H c v := ⟨c, hc⟩
    dsimp only
    rw [dif_pos h]
    obtain ⟨t1, e1, e2⟩ := h.choose_spec
    obtain ⟨t2, e3, e4⟩ := hc
    rw [e1] at e3
    cases e3
    rw [e2] at e4
    injection e4 with e4
    injection e4 with e4
    simp only [List.cons.injEq, V.int.injEq, and_true] at e4
    exact Prod.ext e4.1 (Prod.ext e4.2.1 e4.2.2)
  refine ⟨R, ks, kf, rfl, SqL.of hR, fun v hv => ?_, fun ys P hperm _ nP => ?_⟩
  · obtain ⟨i, hi⟩ := List.mem_iff_getElem?.mp hv
    obtain ⟨c, hc, hcv⟩ := pr_at p hi
    have e := hkf c v hcv
    obtain ⟨t, rfl, ht⟩ := hcv
    exact ⟨t, rfl, by rw [e]; exact ht⟩
  · obtain ⟨cs2, hcp, hp2⟩ := pr_perm hperm p
    exact q cs2 ys P hcp nP (tris_same (Same.new nP) hp2)
section
variable {P : Program} {w : World} {K : PySem.W.Frag} {mg : Str → Option Value} {base : Heap}
theorem ok_link_put_in8 {f : Addr} {fd : FuncData} (F : Fun K "_law_link_put_in" "_law_link_put_in" s_law_link_put_in f fd) (B : Blt mg) (g_law_draw : DefR P w K mg base "_law_draw" 1 spDraw) (g_law_read : DefR P w K mg base "_law_read" 3 spRead8) (g_law_net_text : DefR P w K mg base "_law_net_text" 1 spNetT) : FnOk P w K mg base (L2.CX P w) 4 f fd ["bag", "text"] spTx8 := by
  refine F.okX sc_law_link_put_in (fun vs H Q E h => ?_) (fun cdv A outer s H vs Q E hr h => ?_)
  · obtain ⟨b, l, rfl, _⟩ := h
    rfl
  · obtain ⟨b, l, rfl, hb, ha, hz, q⟩ := h
    -- slots: 0 bag, 1 text, 2 bad, 3 world, 4 a*, 5 b*, 6 links, 7 link
    refine ⟨_, (pss_cons (ps_asg (pe_cd g_law_read hr psE (pa_cons (pv 1) pa_nil)) (pg_lst rfl (pgs_cons (pg_name (i := 2) sc_law_link_put_in.nd rfl (Or.inl rfl)) (pgs_cons (pg_name (i := 3) sc_law_link_put_in.nd rfl (Or.inl rfl)) pgs_nil))))
      (pss_cons (ps_if (PW.pt (pw_or (pt_cmpR op_gt (pv 2) pe_int (nomark _)) (pw_or (pt_val (pe_ix ix_list (pv 3) pe_int (fun _ _ => rfl))) (pw_or1 (pt_cmpR op_lt (pe_ix ix_list (pv 3) pe_int (fun _ _ => rfl)) pe_int (nomark _)))))) (pss_one (ps_ret (pe_op op_add_str (pv 1) pe_str))) pss_nil)
      (pss_cons (ps_set (i := 4) sc_law_link_put_in.nd rfl (Or.inr rfl) (pe_cd g_law_draw hr psE (pa_cons (pv 0) (pa_cons (pe_ix ix_list (pv 3) pe_int (fun _ _ => rfl)) pa_nil))))
      (pss_cons (ps_set (i := 5) sc_law_link_put_in.nd rfl (Or.inr rfl) (pe_op op_modN (pe_callTy (T := "int") call_int1 (by rfl) B.int bt_int (pa_cons (pe_op op_add (pe_op op_add (pv 4) pe_int) (pe_cd g_law_draw hr psE (pa_cons (pv 0) (pa_cons (pe_op op_sub (pe_ix ix_list (pv 3) pe_int (fun _ _ => rfl)) pe_int) pa_nil)))) pa_nil)) (pe_ix ix_list (pv 3) pe_int (fun _ _ => rfl))))
      (pss_cons (ps_setLc (i := 6) (own := [("link", 7)]) rfl sc_law_link_put_in.nd rfl rfl (sw_true rfl rfl rfl (by decide +kernel)) (pi_list (pe_ix ix_list (pv 3) pe_int (fun _ _ => rfl))) (blkOk_by (N := nn_law_link_put_in) (sc := defScope s_law_link_put_in) (own := [("link", 7)]) (by decide +kernel)) (fun _ _ _ _ _ => (pg_name (i := 7) sc_law_link_put_in.nd rfl (Or.inl rfl))) (fun _ _ _ _ _ => (pts_one (pt_cmpR (op_neDK (K := K) rfl (unR (by exact hr))) (pe_slice (s_tupK (K := K)) (pv 7) po_none (po_some pe_int)) (pe_tup (pa_cons (pv 4) (pa_cons (pv 5) pa_nil))) (nomark _)))) (fun _ _ _ _ _ => (pv 7)))
      (pss_one (ps_ret (pe_cd g_law_net_text hr psE (pa_cons (pe_lst (pa_cons (pe_ix ix_list (pv 3) pe_int (fun _ _ => rfl)) (pa_cons (pe_callB (cr_sort3 (K := K)) (by rfl) B.sorted bt_sorted (pa_cons (pe_op op_cat (pv 6) (pe_lst (pa_cons (pe_tup (pa_cons (pv 4) (pa_cons (pv 5) (pa_cons (pe_op op_add pe_int (pe_cd g_law_draw hr psE (pa_cons (pv 0) (pa_cons pe_int pa_nil)))) pa_nil)))) pa_nil))) pa_nil)) (pa_cons pe_bl pa_nil)))) pa_nil))))))))), ?_⟩
    have nl : ∀ H2, Same H H2 → BagAt H2 b → Q (.str (S l ++ Str.ofString "\n")) H2 := fun H2 s b2 => by
      rw [ofS, S_cat]
      exact q _ H2 (SameB.of s) b2 (asc_cat ha (by decide)) (by rw [List.length_append]; show _ + 1 ≤ _; omega)
    have lnl : (S l).length + (Str.ofString "\n").length ≤ sizeLine := by rw [S_len]; exact line8 (by show _ + 1 ≤ _; omega)
    refine ⟨_, rfl, l, rfl, ha, by omega, fun ring n cs g n40 l120 R W L ws H2 s2 nR nW nL hR hW hL pw => ?_, fun k nb k0 R H2 s2 nR hR => ?_⟩
    · refine ⟨R, _, rfl, SqL.of hR, rfl, _, _, rfl, _, _, rfl, rfl, ?_⟩
      have a0 : atI [V.int n, .ref L, .bl ring] (0 : Int) = some (.int n) := atI_nat (j := 0) rfl
      have a1 : atI [V.int n, .ref L, .bl ring] (1 : Int) = some (.ref L) := atI_nat (j := 1) rfl
      have a2 : atI [V.int n, .ref L, .bl ring] (2 : Int) = some (.bl ring) := atI_nat (j := 2) rfl
      have b2 := hb.same s2
      refine ⟨_, rfl, _, _, rfl, rfl, _, rfl, iteF ⟨_, rfl, W, _, _, _, rfl, rfl, SqL.of hW, a2, ring, rfl, ?_⟩⟩
      cases ring with
      | true => exact iteT (iteT ⟨_, rfl, _, _, rfl, rfl, lnl, nl _ s2 b2⟩)
      | false =>
      refine iteF ⟨_, rfl, W, _, _, _, rfl, rfl, SqL.of hW, a0, _, _, rfl, rfl, _, rfl, ?_⟩
      by_cases n2 : n < 2
      · rw [show decide ((n : Int) < 2) = true from decide_eq_true (by omega)]
        exact iteT ⟨_, rfl, _, _, rfl, rfl, lnl, nl _ s2 b2⟩
      rw [show decide ((n : Int) < 2) = false from decide_eq_false (by omega)]
      refine iteF ?_
      have Wb : W ≠ b := (bag_ne hb nW).symm
      refine ⟨_, rfl, _, rfl, W, _, _, _, rfl, rfl, SqL.of hW, a0, b, n, rfl, b2, by omega, by omega, fun x H3 x0 x1 s3 b3 => ?_⟩
      have hW3 := s3 _ _ hW Wb
      dsimp only [gName]
      refine ⟨_, rfl, _, _, rfl, rfl, _, rfl, _, rfl, W, _, _, _, rfl, rfl, SqL.of hW3, a0, _, _, rfl, rfl, b, (n : Int) - 1, rfl, b3, by omega, by omega, fun y H4 y0 y1 s4 b4 => ?_⟩
      have hW4 := s4 _ _ hW3 Wb
      refine ⟨_, _, rfl, rfl, .inl ⟨_, rfl, _, rfl, W, _, _, _, rfl, rfl, SqL.of hW4, a0, _, _, rfl, rfl, by omega, ?_⟩⟩
      have ef : Int.fmod (x + 1 + y) (n : Int) = (x + 1 + y) % (n : Int) := Int.fmod_eq_emod_of_nonneg _ (by omega)
      dsimp only [gName]
      rw [ef]
      obtain ⟨z, ez, z0, zn, zx⟩ : ∃ z : Int, z = (x + 1 + y) % (n : Int) ∧ 0 ≤ z ∧ z < n ∧ z ≠ x := by
        refine ⟨_, rfl, Int.emod_nonneg _ (by omega), Int.emod_lt_of_pos _ (by omega), ?_⟩
        by_cases q : x + 1 + y < n
        · rw [Int.emod_eq_of_lt (by omega) q]; omega
        · have : (x + 1 + y) % (n : Int) = x + 1 + y - n := by
            rw [← Int.sub_emod_right (x + 1 + y) (n : Int)]
            exact Int.emod_eq_of_lt (by omega) (by omega)
          omega
      rw [← ez]
      have s24 := s3.trans s4
      have tri4 : ∀ {t : Addr} {xs : List V}, H2 t = some (.tup xs) → H4 t = some (.tup xs) := fun {t xs} e => by
        obtain ⟨u, v, e2⟩ := b2
        exact s24 _ _ e (ne_of e e2 (by intro z; cases z))
      have pw4 : Paired (TriA H4) cs ws := Paired.mapP pw fun c v ⟨t, e1, e2⟩ => ⟨t, e1, tri4 e2⟩
      have Lb : L ≠ b := (bag_ne hb nL).symm
      have hL4 := s24 _ _ hL Lb
      refine ⟨_, rfl, W, _, _, _, rfl, rfl, SqL.of hW4, a1, L, rfl, ⟨_, SqL.of hL4⟩, fun D hD => lc_it (walk_list (xs := ws)) (fun i H5 => Same H4 H5 ∧ ∃ ds us, H5 D = some (.lst us) ∧ Paired (TriA H5) ds us ∧ ds.length ≤ i ∧ ∀ d ∈ ds, d ∈ cs) ⟨Same.new hD, [], [], upd_same, .nil, by decide, fun d h => by cases h⟩ (fun i H5 _ z => SqL.of (z.1 _ _ hL4)) ?_ ?_⟩
      · rintro i v H5 H6 hi ⟨s5, ds, us, hU, pu, dl, dm⟩ ⟨rfl, hv⟩
        obtain ⟨c, hc, t, rfl, ht⟩ := pr_at pw4 hv
        have ht6 := s5 _ _ ht
        have hi : i < ws.length := hi
        refine ⟨rfl, _, rfl, ?_⟩
        dsimp only [tNoPart]
        refine ⟨_, rfl, t, _, rfl, SqT.of ht6, cut32 _ _ _, fun pa npa => ?_⟩
        rw [cut27]
        have s7 : Same H6 (upd H6 pa (.tup [.int c.1, .int c.2.1])) := Same.new npa
        refine ⟨_, rfl, _, rfl, by show 2 ≤ sizeLine; decide, fun pb npb => ?_⟩
        have s8 : Same (upd H6 pa (.tup [.int c.1, .int c.2.1])) (upd (upd H6 pa (.tup [.int c.1, .int c.2.1])) pb (.tup [.int x, .int z])) := Same.new npb
        have s9 := s7.trans s8
        generalize hH9 : upd (upd H6 pa (.tup [.int c.1, .int c.2.1])) pb (.tup [.int x, .int z]) = H9 at s8 s9
        refine ⟨.tuple [.int c.1, .int c.2.1], .tuple [.int x, .int z], .tup (SqT.of (s8 _ _ upd_same)) (.cons (.int _) (.cons (.int _) .nil)), .tup (SqT.of (by rw [← hH9, upd_same])) (.cons (.int _) (.cons (.int _) .nil)), ii_shaped _ _, ii_shaped _ _, _, rfl, ?_⟩
        have hU9 := s9 _ _ hU
        have pu9 := tris_same s9 pu
        have lu := pu.length
        cases hq : (!PyData.eqv (.tuple [.int c.1, .int c.2.1]) (.tuple [.int x, .int z])) with
        | false => exact iteF ⟨s5.trans s9, ds, us, hU9, pu9, by omega, dm⟩
        | true =>
          have l130 : cs.length = ws.length := pw.length
          refine iteT ⟨_, rfl, us, hU9, line_lt (by omega), Same.newer (s5.trans s9) hD, ds ++ [c], us ++ [.ref t], upd_same, ?_, by rw [List.length_append, List.length_singleton]; omega, fun d hd => ?_⟩
          · have keep : ∀ a xs, H9 a = some (HO.tup xs) → upd H9 D (.lst (us ++ [.ref t])) a = some (.tup xs) := fun a xs e => by
              rw [upd_ne (ne_of e hU9 (by intro z; cases z))]
              exact e
            exact pr_snoc (Paired.mapP pu9 fun a v ⟨t2, e1, e2⟩ => ⟨t2, e1, keep _ _ e2⟩) ⟨t, rfl, keep _ _ (s9 _ _ ht6)⟩
          · rcases List.mem_append.mp hd with hd | hd
            · exact dm d hd
            · rw [List.mem_singleton.mp hd]
              exact List.mem_of_getElem? hc
      · rintro H5 ⟨s5, ds, us, hU, pu, dl, dm⟩
        dsimp only [gName]
        have hW5 := s5 _ _ hW4
        have b5 := b4.same s5
        have lu := pu.length
        have l130 : cs.length = ws.length := pw.length
        have Db := bag_ne b4 hD
        refine ⟨_, rfl, W, _, _, _, rfl, rfl, SqL.of hW5, a0, _, rfl, _, rfl, _, rfl, _, rfl, b, 999, rfl, b5, by decide, by decide, fun v H6 v0 v1 s6 b6 => ?_⟩
        have hU6 := s6 _ _ hU Db.symm
        have pu6 : Paired (TriA H6) ds us := Paired.mapP pu fun c v ⟨t, e1, e2⟩ => ⟨t, e1, by
          obtain ⟨p, q, e⟩ := b5
          exact s6 _ _ e2 (ne_of e2 e (by intro z; cases z))⟩
        refine ⟨_, _, rfl, rfl, by show 3 ≤ sizeLine; decide, fun t nt => ?_⟩
        obtain ⟨H7, e7⟩ : ∃ H7, H7 = upd H6 t (.tup [.int x, .int z, .int (1 + v)]) := ⟨_, rfl⟩
        have s7 : Same H6 H7 := by rw [e7]; exact Same.new nt
        have ht7 : H7 t = some (.tup [.int x, .int z, .int (1 + v)]) := by rw [e7, upd_same]
        rw [← e7]
        refine ⟨by show 1 ≤ sizeLine; decide, fun M nM => ?_⟩
        have s8 : Same H7 (upd H7 M (.lst [.ref t])) := Same.new nM
        refine ⟨D, M, us, _, rfl, rfl, s8 _ _ (s7 _ _ hU6), upd_same, line_of (by show us.length + 1 ≤ 100000; omega), fun C nC => ?_⟩
        obtain ⟨H9, e9⟩ : ∃ H9, H9 = upd (upd H7 M (.lst [.ref t])) C (.lst (us ++ [.ref t])) := ⟨_, rfl⟩
        have s9 : Same (upd H7 M (.lst [.ref t])) H9 := by rw [e9]; exact Same.new nC
        have hC9 : H9 C = some (.lst (us ++ [.ref t])) := by rw [e9, upd_same]
        rw [← e9]
        have s79 := s8.trans s9
        have okn : ChOk n (x, z, 1 + v) := ⟨⟨x0, x1⟩, ⟨z0, zn⟩, fun e => zx e.symm, by show 1 ≤ 1 + v; omega, by show 1 + v ≤ 999; omega⟩
        have p9 : Paired (TriA H9) (ds ++ [(x, z, 1 + v)]) (us ++ [.ref t]) := pr_snoc (tris_same (s7.trans s79) pu6) ⟨t, rfl, s79 _ _ ht7⟩
        dsimp only [tNil]
        refine sort_any8 (K := K) hC9 p9 fun cs2 ys P2 perm nP p10 => ?_
        have s10 : Same H9 (upd H9 P2 (.lst ys)) := Same.new nP
        refine ⟨by show 3 ≤ sizeLine; decide, fun W2 nW2 => ?_⟩
        have s11 : Same (upd H9 P2 (.lst ys)) (upd (upd H9 P2 (.lst ys)) W2 (.lst [.int n, .ref P2, .bl false])) := Same.new nW2
        have sc : SameB b H _ := ((SameB.of s2).trans s24).trans (((SameB.of s5).trans s6).trans (SameB.of (s7.trans (s79.trans (s10.trans s11)))))
        have okc : ∀ c ∈ cs2, ChOk n c := fun c hc => by
          rcases List.mem_append.mp (perm.mem_iff.mp hc) with m | m
          · exact Rds.ch g.choose_spec.choose_spec.2.2.1 c (dm c m)
          · rw [List.mem_singleton.mp m]; exact okn
        have lc : cs2.length ≤ 130 := by
          rw [perm.length_eq, List.length_append, List.length_singleton]
          have dl : ds.length ≤ ws.length := dl
          omega
        refine ⟨W2, n, cs2, false, rfl, ⟨P2, ys, upd_same, s11 _ _ upd_same, tris_same s11 p10⟩, n40, okc, lc, fun Hx sx => ?_⟩
        have na := net_asc (ring := false) n40 okc lc
        exact q _ Hx (sc.trans (SameB.of sx)) (b6.same (s7.trans (s79.trans (s10.trans (s11.trans sx))))) na.1 (by have := na.2; omega)
    · refine ⟨R, _, rfl, SqL.of hR, rfl, _, _, rfl, _, _, rfl, rfl, ?_⟩
      refine ⟨_, rfl, _, _, rfl, rfl, _, rfl, ?_⟩
      rw [show decide ((0 : Int) < k) = true from decide_eq_true k0]
      exact iteT (iteT ⟨_, rfl, _, _, rfl, rfl, lnl, nl _ s2 (hb.same s2)⟩)
end
end WC

set_option maxHeartbeats 8000000
namespace WC
open PySem PySem.Spec PyProof.Rows L2 SX
/-- a list of words of one's own -/
structure Ls (b : Addr) (H0 H : Hp) (p : Addr) (ws : List (List Nat)) : Prop where
  same : SameB b H0 H
  bag : BagAt H b
  pb : p ≠ b
  np : H0 p = none
  hp : H p = some (.lst (rowsT ws))
section
variable {b p q : Addr} {H0 H H2 : Hp} {ws us : List (List Nat)} {o : HO}
theorem Ls.on (h : Ls b H0 H p ws) (s : SameB b H H2) (b2 : BagAt H2 b) : Ls b H0 H2 p ws := ⟨h.same.trans s, b2, h.pb, h.np, s _ _ h.hp h.pb⟩
theorem Ls.keep (h : Ls b H0 H p ws) (nq : H q = none) : Ls b H0 (upd H q o) p ws := h.on (SameB.of (Same.new nq)) (h.bag.same (Same.new nq))
theorem Ls.set (h : Ls b H0 H p ws) : Ls b H0 (upd H p (.lst (rowsT us))) p us := by
  refine ⟨h.same.put h.np, ?_, h.pb, h.np, upd_same⟩
  obtain ⟨x, y, e⟩ := h.bag
  exact ⟨x, y, by rw [upd_ne h.pb.symm]; exact e⟩
theorem Ls.new (s : SameB b H0 H) (hb : BagAt H b) (nq : H q = none) : Ls b H0 (upd H q (.lst (rowsT us))) q us :=
  ⟨s.trans (SameB.of (Same.new nq)), hb.same (Same.new nq), (bag_ne hb nq).symm, s.free hb nq, upd_same⟩
end
theorem rows_to (ws : List (List Nat)) (k : Nat) : cutV (rowsT ws) none (some (k : Int)) = rowsT (ws.take k) := by
  unfold cutV rowsT
  rw [show HT.sIx ((ws.map S).map V.str).length 0 none = 0 from rfl, show HT.sIx ((ws.map S).map V.str).length ((ws.map S).map V.str).length (some (k : Int)) = min k ((ws.map S).map V.str).length from HT.sIx_nat _ _ k, List.drop_zero, Nat.sub_zero, ← List.map_take, ← List.map_take, List.length_map, List.length_map]
  congr 2
  by_cases h : k ≤ ws.length
  · rw [Nat.min_eq_left h]
  · rw [Nat.min_eq_right (by omega), List.take_of_length_le (Nat.le_refl _), List.take_of_length_le (by omega)]
theorem rows_from (ws : List (List Nat)) (k : Nat) : cutV (rowsT ws) (some (k : Int)) none = rowsT (ws.drop k) := by
  rw [cut_drop]
  unfold rowsT
  rw [List.map_drop, List.map_drop]
theorem rows_from1 (ws : List (List Nat)) (k : Nat) : cutV (rowsT ws) (some ((k : Int) + 1)) none = rowsT (ws.drop (k + 1)) := rows_from ws (k + 1)
theorem rows_cat (a b : List (List Nat)) : rowsT a ++ rowsT b = rowsT (a ++ b) := by
  unfold rowsT
  rw [List.map_append, List.map_append]
theorem rows_cat1 (a : List (List Nat)) (w : List Nat) : rowsT a ++ [V.str (S w)] = rowsT (a ++ [w]) := rows_cat a [w]
theorem rows_get {ws : List (List Nat)} {k : Nat} (h : k < ws.length) : atI (rowsT ws) ((k : Nat) : Int) = some (.str (S ws[k])) := by
  refine atI_nat (j := k) ?_
  unfold rowsT
  rw [List.getElem?_map, List.getElem?_map, List.getElem?_eq_getElem h]
  rfl
/-- words that may be joined -/
structure Wok (l : List Nat) (ws : List (List Nat)) : Prop where
  asc : ∀ w ∈ ws, asc w = true
  wt : wt ws ≤ 2 * l.length + 6000
section
variable {l w : List Nat} {ws : List (List Nat)} {k : Nat}
theorem Wok.cut (a : ∀ w ∈ ws, WC.asc w = true) (z : WC.wt ws = l.length + 1) : Wok l (ws.take k ++ ws.drop (k + 1)) := by
  refine ⟨fun x hx => (List.mem_append.mp hx).elim (fun h => a x (List.mem_of_mem_take h)) fun h => a x (List.mem_of_mem_drop h), ?_⟩
  rw [wt_cat]
  have h1 := wt_take ws k
  have h2 := wt_take (ws.drop k) 1
  rw [List.drop_drop] at h2
  omega
theorem Wok.put (a : ∀ w ∈ ws, WC.asc w = true) (z : WC.wt ws = l.length + 1) (aw : WC.asc w = true) (lw : w.length ≤ l.length + 4700) : Wok l (ws.take k ++ [w] ++ ws.drop k) := by
  refine ⟨fun x hx => ?_, ?_⟩
  · rcases List.mem_append.mp hx with h | h
    · rcases List.mem_append.mp h with h | h
      · exact a x (List.mem_of_mem_take h)
      · rw [List.mem_singleton.mp h]; exact aw
    · exact a x (List.mem_of_mem_drop h)
  · rw [wt_cat, wt_cat, wt_one]
    have h1 := wt_take ws k
    omega
theorem Wok.end_ (a : ∀ w ∈ ws, WC.asc w = true) (z : WC.wt ws = l.length + 1) (aw : WC.asc w = true) (lw : w.length ≤ l.length + 4700) : Wok l (ws ++ [w]) := by
  refine ⟨fun x hx => ?_, ?_⟩
  · rcases List.mem_append.mp hx with h | h
    · exact a x h
    · rw [List.mem_singleton.mp h]; exact aw
  · rw [wt_cat, wt_one]
    omega
theorem Wok.set (a : ∀ w ∈ ws, WC.asc w = true) (z : WC.wt ws = l.length + 1) (aw : WC.asc w = true) (lw : w.length ≤ l.length + 4700) : Wok l (ws.set k w) := by
  refine ⟨fun x hx => ?_, ?_⟩
  · rcases mem_set8 hx with h | h
    · exact a x h
    · rw [h]; exact aw
  · have := wt_set (ws := ws) (a := w) (i := k)
    omega
theorem Wok.swap {i j : Nat} (a : ∀ w ∈ ws, WC.asc w = true) (z : WC.wt ws = l.length + 1) (hi : i < ws.length) (hj : j < ws.length) : Wok l ((ws.set i ws[j]).set j ws[i]) := by
  have w1 := wt_mem (List.getElem_mem hi)
  have w2 := wt_mem (List.getElem_mem hj)
  refine ⟨fun x hx => ?_, ?_⟩
  · rcases mem_set8 hx with h | h
    · rcases mem_set8 h with h | h
      · exact a x h
      · rw [h]; exact a _ (List.getElem_mem hj)
    · rw [h]; exact a _ (List.getElem_mem hi)
  · -- a swap keeps the weight: bound each by what stood there
    have p : ((ws.set i ws[j]).set j ws[i]).Perm ws := by
      by_cases e : i = j
      · subst e
        rw [List.set_set, List.set_getElem_self]
      · exact List.set_set_perm hi hj
    have : WC.wt ((ws.set i ws[j]).set j ws[i]) = WC.wt ws := by
      unfold WC.wt
      exact (p.map _).sum_nat
    omega
end
end WC

set_option maxHeartbeats 16000000
namespace WC
open PySem PySem.Spec PyProof.Rows L2 SX
section
variable {P : Program} {w : World} {K : PySem.W.Frag} {mg : Str → Option Value} {base : Heap}
theorem ok_lines_spoilt8 {f : Addr} {fd : FuncData} (F : Fun K "_law_lines_spoilt" "_law_lines_spoilt" s_law_lines_spoilt f fd) (B : Blt mg) (g_law_draw : DefR P w K mg base "_law_draw" 1 spDraw) (g_law_line : DefR P w K mg base "_law_line" 2 spPc8) (g_law_head : DefR P w K mg base "_law_head" 2 spPc8) (g_law_line_bent : DefR P w K mg base "_law_line_bent" 2 spBent8) : FnOk P w K mg base (L2.CX P w) 3 f fd ["bag", "text"] spTx8 := by
  refine F.okX sc_law_lines_spoilt (fun vs H Q E h => ?_) (fun cdv A outer s H vs Q E hr h => ?_)
  · obtain ⟨b, l, rfl, _⟩ := h
    rfl
  · obtain ⟨b, l, rfl, hb, ha, hz, q⟩ := h
    -- slots: 0 bag, 1 text, 2 lines, 3 place, 4 other, 5 way, 6 kept
    refine ⟨_, (pss_cons (ps_set (i := 2) sc_law_lines_spoilt.nd rfl (Or.inl rfl) (pe_split (pv 1) pe_str))
      (pss_cons (ps_set (i := 3) sc_law_lines_spoilt.nd rfl (Or.inl rfl) (pe_cd g_law_draw hr psE (pa_cons (pv 0) (pa_cons (pe_callB call_len_seq (by rfl) B.len bt_len (pa_cons (pv 2) pa_nil)) pa_nil))))
      (pss_cons (ps_set (i := 4) sc_law_lines_spoilt.nd rfl (Or.inl rfl) (pe_cd g_law_draw hr psE (pa_cons (pv 0) (pa_cons (pe_callB call_len_seq (by rfl) B.len bt_len (pa_cons (pv 2) pa_nil)) pa_nil))))
      (pss_cons (ps_set (i := 5) sc_law_lines_spoilt.nd rfl (Or.inl rfl) (pe_cd g_law_draw hr psE (pa_cons (pv 0) (pa_cons pe_int pa_nil))))
      (pss_cons (ps_if (pt_cmpR op_eq (pv 5) pe_int (nomark _)) (pss_one (ps_set (i := 2) sc_law_lines_spoilt.nd rfl (Or.inl rfl) (pe_op op_cat (pe_slice sl_list (pv 2) po_none (po_some (pv 3))) (pe_slice sl_list (pv 2) (po_some (pe_op op_add (pv 3) pe_int)) po_none)))) (pss_one (ps_if (pt_cmpR op_eq (pv 5) pe_int (nomark _)) (pss_one (ps_set (i := 2) sc_law_lines_spoilt.nd rfl (Or.inl rfl) (pe_op op_cat (pe_op op_cat (pe_slice sl_list (pv 2) po_none (po_some (pv 3))) (pe_lst (pa_cons (pe_ix ix_list (pv 2) (pv 4) (fun _ _ => rfl)) pa_nil))) (pe_slice sl_list (pv 2) (po_some (pv 3)) po_none)))) (pss_one (ps_if (pt_cmpR op_eq (pv 5) pe_int (nomark _)) (pss_cons (ps_set (i := 6) sc_law_lines_spoilt.nd rfl (Or.inl rfl) (pe_ix ix_list (pv 2) (pv 3) (fun _ _ => rfl)))
      (pss_cons (ps_asg (pe_ix ix_list (pv 2) (pv 4) (fun _ _ => rfl)) (pg_sub (pv 2) (pv 3) set_list))
      (pss_one (ps_asg (pv 6) (pg_sub (pv 2) (pv 4) set_list))))) (pss_one (ps_if (pt_cmpR op_eq (pv 5) pe_int (nomark _)) (pss_one (ps_set (i := 2) sc_law_lines_spoilt.nd rfl (Or.inl rfl) (pe_op op_cat (pe_op op_cat (pe_slice sl_list (pv 2) po_none (po_some (pv 3))) (pe_lst (pa_cons (pe_cd g_law_line hr psE (pa_cons (pv 0) pa_nil)) pa_nil))) (pe_slice sl_list (pv 2) (po_some (pv 3)) po_none)))) (pss_one (ps_if (pt_cmpR op_eq (pv 5) pe_int (nomark _)) (pss_one (ps_asg (pe_cd g_law_line hr psE (pa_cons (pv 0) pa_nil)) (pg_sub (pv 2) (pv 3) set_list))) (pss_one (ps_if (pt_cmpR op_lt (pv 5) pe_int (nomark _)) (pss_one (ps_asg (pe_cd g_law_head hr psE (pa_cons (pv 0) pa_nil)) (pg_sub (pv 2) pe_int set_list))) (pss_one (ps_if (pt_cmpR op_lt (pv 5) pe_int (nomark _)) (pss_one (ps_set (i := 2) sc_law_lines_spoilt.nd rfl (Or.inl rfl) (pe_op op_cat (pv 2) (pe_lst (pa_cons (pe_ifExp (pt_cmpR op_eq (pv 5) pe_int (nomark _)) pe_str (pe_cd g_law_line hr psE (pa_cons (pv 0) pa_nil))) pa_nil))))) (pss_one (ps_asg (pe_cd g_law_line_bent hr psE (pa_cons (pv 0) (pa_cons (pe_ix ix_list (pv 2) (pv 3) (fun _ _ => rfl)) pa_nil))) (pg_sub (pv 2) (pv 3) set_list))))))))))))))))
      (pss_one (ps_ret (pe_join pe_str (pv 2))))))))), ?_⟩
    have splN := spl_ne
    refine ⟨_, rfl, ⟨_, rfl⟩, _, _, rfl, rfl, rfl, line8 (by rw [S_len]; omega), fun p np => ?_⟩
    rw [split10]
    have pcs : ∀ w ∈ TL.spl [10] 0 [] l, asc w = true := fun w hw => (spl1_asc (s := 10) ha w hw).1
    have wl := wt_spl (s := 10) l []
    have pne : 0 < (TL.spl [10] 0 [] l).length := by
      obtain ⟨h, r, e⟩ := splN l
      rw [e]
      exact Nat.succ_pos _
    generalize TL.spl [10] 0 [] l = ws at pcs wl pne ⊢
    rw [List.length_nil, Nat.zero_add] at wl
    have ln := wt_len ws
    have La := Ls.new (us := ws) (q := p) (SameB.of (Same.refl H)) hb np
    obtain ⟨H2, e2⟩ : ∃ H2, H2 = upd H p (.lst ((ws.map S).map V.str)) := ⟨_, rfl⟩
    rw [show rowsT ws = (ws.map S).map V.str from rfl, ← e2] at La
    rw [← e2]
    dsimp only [gName]
    refine ⟨_, rfl, _, rfl, p, _, rfl, .inl (SqL.of La.hp), b, _, rfl, La.bag, by rw [rowsT_len]; omega, by rw [rowsT_len]; omega, fun d H3 d0 d1 s3 b3 => ?_⟩
    rw [rowsT_len] at d1
    have Lb := La.on s3 b3
    dsimp only [gName]
    refine ⟨_, rfl, _, rfl, p, _, rfl, .inl (SqL.of Lb.hp), b, _, rfl, b3, by rw [rowsT_len]; omega, by rw [rowsT_len]; omega, fun e H4 e0 e1 s4 b4 => ?_⟩
    rw [rowsT_len] at e1
    have Lc := Lb.on s4 b4
    obtain ⟨k, rfl⟩ : ∃ k : Nat, d = k := ⟨d.toNat, by omega⟩
    obtain ⟨j, rfl⟩ : ∃ j : Nat, e = j := ⟨e.toNat, by omega⟩
    have hk : k < ws.length := by omega
    have hj : j < ws.length := by omega
    dsimp only [gName]
    refine ⟨_, rfl, b, 12, rfl, b4, by decide, by decide, fun g H5 g0 g1 s5 b5 => ?_⟩
    have L0 := Lc.on s5 b5
    have len2 : ∀ (x y : List (List Nat)), x.length ≤ ws.length + 1 → y.length ≤ ws.length + 1 → (rowsT x).length + (rowsT y).length ≤ sizeLine := fun x y hx hy => by rw [rowsT_len, rowsT_len]; exact line8 (by omega)
    dsimp only [gName]
    refine seq_mid (fun σ H9 => ∃ R us v6, σ = [some (.ref b), some (.str (S l)), some (.ref R), some (.int (k : Nat)), some (.int (j : Nat)), some (.int g), v6] ∧ Ls b H H9 R us ∧ Wok l us) (fun M hM => ?_) ?_
    · refine ⟨_, rfl, rfl, _, rfl, ite2 (fun hw => ?_) (fun hw => ?_)⟩
      · refine ⟨_, rfl, ?_⟩
        dsimp only [tNoPart]
        refine ⟨_, rfl, _, rfl, p, _, rfl, SqL.of L0.hp, fun p1 np1 => ?_⟩
        rw [rows_to]
        have L1 := L0.keep (o := .lst (rowsT (ws.take k))) np1
        have A1 := Ls.new (us := ws.take k) L0.same L0.bag np1
        refine ⟨_, rfl, _, rfl, _, _, rfl, rfl, _, rfl, ?_⟩
        dsimp only [tNoPart]
        refine ⟨p, _, rfl, SqL.of L1.hp, fun p2 np2 => ?_⟩
        rw [rows_from1]
        have A2 := A1.keep (o := .lst (rowsT (ws.drop (k + 1)))) np2
        have B2 := Ls.new (us := ws.drop (k + 1)) L1.same L1.bag np2
        refine ⟨p1, p2, _, _, rfl, rfl, A2.hp, B2.hp, len2 _ _ (by rw [List.length_take]; omega) (by rw [List.length_drop]; omega), fun p3 np3 => ?_⟩
        rw [rows_cat]
        have C3 := Ls.new (us := ws.take k ++ ws.drop (k + 1)) A2.same A2.bag np3
        exact hM _ _ ⟨p3, _, _, rfl, C3, Wok.cut pcs wl⟩
      refine ⟨_, rfl, rfl, _, rfl, ite2 (fun hw => ?_) (fun hw => ?_)⟩
      · refine ⟨_, rfl, ?_⟩
        dsimp only [tNoPart]
        refine ⟨_, rfl, _, rfl, p, _, rfl, SqL.of L0.hp, fun p1 np1 => ?_⟩
        rw [rows_to]
        have L1 := L0.keep (o := .lst (rowsT (ws.take k))) np1
        have A1 := Ls.new (us := ws.take k) L0.same L0.bag np1
        refine ⟨_, rfl, _, rfl, p, _, _, _, rfl, rfl, SqL.of L1.hp, rows_get hj, ?_⟩
        have L2 := L1
        have A2 := A1
        refine ⟨by show 1 ≤ sizeLine; decide, fun p2 np2 => ?_⟩
        have B3 : Ls b H _ p2 [ws[j]] := Ls.new (us := [ws[j]]) L2.same L2.bag np2
        have L3 := L2.keep (o := .lst (rowsT [ws[j]])) np2
        have A3 := A2.keep (o := .lst (rowsT [ws[j]])) np2
        refine ⟨p1, p2, _, _, rfl, rfl, A3.hp, B3.hp, len2 _ _ (by rw [List.length_take]; omega) (by show 1 ≤ _; omega), fun p3 np3 => ?_⟩
        rw [rows_cat]
        have C4 := Ls.new (us := ws.take k ++ [ws[j]]) A3.same A3.bag np3
        have L4 := L3.keep (o := .lst (rowsT (ws.take k ++ [ws[j]]))) np3
        refine ⟨_, rfl, _, rfl, _, rfl, ?_⟩
        dsimp only [tNoPart]
        refine ⟨p, _, rfl, SqL.of L4.hp, fun p4 np4 => ?_⟩
        rw [rows_from]
        have C5 := C4.keep (o := .lst (rowsT (ws.drop k))) np4
        have D5 := Ls.new (us := ws.drop k) L4.same L4.bag np4
        refine ⟨p3, p4, _, _, rfl, rfl, C5.hp, D5.hp, len2 _ _ (by rw [List.length_append, List.length_take]; show _ + 1 ≤ _; omega) (by rw [List.length_drop]; omega), fun p5 np5 => ?_⟩
        rw [rows_cat]
        have E6 := Ls.new (us := ws.take k ++ [ws[j]] ++ ws.drop k) C5.same C5.bag np5
        exact hM _ _ ⟨p5, _, _, rfl, E6, Wok.put pcs wl (pcs _ (List.getElem_mem hj)) (by have := wt_mem (List.getElem_mem hj); omega)⟩
      refine ⟨_, rfl, rfl, _, rfl, ite2 (fun hw => ?_) (fun hw => ?_)⟩
      · refine ⟨_, rfl, _, rfl, p, _, _, _, rfl, rfl, SqL.of L0.hp, rows_get hk, ?_⟩
        refine ⟨_, rfl, _, rfl, p, _, _, _, rfl, rfl, SqL.of L0.hp, rows_get hj, _, rfl, _, rfl, p, _, _, k, rfl, rfl, L0.hp, ixn8 (by rw [rowsT_len]; exact hk), ?_⟩
        rw [rowsT_set]
        have L1 := L0.set (us := ws.set k ws[j])
        refine ⟨_, rfl, _, rfl, _, rfl, p, _, _, j, rfl, rfl, L1.hp, ixn8 (by rw [rowsT_len, List.length_set]; exact hj), ?_⟩
        rw [rowsT_set]
        exact hM _ _ ⟨p, _, _, rfl, L1.set, Wok.swap pcs wl hk hj⟩
      refine ⟨_, rfl, rfl, _, rfl, ite2 (fun hw => ?_) (fun hw => ?_)⟩
      · refine ⟨_, rfl, ?_⟩
        dsimp only [tNoPart]
        refine ⟨_, rfl, _, rfl, p, _, rfl, SqL.of L0.hp, fun p1 np1 => ?_⟩
        rw [rows_to]
        have L1 := L0.keep (o := .lst (rowsT (ws.take k))) np1
        have A1 := Ls.new (us := ws.take k) L0.same L0.bag np1
        refine ⟨_, rfl, b, rfl, L1.bag, fun u Hu su bu ua ul => ?_⟩
        have L2 := L1.on su bu
        have A2 := A1.on su bu
        refine ⟨by show 1 ≤ sizeLine; decide, fun p2 np2 => ?_⟩
        have B3 : Ls b H _ p2 [u] := Ls.new (us := [u]) L2.same L2.bag np2
        have L3 := L2.keep (o := .lst (rowsT [u])) np2
        have A3 := A2.keep (o := .lst (rowsT [u])) np2
        refine ⟨p1, p2, _, _, rfl, rfl, A3.hp, B3.hp, len2 _ _ (by rw [List.length_take]; omega) (by show 1 ≤ _; omega), fun p3 np3 => ?_⟩
        rw [rows_cat]
        have C4 := Ls.new (us := ws.take k ++ [u]) A3.same A3.bag np3
        have L4 := L3.keep (o := .lst (rowsT (ws.take k ++ [u]))) np3
        refine ⟨_, rfl, _, rfl, _, rfl, ?_⟩
        dsimp only [tNoPart]
        refine ⟨p, _, rfl, SqL.of L4.hp, fun p4 np4 => ?_⟩
        rw [rows_from]
        have C5 := C4.keep (o := .lst (rowsT (ws.drop k))) np4
        have D5 := Ls.new (us := ws.drop k) L4.same L4.bag np4
        refine ⟨p3, p4, _, _, rfl, rfl, C5.hp, D5.hp, len2 _ _ (by rw [List.length_append, List.length_take]; show _ + 1 ≤ _; omega) (by rw [List.length_drop]; omega), fun p5 np5 => ?_⟩
        rw [rows_cat]
        have E6 := Ls.new (us := ws.take k ++ [u] ++ ws.drop k) C5.same C5.bag np5
        exact hM _ _ ⟨p5, _, _, rfl, E6, Wok.put pcs wl (ua) (by omega)⟩
      refine ⟨_, rfl, rfl, _, rfl, ite2 (fun hw => ?_) (fun hw => ?_)⟩
      · refine ⟨_, rfl, b, rfl, L0.bag, fun u Hu su bu ua ul => ?_⟩
        have L2 := L0.on su bu
        refine ⟨_, rfl, _, rfl, p, _, _, k, rfl, rfl, L2.hp, ixn8 (by rw [rowsT_len]; exact hk), ?_⟩
        rw [rowsT_set]
        exact hM _ _ ⟨p, _, _, rfl, L2.set, Wok.set pcs wl (ua) (by omega)⟩
      refine ⟨_, rfl, _, _, rfl, rfl, _, rfl, ite2 (fun hw => ?_) (fun hw => ?_)⟩
      · refine ⟨_, rfl, b, rfl, L0.bag, fun u Hu su bu ua ul => ?_⟩
        have L2 := L0.on su bu
        refine ⟨_, rfl, p, _, _, 0, rfl, rfl, L2.hp, ixn8 (n := (rowsT ws).length) (p := 0) (by rw [rowsT_len]; exact pne), ?_⟩
        rw [rowsT_set]
        exact hM _ _ ⟨p, _, _, rfl, L2.set, Wok.set pcs wl (ua) (by omega)⟩
      refine ⟨_, rfl, _, _, rfl, rfl, _, rfl, ite2 (fun hw => ?_) (fun hw => ?_)⟩
      · refine ⟨_, rfl, ?_⟩
        refine ⟨_, rfl, rfl, _, rfl, ite2 (fun hw7 => ?_) (fun hw7 => ?_)⟩
        · refine ⟨by show 1 ≤ sizeLine; decide, fun p2 np2 => ?_⟩
          have e0 : (Str.ofString "" : Str) = S [] := ofS ""
          rw [e0]
          have B3 : Ls b H _ p2 [[]] := Ls.new (us := [[]]) L0.same L0.bag np2
          have L3 := L0.keep (o := .lst (rowsT [[]])) np2
          refine ⟨p, p2, _, _, rfl, rfl, L3.hp, B3.hp, len2 _ _ (by omega) (by show 1 ≤ _; omega), fun p3 np3 => ?_⟩
          rw [rows_cat]
          exact hM _ _ ⟨p3, _, _, rfl, Ls.new L3.same L3.bag np3, Wok.end_ pcs wl rfl (Nat.zero_le _)⟩
        · refine ⟨_, rfl, b, rfl, L0.bag, fun u Hu su bu ua ul => ?_⟩
          have L2 := L0.on su bu
          refine ⟨by show 1 ≤ sizeLine; decide, fun p2 np2 => ?_⟩
          have B3 : Ls b H _ p2 [u] := Ls.new (us := [u]) L2.same L2.bag np2
          have L3 := L2.keep (o := .lst (rowsT [u])) np2
          refine ⟨p, p2, _, _, rfl, rfl, L3.hp, B3.hp, len2 _ _ (by omega) (by show 1 ≤ _; omega), fun p3 np3 => ?_⟩
          rw [rows_cat]
          exact hM _ _ ⟨p3, _, _, rfl, Ls.new L3.same L3.bag np3, Wok.end_ pcs wl ua (by omega)⟩
      refine ⟨_, rfl, _, rfl, _, rfl, p, _, _, _, rfl, rfl, SqL.of L0.hp, rows_get hk, b, ws[k], rfl, L0.bag, pcs _ (List.getElem_mem hk), by have := wt_mem (List.getElem_mem hk); omega, fun u Hu su bu ua ul => ?_⟩
      have L2 := L0.on su bu
      refine ⟨_, rfl, _, rfl, p, _, _, k, rfl, rfl, L2.hp, ixn8 (by rw [rowsT_len]; exact hk), ?_⟩
      rw [rowsT_set]
      exact hM _ _ ⟨p, _, _, rfl, L2.set, Wok.set pcs wl (ua) (by have := wt_mem (List.getElem_mem hk); omega)⟩
    rintro σ H9 ⟨R, us, v6, rfl, L9, W9⟩
    refine ⟨⟨_, rfl⟩, _, rfl, ?_⟩
    have wz := W9.wt
    exact join_use (ofS "\n") (by decide) L9.hp W9.asc (by omega) fun x xa xl => q x _ L9.same L9.bag xa (by omega)
theorem ok_words_spoilt8 {f : Addr} {fd : FuncData} (F : Fun K "_law_words_spoilt" "_law_words_spoilt" s_law_words_spoilt f fd) (B : Blt mg) (g_law_draw : DefR P w K mg base "_law_draw" 1 spDraw) : FnOk P w K mg base (L2.CX P w) 2 f fd ["bag", "text"] spTx8 := by
  refine F.okX sc_law_words_spoilt (fun vs H Q E h => ?_) (fun cdv A outer s H vs Q E hr h => ?_)
  · obtain ⟨b, l, rfl, _⟩ := h
    rfl
  · obtain ⟨b, l, rfl, hb, ha, hz, q⟩ := h
    -- slots: 0 bag, 1 text, 2 menu, 3 words, 4 place, 5 other, 6 way
    refine ⟨_, (pss_cons (ps_set (i := 2) sc_law_words_spoilt.nd rfl (Or.inl rfl) (pe_lst (pa_cons pe_str (pa_cons pe_str (pa_cons pe_str (pa_cons pe_str (pa_cons pe_str (pa_cons pe_str (pa_cons pe_str (pa_cons pe_str (pa_cons pe_str (pa_cons pe_str (pa_cons pe_str (pa_cons pe_str (pa_cons pe_str (pa_cons pe_str (pa_cons pe_str pa_nil)))))))))))))))))
      (pss_cons (ps_set (i := 2) sc_law_words_spoilt.nd rfl (Or.inl rfl) (pe_op op_cat (pv 2) (pe_lst (pa_cons pe_str (pa_cons pe_str (pa_cons pe_str (pa_cons pe_str (pa_cons pe_str (pa_cons pe_str (pa_cons pe_str (pa_cons pe_str (pa_cons pe_str (pa_cons pe_str (pa_cons pe_str pa_nil))))))))))))))
      (pss_cons (ps_set (i := 2) sc_law_words_spoilt.nd rfl (Or.inl rfl) (pe_op op_cat (pv 2) (pe_lst (pa_cons (pe_op op_mulS pe_str pe_int) (pa_cons (pe_op op_add_str pe_str (pe_op op_mulS pe_str pe_int)) (pa_cons pe_str pa_nil))))))
      (pss_cons (ps_set (i := 3) sc_law_words_spoilt.nd rfl (Or.inl rfl) (pe_split (pv 1) pe_str))
      (pss_cons (ps_set (i := 4) sc_law_words_spoilt.nd rfl (Or.inl rfl) (pe_cd g_law_draw hr psE (pa_cons (pv 0) (pa_cons (pe_callB call_len_seq (by rfl) B.len bt_len (pa_cons (pv 3) pa_nil)) pa_nil))))
      (pss_cons (ps_set (i := 5) sc_law_words_spoilt.nd rfl (Or.inl rfl) (pe_cd g_law_draw hr psE (pa_cons (pv 0) (pa_cons (pe_callB call_len_seq (by rfl) B.len bt_len (pa_cons (pv 3) pa_nil)) pa_nil))))
      (pss_cons (ps_set (i := 6) sc_law_words_spoilt.nd rfl (Or.inl rfl) (pe_cd g_law_draw hr psE (pa_cons (pv 0) (pa_cons pe_int pa_nil))))
      (pss_cons (ps_if (pt_cmpR op_eq (pv 6) pe_int (nomark _)) (pss_one (ps_set (i := 3) sc_law_words_spoilt.nd rfl (Or.inl rfl) (pe_op op_cat (pe_slice sl_list (pv 3) po_none (po_some (pv 4))) (pe_slice sl_list (pv 3) (po_some (pe_op op_add (pv 4) pe_int)) po_none)))) (pss_one (ps_if (pt_cmpR op_eq (pv 6) pe_int (nomark _)) (pss_one (ps_set (i := 3) sc_law_words_spoilt.nd rfl (Or.inl rfl) (pe_op op_cat (pe_op op_cat (pe_slice sl_list (pv 3) po_none (po_some (pv 4))) (pe_lst (pa_cons (pe_ix ix_list (pv 3) (pv 5) (fun _ _ => rfl)) pa_nil))) (pe_slice sl_list (pv 3) (po_some (pv 4)) po_none)))) (pss_one (ps_if (pt_cmpR op_eq (pv 6) pe_int (nomark _)) (pss_one (ps_set (i := 3) sc_law_words_spoilt.nd rfl (Or.inl rfl) (pe_op op_cat (pv 3) (pe_lst (pa_cons pe_str pa_nil))))) (pss_one (ps_if (pt_cmpR op_eq (pv 6) pe_int (nomark _)) (pss_one (ps_set (i := 3) sc_law_words_spoilt.nd rfl (Or.inl rfl) (pe_op op_cat (pe_op op_cat (pe_slice sl_list (pv 3) po_none (po_some (pv 4))) (pe_lst (pa_cons (pe_ix ix_list (pv 2) (pe_cd g_law_draw hr psE (pa_cons (pv 0) (pa_cons (pe_callB call_len_seq (by rfl) B.len bt_len (pa_cons (pv 2) pa_nil)) pa_nil))) (fun _ _ => rfl)) pa_nil))) (pe_slice sl_list (pv 3) (po_some (pv 4)) po_none)))) (pss_one (ps_asg (pe_ix ix_list (pv 2) (pe_cd g_law_draw hr psE (pa_cons (pv 0) (pa_cons (pe_callB call_len_seq (by rfl) B.len bt_len (pa_cons (pv 2) pa_nil)) pa_nil))) (fun _ _ => rfl)) (pg_sub (pv 3) (pv 4) set_list))))))))))
      (pss_one (ps_ret (pe_join pe_str (pv 3)))))))))))), ?_⟩
    have s0 : SameB b H H := SameB.of (Same.refl H)
    have b0 := hb
    refine seq_mid (fun σ H5 => ∃ R xs, σ = [some (.ref b), some (.str (S l)), some (.ref R), none, none, none, none] ∧ SameB b H H5 ∧ BagAt H5 b ∧ R ≠ b ∧ H5 R = some (.lst xs) ∧ GL xs ∧ xs.length = 15) (fun M hM => ?_) ?_
    · exact ⟨by show 15 ≤ sizeLine; decide, fun p1 np1 => hM _ _ ⟨p1, _, rfl, s0.trans (SameB.of (Same.new np1)), b0.same (Same.new np1), (bag_ne b0 np1).symm, upd_same, (GL.cons (ofS _) (by decide) (by decide) (GL.cons (ofS _) (by decide) (by decide) (GL.cons (ofS _) (by decide) (by decide) (GL.cons (ofS _) (by decide) (by decide) (GL.cons (ofS _) (by decide) (by decide) (GL.cons (ofS _) (by decide) (by decide) (GL.cons (ofS _) (by decide) (by decide) (GL.cons (ofS _) (by decide) (by decide) (GL.cons (ofS _) (by decide) (by decide) (GL.cons (ofS _) (by decide) (by decide) (GL.cons (ofS _) (by decide) (by decide) (GL.cons (ofS _) (by decide) (by decide) (GL.cons (ofS _) (by decide) (by decide) (GL.cons (ofS _) (by decide) (by decide) (GL.cons (ofS _) (by decide) (by decide) GL.nil))))))))))))))), rfl⟩⟩
    rintro σ H5 ⟨R, xs, rfl, s0, b0, Rb, hR, G, ln⟩
    refine seq_mid (fun σ H5 => ∃ R xs, σ = [some (.ref b), some (.str (S l)), some (.ref R), none, none, none, none] ∧ SameB b H H5 ∧ BagAt H5 b ∧ R ≠ b ∧ H5 R = some (.lst xs) ∧ GL xs ∧ xs.length = 26) (fun M hM => ?_) ?_
    · exact ⟨_, rfl, by show 11 ≤ sizeLine; decide, fun p1 np1 => ⟨R, p1, xs, _, rfl, rfl, (Same.new np1) _ _ hR, upd_same, by rw [ln]; show 15 + 11 ≤ sizeLine; decide, fun p2 np2 => hM _ _ ⟨p2, _, rfl, s0.trans (SameB.of ((Same.new np1).trans (Same.new np2))), b0.same ((Same.new np1).trans (Same.new np2)), (bag_ne (b0.same (Same.new np1)) np2).symm, upd_same, G.cat (GL.cons (ofS _) (by decide) (by decide) (GL.cons (ofS _) (by decide) (by decide) (GL.cons (ofS _) (by decide) (by decide) (GL.cons (ofS _) (by decide) (by decide) (GL.cons (ofS _) (by decide) (by decide) (GL.cons (ofS _) (by decide) (by decide) (GL.cons (ofS _) (by decide) (by decide) (GL.cons (ofS _) (by decide) (by decide) (GL.cons (ofS _) (by decide) (by decide) (GL.cons (ofS _) (by decide) (by decide) (GL.cons (ofS _) (by decide) (by decide) GL.nil))))))))))), by rw [List.length_append, ln]; rfl⟩⟩⟩
    clear G ln hR s0 b0 Rb
    rintro σ H5 ⟨R, xs, rfl, s0, b0, Rb, hR, G, ln⟩
    refine seq_mid (fun σ H5 => ∃ R xs, σ = [some (.ref b), some (.str (S l)), some (.ref R), none, none, none, none] ∧ SameB b H H5 ∧ BagAt H5 b ∧ R ≠ b ∧ H5 R = some (.lst xs) ∧ GL xs ∧ xs.length = 29) (fun M hM => ?_) ?_
    · exact ⟨_, rfl, 53, 4400, rfl, rfl, by decide, by decide, 49, 4400, rfl, rfl, by decide, by decide, _, _, rfl, rfl, line8 (by decide +kernel), by show 3 ≤ sizeLine; decide, fun p1 np1 => ⟨R, p1, xs, _, rfl, rfl, (Same.new np1) _ _ hR, upd_same, by rw [ln]; show 26 + 3 ≤ sizeLine; decide, fun p2 np2 => hM _ _ ⟨p2, _, rfl, s0.trans (SameB.of ((Same.new np1).trans (Same.new np2))), b0.same ((Same.new np1).trans (Same.new np2)), (bag_ne (b0.same (Same.new np1)) np2).symm, upd_same, G.cat (GL.cons rfl (asc_rep (by decide)) (by rw [List.length_replicate]; decide) (GL.cons st_cat (asc_cat (by decide) (asc_rep (by decide))) (by rw [List.length_append, List.length_replicate]; decide) (GL.cons (ofS _) (by decide) (by decide) GL.nil))), by rw [List.length_append, ln]; rfl⟩⟩⟩
    clear G ln hR s0 b0 Rb
    rintro σ H5 ⟨R, xs, rfl, s0, b0, Rb, hR, G, ln⟩
    refine ⟨_, rfl, ⟨_, rfl⟩, _, _, rfl, rfl, rfl, line8 (by rw [S_len]; omega), fun p np => ?_⟩
    rw [split32]
    have pcs : ∀ w ∈ TL.spl [32] 0 [] l, asc w = true := fun w hw => (spl1_asc (s := 32) ha w hw).1
    have wl := wt_spl (s := 32) l []
    have pne : 0 < (TL.spl [32] 0 [] l).length := by
      cases e : TL.par [32] [] l with
      | none => rw [(par_spl l []).1 e]; exact Nat.zero_lt_one
      | some z => rw [(par_spl l []).2 z.1 z.2 e]; exact Nat.succ_pos _
    generalize TL.spl [32] 0 [] l = ws at pcs wl pne ⊢
    rw [List.length_nil, Nat.zero_add] at wl
    have ln := wt_len ws
    have La := Ls.new (us := ws) (q := p) (SameB.of (Same.refl H5)) b0 np
    obtain ⟨H2, e2⟩ : ∃ H2, H2 = upd H5 p (.lst ((ws.map S).map V.str)) := ⟨_, rfl⟩
    rw [show rowsT ws = (ws.map S).map V.str from rfl, ← e2] at La
    rw [← e2]
    dsimp only [gName]
    refine ⟨_, rfl, _, rfl, p, _, rfl, .inl (SqL.of La.hp), b, _, rfl, La.bag, by rw [rowsT_len]; omega, by rw [rowsT_len]; omega, fun d H3 d0 d1 s3 b3 => ?_⟩
    rw [rowsT_len] at d1
    have Lb := La.on s3 b3
    dsimp only [gName]
    refine ⟨_, rfl, _, rfl, p, _, rfl, .inl (SqL.of Lb.hp), b, _, rfl, b3, by rw [rowsT_len]; omega, by rw [rowsT_len]; omega, fun e H4 e0 e1 s4 b4 => ?_⟩
    rw [rowsT_len] at e1
    have Lc := Lb.on s4 b4
    obtain ⟨k, rfl⟩ : ∃ k : Nat, d = k := ⟨d.toNat, by omega⟩
    obtain ⟨j, rfl⟩ : ∃ j : Nat, e = j := ⟨e.toNat, by omega⟩
    have hk : k < ws.length := by omega
    have hj : j < ws.length := by omega
    dsimp only [gName]
    refine ⟨_, rfl, b, 6, rfl, b4, by decide, by decide, fun g Hz g0 g1 s5 b5 => ?_⟩
    have L0 := Lc.on s5 b5
    have hm : ∀ {Hx : Hp}, SameB b H5 Hx → Hx R = some (.lst xs) := fun {Hx} s => s _ _ hR Rb
    have len2 : ∀ (x y : List (List Nat)), x.length ≤ ws.length + 1 → y.length ≤ ws.length + 1 → (rowsT x).length + (rowsT y).length ≤ sizeLine := fun x y hx hy => by rw [rowsT_len, rowsT_len]; exact line8 (by omega)
    dsimp only [gName]
    refine seq_mid (fun σ H9 => ∃ R2 us, σ = [some (.ref b), some (.str (S l)), some (.ref R), some (.ref R2), some (.int (k : Nat)), some (.int (j : Nat)), some (.int g)] ∧ Ls b H5 H9 R2 us ∧ Wok l us) (fun M hM => ?_) ?_
    · refine ⟨_, rfl, rfl, _, rfl, ite2 (fun hw => ?_) (fun hw => ?_)⟩
      · refine ⟨_, rfl, ?_⟩
        dsimp only [tNoPart]
        refine ⟨_, rfl, _, rfl, p, _, rfl, SqL.of L0.hp, fun p1 np1 => ?_⟩
        rw [rows_to]
        have L1 := L0.keep (o := .lst (rowsT (ws.take k))) np1
        have A1 := Ls.new (us := ws.take k) L0.same L0.bag np1
        refine ⟨_, rfl, _, rfl, _, _, rfl, rfl, _, rfl, ?_⟩
        dsimp only [tNoPart]
        refine ⟨p, _, rfl, SqL.of L1.hp, fun p2 np2 => ?_⟩
        rw [rows_from1]
        have A2 := A1.keep (o := .lst (rowsT (ws.drop (k + 1)))) np2
        have B2 := Ls.new (us := ws.drop (k + 1)) L1.same L1.bag np2
        refine ⟨p1, p2, _, _, rfl, rfl, A2.hp, B2.hp, len2 _ _ (by rw [List.length_take]; omega) (by rw [List.length_drop]; omega), fun p3 np3 => ?_⟩
        rw [rows_cat]
        have C3 := Ls.new (us := ws.take k ++ ws.drop (k + 1)) A2.same A2.bag np3
        exact hM _ _ ⟨p3, _, rfl, C3, Wok.cut pcs wl⟩
      refine ⟨_, rfl, rfl, _, rfl, ite2 (fun hw => ?_) (fun hw => ?_)⟩
      · refine ⟨_, rfl, ?_⟩
        dsimp only [tNoPart]
        refine ⟨_, rfl, _, rfl, p, _, rfl, SqL.of L0.hp, fun p1 np1 => ?_⟩
        rw [rows_to]
        have L1 := L0.keep (o := .lst (rowsT (ws.take k))) np1
        have A1 := Ls.new (us := ws.take k) L0.same L0.bag np1
        refine ⟨_, rfl, _, rfl, p, _, _, _, rfl, rfl, SqL.of L1.hp, rows_get hj, ?_⟩
        have L2 := L1
        have A2 := A1
        refine ⟨by show 1 ≤ sizeLine; decide, fun p2 np2 => ?_⟩
        have B3 : Ls b H5 _ p2 [ws[j]] := Ls.new (us := [ws[j]]) L2.same L2.bag np2
        have L3 := L2.keep (o := .lst (rowsT [ws[j]])) np2
        have A3 := A2.keep (o := .lst (rowsT [ws[j]])) np2
        refine ⟨p1, p2, _, _, rfl, rfl, A3.hp, B3.hp, len2 _ _ (by rw [List.length_take]; omega) (by show 1 ≤ _; omega), fun p3 np3 => ?_⟩
        rw [rows_cat]
        have C4 := Ls.new (us := ws.take k ++ [ws[j]]) A3.same A3.bag np3
        have L4 := L3.keep (o := .lst (rowsT (ws.take k ++ [ws[j]]))) np3
        refine ⟨_, rfl, _, rfl, _, rfl, ?_⟩
        dsimp only [tNoPart]
        refine ⟨p, _, rfl, SqL.of L4.hp, fun p4 np4 => ?_⟩
        rw [rows_from]
        have C5 := C4.keep (o := .lst (rowsT (ws.drop k))) np4
        have D5 := Ls.new (us := ws.drop k) L4.same L4.bag np4
        refine ⟨p3, p4, _, _, rfl, rfl, C5.hp, D5.hp, len2 _ _ (by rw [List.length_append, List.length_take]; show _ + 1 ≤ _; omega) (by rw [List.length_drop]; omega), fun p5 np5 => ?_⟩
        rw [rows_cat]
        have E6 := Ls.new (us := ws.take k ++ [ws[j]] ++ ws.drop k) C5.same C5.bag np5
        exact hM _ _ ⟨p5, _, rfl, E6, Wok.put pcs wl (pcs _ (List.getElem_mem hj)) (by have := wt_mem (List.getElem_mem hj); omega)⟩
      refine ⟨_, rfl, rfl, _, rfl, ite2 (fun hw => ?_) (fun hw => ?_)⟩
      · refine ⟨_, rfl, by show 1 ≤ sizeLine; decide, fun p2 np2 => ?_⟩
        have e0 : (Str.ofString "" : Str) = S [] := ofS ""
        rw [e0]
        have B3 : Ls b H5 _ p2 [[]] := Ls.new (us := [[]]) L0.same L0.bag np2
        have L3 := L0.keep (o := .lst (rowsT [[]])) np2
        refine ⟨p, p2, _, _, rfl, rfl, L3.hp, B3.hp, len2 _ _ (by omega) (by show 1 ≤ _; omega), fun p3 np3 => ?_⟩
        rw [rows_cat]
        exact hM _ _ ⟨p3, _, rfl, Ls.new L3.same L3.bag np3, Wok.end_ pcs wl rfl (Nat.zero_le _)⟩
      refine ⟨_, rfl, rfl, _, rfl, ite2 (fun hw => ?_) (fun hw => ?_)⟩
      · refine ⟨_, rfl, ?_⟩
        dsimp only [tNoPart]
        refine ⟨_, rfl, _, rfl, p, _, rfl, SqL.of L0.hp, fun p1 np1 => ?_⟩
        rw [rows_to]
        have L1 := L0.keep (o := .lst (rowsT (ws.take k))) np1
        have A1 := Ls.new (us := ws.take k) L0.same L0.bag np1
        refine ⟨_, rfl, _, rfl, _, rfl, R, _, rfl, .inl (SqL.of (hm L1.same)), b, _, rfl, L1.bag, by omega, by omega, fun d2 Hu c0 c1 su bu => ?_⟩
        obtain ⟨k2, rfl⟩ : ∃ k2 : Nat, d2 = k2 := ⟨d2.toNat, by omega⟩
        obtain ⟨u, at0, ua, ul⟩ := G.at (k := k2) (by omega)
        have L2 := L1.on su bu
        refine ⟨R, _, _, _, rfl, rfl, SqL.of (hm L2.same), at0, ?_⟩
        have A2 := A1.on su bu
        refine ⟨by show 1 ≤ sizeLine; decide, fun p2 np2 => ?_⟩
        have B3 : Ls b H5 _ p2 [u] := Ls.new (us := [u]) L2.same L2.bag np2
        have L3 := L2.keep (o := .lst (rowsT [u])) np2
        have A3 := A2.keep (o := .lst (rowsT [u])) np2
        refine ⟨p1, p2, _, _, rfl, rfl, A3.hp, B3.hp, len2 _ _ (by rw [List.length_take]; omega) (by show 1 ≤ _; omega), fun p3 np3 => ?_⟩
        rw [rows_cat]
        have C4 := Ls.new (us := ws.take k ++ [u]) A3.same A3.bag np3
        have L4 := L3.keep (o := .lst (rowsT (ws.take k ++ [u]))) np3
        refine ⟨_, rfl, _, rfl, _, rfl, ?_⟩
        dsimp only [tNoPart]
        refine ⟨p, _, rfl, SqL.of L4.hp, fun p4 np4 => ?_⟩
        rw [rows_from]
        have C5 := C4.keep (o := .lst (rowsT (ws.drop k))) np4
        have D5 := Ls.new (us := ws.drop k) L4.same L4.bag np4
        refine ⟨p3, p4, _, _, rfl, rfl, C5.hp, D5.hp, len2 _ _ (by rw [List.length_append, List.length_take]; show _ + 1 ≤ _; omega) (by rw [List.length_drop]; omega), fun p5 np5 => ?_⟩
        rw [rows_cat]
        have E6 := Ls.new (us := ws.take k ++ [u] ++ ws.drop k) C5.same C5.bag np5
        exact hM _ _ ⟨p5, _, rfl, E6, Wok.put pcs wl (ua) (by omega)⟩
      refine ⟨_, rfl, _, rfl, _, rfl, R, _, rfl, .inl (SqL.of (hm L0.same)), b, _, rfl, L0.bag, by omega, by omega, fun d2 Hu c0 c1 su bu => ?_⟩
      obtain ⟨k2, rfl⟩ : ∃ k2 : Nat, d2 = k2 := ⟨d2.toNat, by omega⟩
      obtain ⟨u, at0, ua, ul⟩ := G.at (k := k2) (by omega)
      have L2 := L0.on su bu
      refine ⟨R, _, _, _, rfl, rfl, SqL.of (hm L2.same), at0, ?_⟩
      refine ⟨_, rfl, _, rfl, p, _, _, k, rfl, rfl, L2.hp, ixn8 (by rw [rowsT_len]; exact hk), ?_⟩
      rw [rowsT_set]
      exact hM _ _ ⟨p, _, rfl, L2.set, Wok.set pcs wl (ua) (by omega)⟩
    rintro σ H9 ⟨R2, us, rfl, L9, W9⟩
    refine ⟨⟨_, rfl⟩, _, rfl, ?_⟩
    have wz := W9.wt
    exact join_use (ofS " ") (by decide) L9.hp W9.asc (by omega) fun x xa xl => q x _ (s0.trans L9.same) L9.bag xa (by omega)
end
end WC

set_option maxHeartbeats 8000000
namespace WC
open PySem PySem.Spec PyProof.Rows L2 SX
def PrA (H : Hp) (p : Int × Int) (v : V) : Prop := ∃ t, v = .ref t ∧ H t = some (.tup [.int p.1, .int p.2])
theorem pr_sameP {H H2 : Hp} {ps : List (Int × Int)} {ks : List V} (h : Paired (PrA H) ps ks) (s : Same H H2) : Paired (PrA H2) ps ks := Paired.mapP h fun _ _ ⟨t, e, x⟩ => ⟨t, e, s _ _ x⟩
def UpP (n : Int) (ps : List (Int × Int)) : Prop := (ps.Pairwise fun p q => p.1 < q.1 ∨ (p.1 = q.1 ∧ p.2 < q.2)) ∧ ∀ p ∈ ps, 0 ≤ p.1 ∧ p.1 < p.2 ∧ p.2 < n
theorem UpP.snoc {n : Int} {ps : List (Int × Int)} {a b : Int} (h : UpP n ps) (h2 : ∀ p ∈ ps, p.1 < a ∨ (p.1 = a ∧ p.2 < b)) (a0 : 0 ≤ a) (ab : a < b) (bn : b < n) : UpP n (ps ++ [(a, b)]) := by
  refine ⟨List.pairwise_append.mpr ⟨h.1, List.pairwise_singleton _ _, fun p hp q hq => ?_⟩, fun p hp => ?_⟩
  · rw [List.mem_singleton.mp hq]
    exact h2 p hp
  · rcases List.mem_append.mp hp with z | z
    · exact h.2 p z
    · rw [List.mem_singleton.mp z]; exact ⟨a0, ab, bn⟩
/-- while pairs are being found -/
structure PsI (H H5 : Hp) (n : Int) (R : Addr) (ps : List (Int × Int)) : Prop where
  same : Same H H5
  ex : ∃ ks, H5 R = some (.lst ks) ∧ Paired (PrA H5) ps ks
  up : UpP n ps
  len : ps.length ≤ 125
def spPairs7 : Sp := fun vs H Q _ => ∃ (n : Nat) (st mo : Int), vs = [.int n, .int st, .int mo] ∧ n ≤ 40 ∧ 1 ≤ st ∧ mo ≤ 123 ∧ ∀ R ps H2, H R = none → PsI H H2 n R ps → Q (.ref R) H2
section
variable {P : Program} {w : World} {K : PySem.W.Frag} {mg : Str → Option Value} {base : Heap}
theorem ok_pairs7 {f : Addr} {fd : FuncData} (F : Fun K "_law_pairs" "_law_pairs" s_law_pairs f fd) (B : Blt mg) : FnOk P w K mg base (L2.CX P w) 1 f fd ["count", "stride", "most"] spPairs7 := by
  refine F.okX sc_law_pairs (fun vs H Q E h => ?_) (fun cdv A outer s H vs Q E hr h => ?_)
  · obtain ⟨n, st, mo, rfl, _⟩ := h
    rfl
  · obtain ⟨n, st, mo, rfl, n40, st1, m123, q⟩ := h
    -- slots: 0 count, 1 stride, 2 most, 3 pairs, 4 passed, 5 a, 6 b
    refine ⟨_, (pss_cons (ps_set (i := 3) sc_law_pairs.nd rfl (Or.inl rfl) (pe_lst pa_nil))
      (pss_cons (ps_set (i := 4) sc_law_pairs.nd rfl (Or.inl rfl) pe_int)
      (pss_cons (ps_for (passes_of rfl) rfl (pi_range1 (by rfl) B.range (pa_cons (pv 0) pa_nil)) (pg_name (i := 5) sc_law_pairs.nd rfl (Or.inl rfl))
        (pss_one (ps_for (passes_of rfl) rfl (pi_range2 (by rfl) B.range (pa_cons (pe_op op_add (pv 5) pe_int) (pa_cons (pv 0) pa_nil))) (pg_name (i := 6) sc_law_pairs.nd rfl (Or.inl rfl))
        (pss_cons (ps_if (PW.pt (pw_and (pt_cmpR op_eq (pe_op op_modN (pe_callTy (T := "int") call_int1 (by rfl) B.int bt_int (pa_cons (pv 4) pa_nil)) (pv 1)) pe_int (nomark _)) (pw_and1 (pt_cmpR op_lt (pe_callB call_len_seq (by rfl) B.len bt_len (pa_cons (pv 3) pa_nil)) (pv 2) (nomark _))))) (pss_one (ps_expr (pe_bm PySem.F.plainAttrs_list PySem.F.slot_list_append PySem.F.type_list_append mt_append (pv 3) (pa_cons (pe_tup (pa_cons (pv 5) (pa_cons (pv 6) pa_nil))) pa_nil)))) pss_nil)
      (pss_one (ps_aug (i := 4) sc_law_pairs.nd rfl (Or.inl rfl) pe_int ip_add))))))
      (pss_one (ps_ret (pv 3)))))), ?_⟩
    refine ⟨by show 0 ≤ sizeLine; decide, fun R nR => ?_⟩
    obtain ⟨H1, e1⟩ : ∃ H1, H1 = upd H R (.lst []) := ⟨_, rfl⟩
    have p1 : PsI H H1 n R [] := by rw [e1]; exact ⟨Same.new nR, ⟨[], upd_same, .nil⟩, ⟨.nil, fun p hp => by cases hp⟩, by decide⟩
    rw [← e1]
    dsimp only [gName]
    refine seq_mid (fun σ H5 => σ = [some (.int n), some (.int st), some (.int mo), some (.ref R), some (.int 0), none, none] ∧ H5 = H1) (fun M hM => hM _ _ ⟨rfl, rfl⟩) ?_
    rintro σ H5 ⟨rfl, rfl⟩
    refine ⟨_, rfl, (n : Int), rfl, by omega, by omega, for_it walk_range (fun i σ H5 => ∃ (pas : Int) (v5 v6 : Option V) (ps : List (Int × Int)), σ = [some (.int n), some (.int st), some (.int mo), some (.ref R), some (.int pas), v5, v6] ∧ PsI H H5 n R ps ∧ ∀ p ∈ ps, p.1 < i) ⟨0, _, _, [], rfl, p1, fun p hp => by cases hp⟩ (fun _ _ _ _ _ => trivial) ?_ ?_⟩
    · rintro i y σ H4 H5 hi ⟨pas, v5, v6, ps, rfl, pI, lt⟩ ⟨rfl, ey⟩
      have hi : i < n := by have : i < ((n : Nat) : Int).toNat := hi; omega
      have ey : y = .int (0 + (i : Nat)) := ey
      have ey : y = .int ((i : Nat) : Int) := by rw [ey]; congr 1; omega
      subst ey
      refine ⟨_, rfl, _, _, rfl, rfl, _, rfl, (i : Int) + 1, (n : Int), rfl, by omega, for_it walk_range (fun j σ H5 => ∃ (pas : Int) (v6 : Option V) (ps : List (Int × Int)), σ = [some (.int n), some (.int st), some (.int mo), some (.ref R), some (.int pas), some (.int (i : Nat)), v6] ∧ PsI H H5 n R ps ∧ ∀ p ∈ ps, p.1 < i ∨ (p.1 = i ∧ p.2 < (i : Int) + 1 + j)) ⟨pas, _, ps, rfl, pI, fun p hp => .inl (lt p hp)⟩ (fun _ _ _ _ _ => trivial) ?_ ?_⟩
      · rintro j y σ H6 H7 hj ⟨pas, v6, ps, rfl, pI, lt⟩ ⟨rfl, ey⟩
        have hj : j < ((n : Int) - ((i : Int) + 1)).toNat := hj
        have ey : y = .int ((i : Int) + 1 + (j : Nat)) := ey
        subst ey
        refine seq_mid (fun σ H8 => ∃ ps, σ = [some (.int n), some (.int st), some (.int mo), some (.ref R), some (.int pas), some (.int (i : Nat)), some (.int ((i : Int) + 1 + (j : Nat)))] ∧ PsI H H8 n R ps ∧ ∀ p ∈ ps, p.1 < i ∨ (p.1 = i ∧ p.2 < (i : Int) + 1 + (j + 1 : Nat))) (fun M hM => ?_) ?_
        · have skip := hM _ _ ⟨ps, rfl, pI, fun p hp => by have := lt p hp; omega⟩
          obtain ⟨ks, hR, pk⟩ := pI.ex
          have lk := pk.length
          have l120 := pI.len
          refine ⟨_, rfl, .inl ⟨_, rfl, _, rfl, _, _, rfl, rfl, by omega, rfl, _, rfl, ite2 (fun _ => ?_) (fun _ => skip)⟩⟩
          refine ⟨_, rfl, R, _, rfl, .inl (SqL.of hR), _, rfl, _, _, rfl, rfl, _, rfl, ite2 (fun e => ?_) (fun _ => skip)⟩
          have e := of_decide_eq_true e
          refine ⟨_, rfl, .inl ⟨rfl, _, SqL.of hR⟩, _, rfl, _, rfl, by show 2 ≤ sizeLine; decide, fun t nt => ?_⟩
          have s8 : Same H7 (upd H7 t (.tup [.int (i : Nat), .int ((i : Int) + 1 + (j : Nat))])) := Same.new nt
          have tR : t ≠ R := (ne_of_none hR nt).symm
          refine ⟨R, _, _, rfl, rfl, s8 _ _ hR, line_lt (by omega), hM _ _ ⟨ps ++ [((i : Int), (i : Int) + 1 + (j : Nat))], rfl, ⟨Same.newer (pI.same.trans s8) nR, ⟨_, upd_same, ?_⟩, pI.up.snoc (fun p hp => by have := lt p hp; omega) (by omega) (by omega) (by omega), by rw [List.length_append]; show _ + 1 ≤ _; omega⟩, fun p hp => ?_⟩⟩
          · refine pr_snoc (Paired.mapP pk fun p v ⟨t2, e1, e2⟩ => ⟨t2, e1, ?_⟩) ⟨t, rfl, by rw [upd_ne tR, upd_same]⟩
            rw [upd_ne (ne_of e2 hR (by intro z; cases z))]
            exact s8 _ _ e2
          · rcases List.mem_append.mp hp with z | z
            · have := lt p z; omega
            · rw [List.mem_singleton.mp z]
              dsimp only
              omega
        rintro σ H8 ⟨ps, rfl, pI, lt⟩
        exact ⟨_, rfl, _, _, rfl, rfl, ⟨pas + 1, _, ps, rfl, pI, lt⟩⟩
      · rintro σ H6 ⟨pas, v6, ps, rfl, pI, lt⟩
        exact ⟨pas, _, _, ps, rfl, pI, fun p hp => by have := lt p hp; omega⟩
    · rintro σ H5 ⟨pas, v5, v6, ps, rfl, pI, lt⟩
      exact ⟨_, rfl, q R ps H5 nR pI⟩
theorem cap_rg7 (x : Int) : 1 ≤ 1 + Int.fmod x 999 ∧ 1 + Int.fmod x 999 ≤ 999 := by
  have a := Int.fmod_nonneg_of_pos x (b := 999) (by decide)
  have b := Int.fmod_lt_of_pos x (b := 999) (by decide)
  omega
def spLarge8 : Sp := fun vs H Q _ => ∃ b : Addr, vs = [.ref b] ∧ BagAt H b ∧ ∀ (wr : Addr) (n : Nat) (cs : List Tri) (ring : Bool) H2, SameB b H H2 → BagAt H2 b → WorldR H2 wr n cs ring → n ≤ 40 → (∀ c ∈ cs, ChOk n c) → cs.length ≤ 130 → Q (.ref wr) H2
theorem ok_large8 {f : Addr} {fd : FuncData} (F : Fun K "_law_large" "_law_large" s_law_large f fd) (B : Blt mg) (g_law_draw : DefR P w K mg base "_law_draw" 1 spDraw) (g_law_pairs : DefR P w K mg base "_law_pairs" 1 spPairs7) : FnOk P w K mg base (L2.CX P w) 2 f fd ["bag"] spLarge8 := by
  refine F.okX sc_law_large (fun vs H Q E h => ?_) (fun cdv A outer s H vs Q E hr h => ?_)
  · obtain ⟨b, rfl, _⟩ := h
    rfl
  · obtain ⟨b, rfl, hb, q⟩ := h
    -- slots: 0 bag, 1 first*, 2 step*, 3 way, 4 count*, 5 links, 6 k, 7 sizes*, 8 pairs*
    refine ⟨_, (pss_cons (ps_set (i := 1) sc_law_large.nd rfl (Or.inr rfl) (pe_cd g_law_draw hr psE (pa_cons (pv 0) (pa_cons pe_int pa_nil))))
      (pss_cons (ps_set (i := 2) sc_law_large.nd rfl (Or.inr rfl) (pe_cd g_law_draw hr psE (pa_cons (pv 0) (pa_cons pe_int pa_nil))))
      (pss_cons (ps_set (i := 3) sc_law_large.nd rfl (Or.inl rfl) (pe_cd g_law_draw hr psE (pa_cons (pv 0) (pa_cons pe_int pa_nil))))
      (pss_cons (ps_if (pt_cmpR op_eq (pv 3) pe_int (nomark _)) (pss_cons (ps_set (i := 4) sc_law_large.nd rfl (Or.inr rfl) (pe_op op_add pe_int (pe_cd g_law_draw hr psE (pa_cons (pv 0) (pa_cons pe_int pa_nil)))))
      (pss_cons (ps_setLc (i := 5) (own := [("k", 6)]) rfl sc_law_large.nd rfl rfl (sw_true rfl rfl rfl (by decide +kernel)) (pi_range1 (by rfl) B.range (pa_cons (pe_op op_sub (pv 4) pe_int) pa_nil)) (blkOk_by (N := nn_law_large) (sc := defScope s_law_large) (own := [("k", 6)]) (by decide +kernel)) (fun _ _ _ _ _ => (pg_name (i := 6) sc_law_large.nd rfl (Or.inl rfl))) (fun _ _ _ _ _ => pts_nil) (fun _ _ _ _ _ => (pe_tup (pa_cons (pv 6) (pa_cons (pe_op op_add (pv 6) pe_int) (pa_cons (pe_op op_add pe_int (pe_op op_modN (pe_callTy (T := "int") call_int1 (by rfl) B.int bt_int (pa_cons (pe_op op_add (pv 1) (pe_op op_mul (pv 6) (pv 2))) pa_nil)) pe_int)) pa_nil))))))
      (pss_one (ps_ret (pe_lst (pa_cons (pv 4) (pa_cons (pe_op op_cat (pv 5) (pe_lst (pa_cons (pe_tup (pa_cons (pe_op op_sub (pv 4) pe_int) (pa_cons pe_int (pa_cons (pe_op op_add pe_int (pv 1)) pa_nil)))) pa_nil))) (pa_cons pe_bl pa_nil)))))))) pss_nil)
      (pss_cons (ps_if (pt_cmpR op_eq (pv 3) pe_int (nomark _)) (pss_cons (ps_set (i := 4) sc_law_large.nd rfl (Or.inr rfl) (pe_op op_add pe_int (pe_cd g_law_draw hr psE (pa_cons (pv 0) (pa_cons pe_int pa_nil)))))
      (pss_cons (ps_set (i := 7) sc_law_large.nd rfl (Or.inr rfl) (pe_lc (own := [("k", 6)]) rfl sc_law_large.nd (pi_range1 (by rfl) B.range (pa_cons (pv 4) pa_nil)) (blkOk_by (N := nn_law_large) (sc := defScope s_law_large) (own := [("k", 6)]) (by decide +kernel)) (fun _ _ _ _ _ => (pg_name (i := 6) sc_law_large.nd rfl (Or.inl rfl))) (fun _ _ _ _ _ => pts_nil) (fun _ _ _ _ _ => (pe_op op_add pe_int (pe_op op_modN (pe_callTy (T := "int") call_int1 (by rfl) B.int bt_int (pa_cons (pe_op op_add (pv 1) (pe_op op_mul (pv 6) (pv 2))) pa_nil)) pe_int)))))
      (pss_one (ps_ret (pe_lst (pa_cons (pv 4) (pa_cons (pe_lc (own := [("k", 6)]) rfl sc_law_large.nd (pi_range1 (by rfl) B.range (pa_cons (pv 4) pa_nil)) (blkOk_by (N := nn_law_large) (sc := defScope s_law_large) (own := [("k", 6)]) (by decide +kernel)) (fun _ _ _ _ _ => (pg_name (i := 6) sc_law_large.nd rfl (Or.inl rfl))) (fun _ _ _ _ _ => pts_nil) (fun _ _ _ _ _ => (pe_tup (pa_cons (pv 6) (pa_cons (pe_op op_modN (pe_callTy (T := "int") call_int1 (by rfl) B.int bt_int (pa_cons (pe_op op_add (pv 6) pe_int) pa_nil)) (pv 4)) (pa_cons (pe_ix (i_lst (K := K)) (pv 7) (pv 6) (fun _ _ => rfl)) pa_nil)))))) (pa_cons pe_bl pa_nil)))))))) pss_nil)
      (pss_cons (ps_set (i := 4) sc_law_large.nd rfl (Or.inr rfl) (pe_op op_add pe_int (pe_cd g_law_draw hr psE (pa_cons (pv 0) (pa_cons pe_int pa_nil)))))
      (pss_cons (ps_set (i := 8) sc_law_large.nd rfl (Or.inr rfl) (pe_cd g_law_pairs hr psE (pa_cons (pv 4) (pa_cons pe_int (pa_cons (pe_op op_add pe_int (pe_cd g_law_draw hr psE (pa_cons (pv 0) (pa_cons pe_int pa_nil)))) pa_nil)))))
      (pss_cons (ps_setLc (i := 5) (own := [("k", 6)]) rfl sc_law_large.nd rfl rfl (sw_true rfl rfl rfl (by decide +kernel)) (pi_range1 (by rfl) B.range (pa_cons (pe_callB call_len_seq (by rfl) B.len bt_len (pa_cons (pv 8) pa_nil)) pa_nil)) (blkOk_by (N := nn_law_large) (sc := defScope s_law_large) (own := [("k", 6)]) (by decide +kernel)) (fun _ _ _ _ _ => (pg_name (i := 6) sc_law_large.nd rfl (Or.inl rfl))) (fun _ _ _ _ _ => pts_nil) (fun _ _ _ _ _ => (pe_tup (pa_cons (pe_ix (i_tup (K := K)) (pe_ix (i_lst (K := K)) (pv 8) (pv 6) (fun _ _ => rfl)) pe_int (fun _ _ => rfl)) (pa_cons (pe_ix (i_tup (K := K)) (pe_ix (i_lst (K := K)) (pv 8) (pv 6) (fun _ _ => rfl)) pe_int (fun _ _ => rfl)) (pa_cons (pe_op op_add pe_int (pe_op op_modN (pe_callTy (T := "int") call_int1 (by rfl) B.int bt_int (pa_cons (pe_op op_add (pv 1) (pe_op op_mul (pv 6) (pv 2))) pa_nil)) pe_int)) pa_nil))))))
      (pss_one (ps_ret (pe_lst (pa_cons (pv 4) (pa_cons (pv 5) (pa_cons pe_bl pa_nil)))))))))))))), ?_⟩
    refine ⟨_, rfl, b, 999, rfl, hb, by decide, by decide, fun fi H1 f0 f1 s1 b1 => ?_⟩
    refine ⟨_, rfl, b, 999, rfl, b1, by decide, by decide, fun sp H2 p0 p1 s2 b2 => ?_⟩
    refine ⟨_, rfl, b, 3, rfl, b2, by decide, by decide, fun d H3 d0 d1 s3 b3 => ?_⟩
    have s03 := s1.trans (s2.trans s3)
    dsimp only [gName]
    refine ⟨_, rfl, rfl, _, rfl, ite2 (fun _ => ?_) (fun _ => ?_)⟩
    · -- a row and what closes it
      refine ⟨_, rfl, b, 32, rfl, b3, by decide, by decide, fun g H4 g0 g1 s4 b4 => ⟨_, _, rfl, rfl, ?_⟩⟩
      have s04 := s03.trans s4
      obtain ⟨n, hn⟩ : ∃ n : Nat, (9 : Int) + g = n := ⟨(9 + g).toNat, by omega⟩
      dsimp only
      rw [hn]
      refine ⟨_, rfl, _, _, rfl, rfl, (n : Int) - 1, rfl, by omega, by omega, fun R hR => ?_⟩
      have en : ((n : Int) - 1) = ((n - 1 : Nat) : Int) := by omega
      rw [en]
      refine lc_range (lo := 0) (n := n - 1) (fun i H5 => Same H4 H5 ∧ ∃ cs ks, H5 R = some (.lst ks) ∧ Paired (TriA H5) cs ks ∧ cs.length = i ∧ ∀ c ∈ cs, ChOk n c) ⟨Same.new hR, [], [], upd_same, .nil, rfl, fun c hc => by cases hc⟩ ?_ ?_
      · rintro i H5 hi ⟨s5, cs, ks, k5, p5, l5, o5⟩
        have lk := p5.length
        have cr := cap_rg7 (fi + (0 + (i : Int)) * sp)
        refine ⟨rfl, yes ⟨_, rfl, _, rfl, _, _, rfl, rfl, _, rfl, _, rfl, _, rfl, _, _, rfl, rfl, mul_ok ⟨by omega, by omega⟩, _, _, rfl, rfl, .inl ⟨_, rfl, _, _, rfl, rfl, by show (999 : Int) ≠ 0; decide, _, _, rfl, rfl, by show 3 ≤ sizeLine; decide, fun t nt => ?_⟩⟩⟩
        have tR : t ≠ R := (ne_of_none k5 nt).symm
        have st : Same H5 (upd H5 t (.tup [.int (0 + (i : Nat)), .int (0 + (i : Nat) + 1), .int (1 + Int.fmod (fi + (0 + (i : Int)) * sp) 999)])) := Same.new nt
        refine ⟨ks, st _ _ k5, line_lt (by omega), Same.newer (s5.trans st) hR, cs ++ [(0 + (i : Int), 0 + (i : Int) + 1, 1 + Int.fmod (fi + (0 + (i : Int)) * sp) 999)], ks ++ [.ref t], upd_same, ?_, by rw [List.length_append, l5]; rfl, fun c hc => ?_⟩
        · refine pr_snoc (Paired.mapP (tris_same st p5) fun c v ⟨t2, e1, e2⟩ => ⟨t2, e1, ?_⟩) ⟨t, rfl, by rw [upd_ne tR, upd_same]⟩
          rw [upd_ne (ne_of e2 (st _ _ k5) (by intro z; cases z))]
          exact e2
        · rcases List.mem_append.mp hc with m | m
          · exact o5 c m
          · rw [List.mem_singleton.mp m]
            exact ⟨⟨by show 0 ≤ 0 + (i : Int); omega, by show 0 + (i : Int) < n; omega⟩, ⟨by show 0 ≤ 0 + (i : Int) + 1; omega, by show 0 + (i : Int) + 1 < n; omega⟩, by show 0 + (i : Int) ≠ 0 + (i : Int) + 1; omega, cr.1, cr.2⟩
      · rintro H5 ⟨s5, cs, ks, k5, p5, l5, o5⟩
        have lk := p5.length
        have b5 := b4.same s5
        dsimp only [gName]
        refine ⟨_, rfl, _, rfl, _, rfl, _, _, rfl, rfl, _, rfl, _, _, rfl, rfl, by show 3 ≤ sizeLine; decide, fun t nt => ?_⟩
        have st : Same H5 (upd H5 t (.tup [.int ((n : Int) - 1), .int 0, .int (1 + fi)])) := Same.new nt
        obtain ⟨H6, e6⟩ : ∃ H6, H6 = upd H5 t (.tup [.int ((n : Int) - 1), .int 0, .int (1 + fi)]) := ⟨_, rfl⟩
        rw [← e6] at st ⊢
        have ht6 : H6 t = some (.tup [.int ((n : Int) - 1), .int 0, .int (1 + fi)]) := by rw [e6, upd_same]
        refine ⟨by show 1 ≤ sizeLine; decide, fun M nM => ?_⟩
        have sM : Same H6 (upd H6 M (.lst [.ref t])) := Same.new nM
        refine ⟨R, M, ks, _, rfl, rfl, sM _ _ (st _ _ k5), upd_same, line_of (by show ks.length + 1 ≤ 100000; omega), fun C nC => ?_⟩
        have sC : Same (upd H6 M (.lst [.ref t])) (upd (upd H6 M (.lst [.ref t])) C (.lst (ks ++ [.ref t]))) := Same.new nC
        refine ⟨by show 3 ≤ sizeLine; decide, fun W nW => ?_⟩
        have sW : Same (upd (upd H6 M (.lst [.ref t])) C (.lst (ks ++ [.ref t]))) (upd (upd (upd H6 M (.lst [.ref t])) C (.lst (ks ++ [.ref t]))) W (.lst [.int n, .ref C, .bl false])) := Same.new nW
        have s6W := sM.trans (sC.trans sW)
        have pc : Paired (TriA (upd (upd (upd H6 M (.lst [.ref t])) C (.lst (ks ++ [.ref t]))) W (.lst [.int n, .ref C, .bl false]))) (cs ++ [((n : Int) - 1, 0, 1 + fi)]) (ks ++ [.ref t]) := pr_snoc (tris_same (st.trans s6W) p5) ⟨t, rfl, s6W _ _ ht6⟩
        refine q W n (cs ++ [((n : Int) - 1, 0, 1 + fi)]) false _ ((s04.trans (SameB.of s5)).trans (SameB.of (st.trans s6W))) (b5.same (st.trans s6W)) ⟨C, ks ++ [.ref t], upd_same, sW _ _ upd_same, pc⟩ (by omega) (fun c hc => ?_) (by rw [List.length_append, l5]; show n - 1 + 1 ≤ 130; omega)
        rcases List.mem_append.mp hc with m | m
        · exact o5 c m
        · rw [List.mem_singleton.mp m]
          exact ⟨⟨by show 0 ≤ (n : Int) - 1; omega, by show (n : Int) - 1 < n; omega⟩, ⟨by show (0 : Int) ≤ 0; omega, by show (0 : Int) < n; omega⟩, by show (n : Int) - 1 ≠ 0; omega, by show 1 ≤ 1 + fi; omega, by show 1 + fi ≤ 999; omega⟩
    refine ⟨_, rfl, rfl, _, rfl, ite2 (fun _ => ?_) (fun _ => ?_)⟩
    · -- a ring
      refine ⟨_, rfl, b, 35, rfl, b3, by decide, by decide, fun g H4 g0 g1 s4 b4 => ⟨_, _, rfl, rfl, ?_⟩⟩
      have s04 := s03.trans s4
      obtain ⟨n, hn⟩ : ∃ n : Nat, (6 : Int) + g = n := ⟨(6 + g).toNat, by omega⟩
      dsimp only
      rw [hn]
      refine ⟨_, rfl, (n : Int), rfl, by omega, by omega, fun R hR => lc_range (lo := 0) (n := n) (fun i H5 => ∃ zs : List Int, Same H4 H5 ∧ H5 R = some (.lst (zs.map V.int)) ∧ zs.length = i ∧ SzOk zs) ⟨[], Same.new hR, upd_same, rfl, fun c hc => by cases hc⟩ ?_ ?_⟩
      · rintro i H5 hi ⟨zs, s5, r5, l5, z5⟩
        refine ⟨rfl, yes ⟨_, rfl, _, rfl, _, rfl, _, _, rfl, rfl, mul_ok ⟨by omega, by omega⟩, _, _, rfl, rfl, .inl ⟨_, rfl, _, _, rfl, rfl, by show (999 : Int) ≠ 0; decide, _, _, rfl, rfl, ?_⟩⟩⟩
        have cr := cap_rg7 (fi + (0 + (i : Int)) * sp)
        refine ⟨_, r5, by rw [List.length_map, l5]; exact line_lt (by omega), zs ++ [1 + Int.fmod (fi + (0 + (i : Int)) * sp) 999], Same.newer s5 hR, by rw [upd_same, List.map_append]; rfl, by rw [List.length_append, l5]; rfl, fun x hx => ?_⟩
        rcases List.mem_append.mp hx with m | m
        · exact z5 x m
        · rw [List.mem_singleton.mp m]; exact cr
      · rintro H5 ⟨ns, s45, r5, l5, z5⟩
        have s5 : SameB b H4 H5 := SameB.of s45
        have b5 := b4.same s45
        have s05 := s04.trans s5
        have bR := bag_ne b4 hR
        refine ⟨_, rfl, _, rfl, (n : Int), rfl, by omega, by omega, fun D hD => lc_range (lo := 0) (n := n) (fun i H6 => Same H5 H6 ∧ ∃ ks, H6 D = some (.lst ks) ∧ Paired (TriA H6) ((ringOf ns).take i) ks) ⟨Same.new hD, [], upd_same, .nil⟩ ?_ ?_⟩
        · rintro i H6 hi ⟨s6, ks, k6, p6⟩
          have hin : i < ns.length := by omega
          have en : ns[i]? = some ns[i] := by simp [hin]
          refine ⟨rfl, yes ⟨_, rfl, _, rfl, _, _, rfl, rfl, .inl ⟨_, rfl, _, rfl, _, _, rfl, rfl, by omega, _, rfl, _, rfl, R, _, _, .int ns[i], rfl, rfl, SqL.of (s6 _ _ r5), by rw [Int.zero_add]; exact atI_nat (by simp [hin]), by show 3 ≤ sizeLine; decide, fun p2 hp2 => ⟨ks, ?_, ?_, ?_, ks ++ [.ref p2], upd_same, ?_⟩⟩⟩⟩
          · rw [upd_ne (ne_of_none k6 hp2)]
            exact k6
          · rw [← p6.length, List.length_take, ringOf_len]
            exact line_lt (by omega)
          · exact Same.newer (Same.newer s6 (Same.free s6 hp2)) hD
          · have pD : p2 ≠ D := (ne_of_none k6 hp2).symm
            rw [take_snoc (ringOf_at en)]
            refine pr_snoc (Paired.mapP p6 fun c2 v2 ⟨t2, e1, e2⟩ => ⟨t2, e1, ?_⟩) ⟨p2, rfl, ?_⟩
            · rw [upd_ne (ne_of e2 k6 (by intro z; cases z)), upd_ne (ne_of_none e2 hp2)]
              exact e2
            · have fe : Int.fmod ((0 : Int) + i + 1) (n : Int) = ((i : Int) + 1) % (ns.length : Int) := by
                rw [Int.zero_add, l5]
                exact Int.fmod_eq_emod_of_nonneg _ (by omega)
              rw [upd_ne pD, upd_same]
              dsimp only
              rw [fe, Int.zero_add]
        · rintro H6 ⟨s6, ks, k6, p6⟩
          have el : n = (ringOf ns).length := by rw [ringOf_len, l5]
          have p6 : Paired (TriA H6) (ringOf ns) ks := by
            have z := p6
            rw [el, List.take_length] at z
            exact z
          refine ⟨by show 3 ≤ sizeLine; decide, fun r nr => ?_⟩
          have nr5 := Same.free s6 nr
          have bD := bag_ne b5 hD
          have b6 := b5.same s6
          have br := bag_ne b6 nr
          exact q r n (ringOf ns) true _ (s05.trans (SameB.of (Same.newer s6 nr5))) (b6.same (Same.new nr)) ⟨D, ks, upd_same, by rw [upd_ne (ne_of_none k6 nr)]; exact k6, tris_same (Same.new nr) p6⟩ (by omega) (by have := ringOf_ok z5 (by omega); rw [l5] at this; exact this) (by rw [ringOf_len]; omega)
    · dsimp only [tNext]
      refine ⟨_, rfl, b, 25, rfl, b3, by decide, by decide, fun g H4 g0 g1 s4 b4 => ⟨_, _, rfl, rfl, ?_⟩⟩
      have s04 := s03.trans s4
      obtain ⟨n, hn⟩ : ∃ n : Nat, (16 : Int) + g = n := ⟨(16 + g).toNat, by omega⟩
      dsimp only
      rw [hn]
      have n40 : n ≤ 40 := by omega
      refine ⟨_, rfl, _, rfl, b, 24, rfl, b4, by decide, by decide, fun mo H5 t0 t1 s5 b5 => ⟨_, _, rfl, rfl, n, 1, 100 + mo, rfl, n40, by omega, by omega, fun R ps H6 nR pI => ?_⟩⟩
      have s06 := (s04.trans s5).trans (SameB.of pI.same)
      have b6 := b5.same pI.same
      have bR := bag_ne b5 nR
      obtain ⟨ks, hR, pk⟩ := pI.ex
      have lk := pk.length
      have l125 := pI.len
      have up := pI.up
      dsimp only [gName]
      refine ⟨_, rfl, R, _, rfl, .inl (SqL.of hR), (ks.length : Int), rfl, by omega, by omega, fun D hD => lc_range (lo := 0) (n := ks.length) (fun i H7 => Same H6 H7 ∧ ∃ cs us, H7 D = some (.lst us) ∧ Paired (TriA H7) cs us ∧ cs.length = i ∧ ∀ c ∈ cs, ChOk n c) ⟨Same.new hD, [], [], upd_same, .nil, rfl, fun c hc => by cases hc⟩ ?_ ?_⟩
      · rintro i H7 hi ⟨s7, cs, us, k7, p7, l7, o7⟩
        have lu := p7.length
        have hiv : ks[i]? = some ks[i] := List.getElem?_eq_getElem hi
        obtain ⟨p, hp, t, ev, ht⟩ := pr_at pk hiv
        have rg := up.2 p (List.mem_of_getElem? hp)
        have at0 : atI ks ((0 : Int) + (i : Nat)) = some (.ref t) := by rw [Int.zero_add]; exact atI_nat (j := i) (by rw [hiv, ev])
        have tp0 : atI [V.int p.1, V.int p.2] (0 : Int) = some (.int p.1) := atI_nat (j := 0) rfl
        have tp1 : atI [V.int p.1, V.int p.2] (1 : Int) = some (.int p.2) := atI_nat (j := 1) rfl
        have cr := cap_rg7 (fi + (0 + (i : Int)) * sp)
        refine ⟨rfl, yes ⟨_, rfl, _, rfl, R, _, _, _, rfl, rfl, SqL.of (s7 _ _ hR), at0, t, _, _, _, rfl, rfl, SqT.of (s7 _ _ ht), tp0, ?_⟩⟩
        refine ⟨_, rfl, _, rfl, R, _, _, _, rfl, rfl, SqL.of (s7 _ _ hR), at0, t, _, _, _, rfl, rfl, SqT.of (s7 _ _ ht), tp1, ?_⟩
        refine ⟨_, rfl, _, rfl, _, rfl, _, _, rfl, rfl, mul_ok ⟨by omega, by omega⟩, _, _, rfl, rfl, .inl ⟨_, rfl, _, _, rfl, rfl, by show (999 : Int) ≠ 0; decide, _, _, rfl, rfl, by show 3 ≤ sizeLine; decide, fun u nu => ?_⟩⟩
        have uD : u ≠ D := (ne_of_none k7 nu).symm
        have st : Same H7 (upd H7 u (.tup [.int p.1, .int p.2, .int (1 + Int.fmod (fi + (0 + (i : Int)) * sp) 999)])) := Same.new nu
        refine ⟨us, st _ _ k7, line_lt (by omega), Same.newer (s7.trans st) hD, cs ++ [(p.1, p.2, 1 + Int.fmod (fi + (0 + (i : Int)) * sp) 999)], us ++ [.ref u], upd_same, ?_, by rw [List.length_append, l7]; rfl, fun c hc => ?_⟩
        · refine pr_snoc (Paired.mapP (tris_same st p7) fun c v ⟨t2, e1, e2⟩ => ⟨t2, e1, ?_⟩) ⟨u, rfl, by rw [upd_ne uD, upd_same]⟩
          rw [upd_ne (ne_of e2 (st _ _ k7) (by intro z; cases z))]
          exact e2
        · rcases List.mem_append.mp hc with m | m
          · exact o7 c m
          · rw [List.mem_singleton.mp m]
            exact ⟨⟨by show 0 ≤ p.1; omega, by show p.1 < n; omega⟩, ⟨by show 0 ≤ p.2; omega, by show p.2 < n; omega⟩, by show p.1 ≠ p.2; omega, cr.1, cr.2⟩
      · rintro H7 ⟨s7, cs, us, k7, p7, l7, o7⟩
        have b7 := b6.same s7
        dsimp only [gName]
        refine ⟨_, rfl, _, rfl, by show 3 ≤ sizeLine; decide, fun W nW => ?_⟩
        have sW : Same H7 (upd H7 W (.lst [.int n, .ref D, .bl false])) := Same.new nW
        exact q W n cs false _ (s06.trans (SameB.of (s7.trans sW))) (b7.same sW) ⟨D, us, upd_same, sW _ _ k7, tris_same sW p7⟩ (by omega) o7 (by omega)
end
end WC

set_option maxHeartbeats 16000000
namespace WC
open PySem PySem.Spec PyProof.Rows L2 SX
def spFree8 : Sp := fun vs H Q _ => ∃ b : Addr, vs = [.ref b] ∧ BagAt H b ∧ ∀ w H2, SameB b H H2 → BagAt H2 b → asc w = true → w.length ≤ 200000 → Q (.str (S w)) H2
def spNR8 : Sp := fun vs H Q _ => ∃ (b : Addr) (l : List Nat) (m : Int), vs = [.ref b, .str (S l), .int m] ∧ BagAt H b ∧ asc l = true ∧ l.length ≤ 6000 ∧ 1 ≤ m ∧ m ≤ 4 ∧ ∀ H2, SameB b H H2 → BagAt H2 b → Q (.bl true) H2
theorem grow8 {a c i : Nat} (h : a + 3500 ≤ 9500 * 3 ^ i) (g : c ≤ 3 * a + 7000) : c + 3500 ≤ 9500 * 3 ^ (i + 1) := by
  rw [Nat.pow_succ]
  omega
theorem pow8 {a i : Nat} (h : a + 3500 ≤ 9500 * 3 ^ i) (hi : i ≤ 4) : a ≤ 800000 := by
  have : 3 ^ i ≤ 3 ^ 4 := Nat.pow_le_pow_right (by decide) hi
  omega
theorem pow83 {a i : Nat} (h : a + 3500 ≤ 9500 * 3 ^ i) (hi : i ≤ 3) : a ≤ 600000 := by
  have : 3 ^ i ≤ 3 ^ 3 := Nat.pow_le_pow_right (by decide) hi
  omega
section
variable {P : Program} {w : World} {K : PySem.W.Frag} {mg : Str → Option Value} {base : Heap}
theorem ok_free8 {f : Addr} {fd : FuncData} (F : Fun K "_law_free" "_law_free" s_law_free f fd) (B : Blt mg) (g_law_draw : DefR P w K mg base "_law_draw" 1 spDraw) : FnOk P w K mg base (L2.CX P w) 2 f fd ["bag"] spFree8 := by
  refine F.okX sc_law_free (fun vs H Q E h => ?_) (fun cdv A outer s H vs Q E hr h => ?_)
  · obtain ⟨b, rfl, _⟩ := h
    rfl
  · obtain ⟨b, rfl, b0, q⟩ := h
    have s0 : SameB b H H := SameB.of (Same.refl H)
    refine ⟨_, (pss_cons (ps_set (i := 1) sc_law_free.nd rfl (Or.inl rfl) (pe_lst (pa_cons pe_str (pa_cons pe_str (pa_cons pe_str (pa_cons pe_str (pa_cons pe_str (pa_cons pe_str (pa_cons pe_str (pa_cons pe_str (pa_cons pe_str (pa_cons pe_str (pa_cons pe_str (pa_cons pe_str (pa_cons pe_str (pa_cons pe_str pa_nil))))))))))))))))
      (pss_cons (ps_set (i := 1) sc_law_free.nd rfl (Or.inl rfl) (pe_op op_cat (pv 1) (pe_lst (pa_cons pe_str (pa_cons pe_str (pa_cons pe_str (pa_cons pe_str (pa_cons pe_str (pa_cons pe_str (pa_cons pe_str pa_nil))))))))))
      (pss_cons (ps_set (i := 2) sc_law_free.nd rfl (Or.inl rfl) (pe_ix ix_list (pe_lst (pa_cons pe_str (pa_cons pe_str (pa_cons pe_str (pa_cons pe_str pa_nil))))) (pe_cd g_law_draw hr psE (pa_cons (pv 0) (pa_cons pe_int pa_nil))) (fun _ _ => rfl)))
      (pss_cons (ps_for (passes_of rfl) rfl (pi_range1 (by rfl) B.range (pa_cons (pe_cd g_law_draw hr psE (pa_cons (pv 0) (pa_cons pe_int pa_nil))) pa_nil)) (pg_name (i := 3) sc_law_free.nd rfl (Or.inl rfl))
        (pss_one (ps_set (i := 2) sc_law_free.nd rfl (Or.inl rfl) (pe_op op_add_str (pv 2) (pe_ix ix_list (pv 1) (pe_cd g_law_draw hr psE (pa_cons (pv 0) (pa_cons (pe_callB call_len_seq (by rfl) B.len bt_len (pa_cons (pv 1) pa_nil)) pa_nil))) (fun _ _ => rfl))))))
      (pss_one (ps_ret (pv 2))))))), ?_⟩
    refine seq_mid (fun σ H5 => ∃ R xs, σ = [some (.ref b), some (.ref R), none, none] ∧ SameB b H H5 ∧ BagAt H5 b ∧ R ≠ b ∧ H5 R = some (.lst xs) ∧ GL xs ∧ xs.length = 14) (fun M hM => ?_) ?_
    · exact ⟨by show 14 ≤ sizeLine; decide, fun p1 np1 => hM _ _ ⟨p1, _, rfl, s0.trans (SameB.of (Same.new np1)), b0.same (Same.new np1), (bag_ne b0 np1).symm, upd_same, (GL.cons (ofS _) (by decide) (by decide) (GL.cons (ofS _) (by decide) (by decide) (GL.cons (ofS _) (by decide) (by decide) (GL.cons (ofS _) (by decide) (by decide) (GL.cons (ofS _) (by decide) (by decide) (GL.cons (ofS _) (by decide) (by decide) (GL.cons (ofS _) (by decide) (by decide) (GL.cons (ofS _) (by decide) (by decide) (GL.cons (ofS _) (by decide) (by decide) (GL.cons (ofS _) (by decide) (by decide) (GL.cons (ofS _) (by decide) (by decide) (GL.cons (ofS _) (by decide) (by decide) (GL.cons (ofS _) (by decide) (by decide) (GL.cons (ofS _) (by decide) (by decide) GL.nil)))))))))))))), rfl⟩⟩
    rintro σ H5 ⟨R, xs, rfl, s0, b0, Rb, hR, G, ln⟩
    refine seq_mid (fun σ H5 => ∃ R xs, σ = [some (.ref b), some (.ref R), none, none] ∧ SameB b H H5 ∧ BagAt H5 b ∧ R ≠ b ∧ H5 R = some (.lst xs) ∧ GL xs ∧ xs.length = 21) (fun M hM => ?_) ?_
    · exact ⟨_, rfl, by show 7 ≤ sizeLine; decide, fun p1 np1 => ⟨R, p1, xs, _, rfl, rfl, (Same.new np1) _ _ hR, upd_same, by rw [ln]; show 14 + 7 ≤ sizeLine; decide, fun p2 np2 => hM _ _ ⟨p2, _, rfl, s0.trans (SameB.of ((Same.new np1).trans (Same.new np2))), b0.same ((Same.new np1).trans (Same.new np2)), (bag_ne (b0.same (Same.new np1)) np2).symm, upd_same, G.cat (GL.cons (ofS _) (by decide) (by decide) (GL.cons (ofS _) (by decide) (by decide) (GL.cons (ofS _) (by decide) (by decide) (GL.cons (ofS _) (by decide) (by decide) (GL.cons (ofS _) (by decide) (by decide) (GL.cons (ofS _) (by decide) (by decide) (GL.cons (ofS _) (by decide) (by decide) GL.nil))))))), by rw [List.length_append, ln]; rfl⟩⟩⟩
    clear G ln hR s0 b0 Rb
    rintro σ H5 ⟨R, xs, rfl, s0, b0, Rb, hR, G, ln⟩
    refine ⟨by show 4 ≤ sizeLine; decide, fun p np => ?_⟩
    have sp_ : Same H5 (upd H5 p (.lst [.str "", .str "pipeline 3", .str "ring 3", .str "pipeline 2"])) := Same.new np
    have bp := b0.same sp_
    have pb : p ≠ b := (bag_ne b0 np).symm
    refine ⟨_, rfl, b, 4, rfl, bp, by decide, by decide, fun d H6 d0 d1 s6 b6 => ?_⟩
    have hp6 := s6 _ _ (upd_same (H := H5) (a := p) (o := .lst [.str "", .str "pipeline 3", .str "ring 3", .str "pipeline 2"])) pb
    have G2 : GL [.str "", .str "pipeline 3", .str "ring 3", .str "pipeline 2"] := (GL.cons (ofS _) (by decide) (by decide) (GL.cons (ofS _) (by decide) (by decide) (GL.cons (ofS _) (by decide) (by decide) (GL.cons (ofS _) (by decide) (by decide) GL.nil))))
    obtain ⟨k, rfl⟩ : ∃ k : Nat, d = k := ⟨d.toNat, by omega⟩
    obtain ⟨u, at0, ua, ul⟩ := G2.at (k := k) (by show k < 4; omega)
    refine ⟨p, _, _, _, rfl, rfl, SqL.of hp6, at0, ?_⟩
    have s06 := (s0.trans (SameB.of sp_)).trans s6
    have hR6 := s6 _ _ (sp_ _ _ hR) Rb
    dsimp only [gName]
    refine ⟨_, rfl, b, 41, rfl, b6, by decide, by decide, fun m H7 m0 m1 s7 b7 => ?_⟩
    refine ⟨m, rfl, by omega, by omega, for_it walk_range (fun i σ H8 => ∃ v3 u, σ = [some (.ref b), some (.ref R), some (.str (S u)), v3] ∧ SameB b H7 H8 ∧ BagAt H8 b ∧ asc u = true ∧ u.length ≤ 4500 + 4500 * i) ⟨_, u, rfl, SameB.of (Same.refl _), b7, ua, by omega⟩ (fun _ _ _ _ _ => trivial) ?_ ?_⟩
    · rintro i y σ H8 H9 hi ⟨v3, u, rfl, s8, b8, ua, ul⟩ ⟨rfl, ey⟩
      have hi : i < m.toNat := hi
      have hR8 := s8 _ _ (s7 _ _ hR6 Rb) Rb
      refine ⟨_, rfl, _, rfl, _, rfl, _, rfl, R, _, rfl, .inl (SqL.of hR8), b, _, rfl, b8, by rw [ln]; decide, by rw [ln]; decide, fun e Ha e0 e1 sa ba => ?_⟩
      rw [ln] at e1
      obtain ⟨j, rfl⟩ : ∃ j : Nat, e = j := ⟨e.toNat, by omega⟩
      obtain ⟨x, at1, xa, xl⟩ := G.at (k := j) (by omega)
      refine ⟨R, _, _, _, rfl, rfl, SqL.of (sa _ _ hR8 Rb), at1, _, _, rfl, rfl, LL8 (by omega), ?_⟩
      rw [S_cat]
      exact ⟨_, u ++ x, rfl, s8.trans sa, ba, asc_cat ua xa, by rw [List.length_append]; omega⟩
    · rintro σ H8 ⟨v3, u, rfl, s8, b8, ua, ul⟩
      have ul : u.length ≤ 4500 + 4500 * m.toNat := ul
      exact ⟨_, rfl, q u H8 ((s06.trans s7).trans s8) b8 ua (by omega)⟩
theorem ok_nets_round8 {f : Addr} {fd : FuncData} (F : Fun K "_law_nets_round" "_law_nets_round" s_law_nets_round f fd) (B : Blt mg) (g_law_draw : DefR P w K mg base "_law_draw" 1 spDraw) (g_law_refused_well : DefR P w K mg base "_law_refused_well" 8 spRef8) (g_law_char_spoilt : DefR P w K mg base "_law_char_spoilt" 2 spTx8) (g_law_link_put_in : DefR P w K mg base "_law_link_put_in" 4 spTx8) (g_law_lines_spoilt : DefR P w K mg base "_law_lines_spoilt" 3 spTx8) : FnOk P w K mg base (L2.CX P w) 9 f fd ["bag", "text", "most"] spNR8 := by
  refine F.okX sc_law_nets_round (fun vs H Q E h => ?_) (fun cdv A outer s H vs Q E hr h => ?_)
  · obtain ⟨b, l, m, rfl, _⟩ := h
    rfl
  · obtain ⟨b, l, m, rfl, hb, ha, hl, m1, m4, q⟩ := h
    -- slots: 0 bag, 1 text, 2 most, 3 turn, 4 way
    refine ⟨_, (pss_cons (ps_if (pt_not (pt_val (pe_cd g_law_refused_well hr psE (pa_cons (pv 1) pa_nil)))) (pss_one (ps_ret pe_bl)) pss_nil)
      (pss_cons (ps_for (passes_of rfl) rfl (pi_range1 (by rfl) B.range (pa_cons (pe_cd g_law_draw hr psE (pa_cons (pv 0) (pa_cons (pv 2) pa_nil))) pa_nil)) (pg_name (i := 3) sc_law_nets_round.nd rfl (Or.inl rfl))
        (pss_cons (ps_set (i := 4) sc_law_nets_round.nd rfl (Or.inl rfl) (pe_cd g_law_draw hr psE (pa_cons (pv 0) (pa_cons pe_int pa_nil))))
      (pss_cons (ps_if (pt_cmpR op_eq (pv 4) pe_int (nomark _)) (pss_one (ps_set (i := 1) sc_law_nets_round.nd rfl (Or.inl rfl) (pe_cd g_law_char_spoilt hr psE (pa_cons (pv 0) (pa_cons (pv 1) pa_nil))))) (pss_one (ps_if (pt_cmpR op_eq (pv 4) pe_int (nomark _)) (pss_one (ps_set (i := 1) sc_law_nets_round.nd rfl (Or.inl rfl) (pe_cd g_law_link_put_in hr psE (pa_cons (pv 0) (pa_cons (pv 1) pa_nil))))) (pss_one (ps_set (i := 1) sc_law_nets_round.nd rfl (Or.inl rfl) (pe_cd g_law_lines_spoilt hr psE (pa_cons (pv 0) (pa_cons (pv 1) pa_nil))))))))
      (pss_one (ps_if (pt_not (pt_val (pe_cd g_law_refused_well hr psE (pa_cons (pv 1) pa_nil)))) (pss_one (ps_ret pe_bl)) pss_nil)))))
      (pss_one (ps_ret pe_bl)))), ?_⟩
    refine ⟨_, rfl, l, rfl, ha, by omega, fun H1 s1 => ⟨_, rfl, iteF ?_⟩⟩
    have b1 := hb.same s1
    dsimp only [tNext]
    refine ⟨_, rfl, _, rfl, b, m, rfl, b1, by omega, by omega, fun d H2 d0 d1 s2 b2 => ?_⟩
    refine ⟨d, rfl, by omega, by omega, for_it walk_range (fun i σ H3 => ∃ v3 v4 u, σ = [some (.ref b), some (.str (S u)), some (.int m), v3, v4] ∧ SameB b H H3 ∧ BagAt H3 b ∧ asc u = true ∧ u.length + 3500 ≤ 9500 * 3 ^ i) ⟨_, _, l, rfl, (SameB.of s1).trans s2, b2, ha, by rw [Nat.pow_zero]; omega⟩ (fun _ _ _ _ _ => trivial) ?_ ?_⟩
    · rintro i y σ H3 H4 hi ⟨v3, v4, u, rfl, s3, b3, ua, ul⟩ ⟨rfl, ey⟩
      have hi : i < d.toNat := hi
      have u6 := pow83 ul (by omega)
      refine ⟨_, rfl, b, 4, rfl, b3, by decide, by decide, fun g H5 g0 g1 s5 b5 => ?_⟩
      dsimp only [gName]
      refine seq_mid (fun σ H6 => ∃ x, σ = [some (.ref b), some (.str (S x)), some (.int m), some y, some (.int g)] ∧ SameB b H H6 ∧ BagAt H6 b ∧ asc x = true ∧ x.length + 3500 ≤ 9500 * 3 ^ (i + 1)) (fun M hM => ?_) ?_
      · refine ⟨_, rfl, rfl, _, rfl, ite2 (fun _ => ?_) (fun _ => ⟨_, rfl, rfl, _, rfl, ite2 (fun _ => ?_) (fun _ => ?_)⟩)⟩
        · exact ⟨_, rfl, _, rfl, b, u, rfl, b5, ua, u6, fun x H6 s6 b6 xa xl => hM _ _ ⟨x, rfl, (s3.trans s5).trans s6, b6, xa, grow8 ul xl⟩⟩
        · exact ⟨_, rfl, _, rfl, b, u, rfl, b5, ua, u6, fun x H6 s6 b6 xa xl => hM _ _ ⟨x, rfl, (s3.trans s5).trans s6, b6, xa, grow8 ul xl⟩⟩
        · exact ⟨_, rfl, _, rfl, b, u, rfl, b5, ua, u6, fun x H6 s6 b6 xa xl => hM _ _ ⟨x, rfl, (s3.trans s5).trans s6, b6, xa, grow8 ul xl⟩⟩
      rintro σ H6 ⟨x, rfl, s6, b6, xa, xl⟩
      have x6 := pow8 xl (by omega)
      exact ⟨_, rfl, x, rfl, xa, by omega, fun H7 s7 => ⟨_, rfl, iteF ⟨_, _, x, rfl, s6.trans (SameB.of s7), b6.same s7, xa, xl⟩⟩⟩
    · rintro σ H3 ⟨v3, v4, u, rfl, s3, b3, ua, ul⟩
      exact q H3 s3 b3
end
end WC

set_option maxHeartbeats 16000000
namespace WC
open PySem PySem.Spec PyProof.Rows L2 SX
theorem NetAt.on7 {H H2 : Hp} {b x C : Addr} {n : Nat} {cs : List Tri} (h : NetAt H x C n cs) (s : SameB b H H2) (hb : BagAt H b) : NetAt H2 x C n cs := by
  obtain ⟨dx, tc, ti, to, vs, h1, h2, h3, ⟨ts, r1, r2, r3⟩, ⟨us, q1, q2, q3⟩⟩ := h.ex
  obtain ⟨bx, bf, eb⟩ := hb
  have tp : ∀ {c : Addr} {xs : List V}, H c = some (.tup xs) → H2 c = some (.tup xs) := fun {c xs} e => s _ _ e (ne_of e eb (by intro z; cases z))
  exact ⟨dx, tc, ti, to, vs, s _ _ h1 (ne_of h1 eb (by intro z; cases z)), tp h2, Paired.mapP h3 fun c v ⟨t, e, ht⟩ => ⟨t, e, tp ht⟩, ⟨ts, tp r1, r2, fun j v e => let ⟨t, e1, e2⟩ := r3 j v e; ⟨t, e1, tp e2⟩⟩, ⟨us, tp q1, q2, fun j v e => let ⟨t, e1, e2⟩ := q3 j v e; ⟨t, e1, tp e2⟩⟩⟩
theorem MvIs.onB {H H2 : Hp} {b : Addr} {n : Nat} {m : Int × Bool} {v : V} (h : MvIs H n m v) (hb : BagAt H b) (s : SameB b H H2) : MvIs H2 n m v := by
  obtain ⟨⟨t, e, ht⟩, a, c⟩ := h
  obtain ⟨u, w, e3⟩ := hb
  exact ⟨⟨t, e, s _ _ ht (ne_of ht e3 (by intro z; cases z))⟩, a, c⟩
theorem MvIs.same {H H2 : Hp} {n : Nat} {m : Int × Bool} {v : V} (h : MvIs H n m v) (s : Same H H2) : MvIs H2 n m v := by
  obtain ⟨⟨t, e, ht⟩, a, c⟩ := h
  exact ⟨⟨t, e, s _ _ ht⟩, a, c⟩
/-- a round amid: the bag and the net -/
structure Wd8 (H H5 : Hp) (b x C : Addr) (n : Nat) (cs : List Tri) : Prop where
  same : SameB b H H5
  bag : BagAt H5 b
  nx : NetAt H5 x C n cs
theorem Wd8.on {H H5 H6 : Hp} {b x C : Addr} {n : Nat} {cs : List Tri} (h : Wd8 H H5 b x C n cs) (s : SameB b H5 H6) (hb : BagAt H6 b) : Wd8 H H6 b x C n cs := ⟨h.same.trans s, hb, h.nx.on7 s h.bag⟩
theorem Wd8.keep {H H5 H6 : Hp} {b x C : Addr} {n : Nat} {cs : List Tri} (h : Wd8 H H5 b x C n cs) (s : Same H5 H6) : Wd8 H H6 b x C n cs := h.on (SameB.of s) (h.bag.same s)
theorem Wd8.on' {H H5 H6 : Hp} {b x C : Addr} {n : Nat} {cs : List Tri} (_ : Wd8 H H5 b x C n cs) (g : NetAt H x C n cs) (hb0 : BagAt H b) (s : SameB b H H6) (hb : BagAt H6 b) : Wd8 H H6 b x C n cs := ⟨s, hb, g.on7 s hb0⟩
/-- a list of one's own written anew -/
theorem put_on {H H5 : Hp} {b R : Addr} {o : HO} (s : SameB b H H5) (n : H R = none) : SameB b H (upd H5 R o) := s.put n
theorem bag_put {H : Hp} {b R : Addr} {o : HO} (h : BagAt H b) (n : R ≠ b) : BagAt (upd H R o) b := by
  obtain ⟨x, y, e⟩ := h
  exact ⟨x, y, by rw [upd_ne n.symm]; exact e⟩
def Tx8 (k : Nat) (ws : List (List Nat)) : Prop := ws.length ≤ 2 ∧ ∀ w ∈ ws, asc w = true ∧ w.length + 3500 ≤ 9500 * 3 ^ k
def spWR8 (CP CR : Addr) : Sp := fun vs H Q _ => ∃ (b x C : Addr) (n : Nat) (cs : List Tri), vs = [.ref b, .ref x, .int n] ∧ C ∈ [CP, CR] ∧ BagAt H b ∧ NetAt H x C n cs ∧ 1 ≤ n ∧ n ≤ 40 ∧ ∀ H2, SameB b H H2 → BagAt H2 b → Q (.bl true) H2
section
variable {P : Program} {w : World} {K : PySem.W.Frag} {mg : Str → Option Value} {base : Heap}
theorem ok_words_round8 {f CP CR : Addr} {fd : FuncData} (F : Fun K "_law_words_round" "_law_words_round" s_law_words_round f fd) (B : Blt mg) (g_law_draw : DefR P w K mg base "_law_draw" 1 spDraw) (g_law_state_text : DefR P w K mg base "_law_state_text" 1 spStT) (g_law_moves_text : DefR P w K mg base "_law_moves_text" 1 spMvT) (g_law_state_asked : DefR P w K mg base "_law_state_asked" 4 (spAsk8 CP CR)) (g_law_moves_asked : DefR P w K mg base "_law_moves_asked" 4 (spAsk8 CP CR)) (g_law_char_spoilt : DefR P w K mg base "_law_char_spoilt" 2 spTx8) (g_law_words_spoilt : DefR P w K mg base "_law_words_spoilt" 2 spTx8) : FnOk P w K mg base (L2.CX P w) 5 f fd ["bag", "net", "count"] (spWR8 CP CR) := by
  refine F.okX sc_law_words_round (fun vs H Q E h => ?_) (fun cdv A outer s H vs Q E hr h => ?_)
  · obtain ⟨b, x, C, n, cs, rfl, _⟩ := h
    rfl
  · obtain ⟨b, x, C, n, cs, rfl, hC, hb, NA, n1, n40, q⟩ := h
    -- slots: 0 bag*, 1 net, 2 count, 3 wide*, 4 state, 5 k, 6 row, 7 texts, 8 turn, 9 text
    refine ⟨_, (pss_cons (ps_set (i := 3) sc_law_words_round.nd rfl (Or.inr rfl) (pe_ix ix_list (pe_lst (pa_cons pe_int (pa_cons pe_int pa_nil))) (pe_cd g_law_draw hr psE (pa_cons (pv 0) (pa_cons pe_int pa_nil))) (fun _ _ => rfl)))
      (pss_cons (ps_setLc (i := 4) (own := [("k", 5)]) rfl sc_law_words_round.nd rfl rfl (sw_true rfl rfl rfl (by decide +kernel)) (pi_range1 (by rfl) B.range (pa_cons (pv 2) pa_nil)) (blkOk_by (N := nn_law_words_round) (sc := defScope s_law_words_round) (own := [("k", 5)]) (by decide +kernel)) (fun _ _ _ _ _ => (pg_name (i := 5) sc_law_words_round.nd rfl (Or.inl rfl))) (fun _ _ _ _ _ => pts_nil) (fun _ _ _ _ _ => (pe_cd g_law_draw (by exact hr) passL (pa_cons (pv 0) (pa_cons (pv 3) pa_nil)))))
      (pss_cons (ps_set (i := 6) sc_law_words_round.nd rfl (Or.inl rfl) (pe_lst pa_nil))
      (pss_cons (ps_for (passes_of rfl) rfl (pi_range1 (by rfl) B.range (pa_cons (pe_cd g_law_draw hr psE (pa_cons (pv 0) (pa_cons pe_int pa_nil))) pa_nil)) (pg_name (i := 5) sc_law_words_round.nd rfl (Or.inl rfl))
        (pss_one (ps_expr (pe_bm PySem.F.plainAttrs_list PySem.F.slot_list_append PySem.F.type_list_append mt_append (pv 6) (pa_cons (pe_tup (pa_cons (pe_cd g_law_draw hr psE (pa_cons (pv 0) (pa_cons (pv 2) pa_nil))) (pa_cons (pe_ix ix_list (pe_lst (pa_cons pe_str (pa_cons pe_str pa_nil))) (pe_cd g_law_draw hr psE (pa_cons (pv 0) (pa_cons pe_int pa_nil))) (fun _ _ => rfl)) pa_nil))) pa_nil)))))
      (pss_cons (ps_for (passes_of rfl) rfl (pi_list (pe_lst (pa_cons (pe_lst (pa_cons (pe_cd g_law_state_text hr psE (pa_cons (pv 4) pa_nil)) (pa_cons pe_str pa_nil))) (pa_cons (pe_lst (pa_cons pe_str (pa_cons (pe_cd g_law_moves_text hr psE (pa_cons (pv 6) pa_nil)) pa_nil))) pa_nil)))) (pg_name (i := 7) sc_law_words_round.nd rfl (Or.inl rfl))
        (pss_one (ps_for (passes_of rfl) rfl (pi_range1 (by rfl) B.range (pa_cons (pe_op op_add pe_int (pe_cd g_law_draw hr psE (pa_cons (pv 0) (pa_cons pe_int pa_nil)))) pa_nil)) (pg_name (i := 8) sc_law_words_round.nd rfl (Or.inl rfl))
        (pss_cons (ps_for (passes_of rfl) rfl (pi_list (pv 7)) (pg_name (i := 9) sc_law_words_round.nd rfl (Or.inl rfl))
        (pss_one (ps_if (PW.pt (pw_or (pt_not (pt_val (pe_cd g_law_state_asked hr psE (pa_cons (pv 1) (pa_cons (pv 9) (pa_cons (pv 2) pa_nil)))))) (pw_or1 (pt_not (pt_val (pe_cd g_law_moves_asked hr psE (pa_cons (pv 1) (pa_cons (pv 9) (pa_cons (pv 2) pa_nil))))))))) (pss_one (ps_ret pe_bl)) pss_nil)))
      (pss_one (ps_if (pt_cmpR op_eq (pe_cd g_law_draw hr psE (pa_cons (pv 0) (pa_cons pe_int pa_nil))) pe_int (nomark _)) (pss_one (ps_setLc (i := 7) (own := [("text", 9)]) rfl sc_law_words_round.nd rfl rfl (sw_true rfl rfl rfl (by decide +kernel)) (pi_list (pv 7)) (blkOk_by (N := nn_law_words_round) (sc := defScope s_law_words_round) (own := [("text", 9)]) (by decide +kernel)) (fun _ _ _ _ _ => (pg_name (i := 9) sc_law_words_round.nd rfl (Or.inl rfl))) (fun _ _ _ _ _ => pts_nil) (fun _ _ _ _ _ => (pe_cd g_law_char_spoilt (by exact hr) passL (pa_cons (pv 0) (pa_cons (pv 9) pa_nil)))))) (pss_one (ps_setLc (i := 7) (own := [("text", 9)]) rfl sc_law_words_round.nd rfl rfl (sw_true rfl rfl rfl (by decide +kernel)) (pi_list (pv 7)) (blkOk_by (N := nn_law_words_round) (sc := defScope s_law_words_round) (own := [("text", 9)]) (by decide +kernel)) (fun _ _ _ _ _ => (pg_name (i := 9) sc_law_words_round.nd rfl (Or.inl rfl))) (fun _ _ _ _ _ => pts_nil) (fun _ _ _ _ _ => (pe_cd g_law_words_spoilt (by exact hr) passL (pa_cons (pv 0) (pa_cons (pv 9) pa_nil))))))))))))
      (pss_one (ps_ret pe_bl))))))), ?_⟩
    refine ⟨by show 2 ≤ sizeLine; decide, fun p np => ?_⟩
    have s1 : Same H (upd H p (.lst [.int 6, .int 1000])) := Same.new np
    have W1 : Wd8 H (upd H p (.lst [.int 6, .int 1000])) b x C n cs := (⟨SameB.of (Same.refl H), hb, NA⟩ : Wd8 H H b x C n cs).keep s1
    refine ⟨_, rfl, b, 2, rfl, W1.bag, by decide, by decide, fun d H2 d0 d1 s2 b2 => ?_⟩
    have W2 := W1.on s2 b2
    have hp2 := s2 _ _ (upd_same (H := H) (a := p) (o := .lst [.int 6, .int 1000])) (bag_ne hb np).symm
    obtain ⟨wd, hwd, w1, w2⟩ : ∃ wd : Int, atI [V.int 6, .int 1000] d = some (.int wd) ∧ 1 ≤ wd ∧ wd ≤ 1000 := by
      rcases (by omega : d = 0 ∨ d = 1) with e | e <;> subst e
      · exact ⟨6, atI_nat (j := 0) rfl, by decide, by decide⟩
      · exact ⟨1000, atI_nat (j := 1) rfl, by decide, by decide⟩
    refine ⟨p, _, _, _, rfl, rfl, SqL.of hp2, hwd, ?_⟩
    dsimp only [gName]
    refine ⟨_, rfl, (n : Int), rfl, by omega, by omega, fun D hD => lc_range (lo := 0) (n := n) (fun i H5 => Wd8 H H5 b x C n cs ∧ ∃ ns : List Int, H5 D = some (.lst (ns.map V.int)) ∧ ns.length = i ∧ ∀ c ∈ ns, 0 ≤ c ∧ c ≤ 999) ⟨W2.keep (Same.new hD), [], upd_same, rfl, fun c hc => by cases hc⟩ ?_ ?_⟩
    · have Db := bag_ne b2 hD
      have nDH := W2.same.free b2 hD
      rintro i H5 hi ⟨W5, ns, h5, l5, o5⟩
      refine ⟨rfl, yes ⟨_, rfl, _, rfl, b, wd, rfl, W5.bag, by omega, by omega, fun e H6 e0 e1 s6 b6 => ?_⟩⟩
      have W6 := W5.on s6 b6
      have h6 := s6 _ _ h5 Db.symm
      refine ⟨_, h6, by rw [List.length_map, l5]; exact line_lt (by omega), ⟨put_on W6.same nDH, bag_put b6 Db.symm, ?_⟩, ns ++ [e], by rw [upd_same, List.map_append]; rfl, by rw [List.length_append, l5]; rfl, fun c hc => ?_⟩
      · have := W6.nx
        obtain ⟨dx, tc, ti, to, vs, h1, h2, h3, ⟨ts, r1, r2, r3⟩, ⟨us, q1, q2, q3⟩⟩ := this.ex
        have tp : ∀ {c : Addr} {xs : List V}, H6 c = some (.tup xs) → upd H6 D (.lst (ns.map V.int ++ [.int e])) c = some (.tup xs) := fun {c xs} e2 => by rw [upd_ne (ne_of e2 h6 (by intro z; cases z))]; exact e2
        exact ⟨dx, tc, ti, to, vs, by rw [upd_ne (ne_of h1 h6 (by intro z; cases z))]; exact h1, tp h2, Paired.mapP h3 fun c v ⟨t, e, ht⟩ => ⟨t, e, tp ht⟩, ⟨ts, tp r1, r2, fun j v e => let ⟨t, e1, e2⟩ := r3 j v e; ⟨t, e1, tp e2⟩⟩, ⟨us, tp q1, q2, fun j v e => let ⟨t, e1, e2⟩ := q3 j v e; ⟨t, e1, tp e2⟩⟩⟩
      · rcases List.mem_append.mp hc with m | m
        · exact o5 c m
        · rw [List.mem_singleton.mp m]; omega
    rintro H5 ⟨W5, ns, h5, l5, o5⟩
    have Db : D ≠ b := (bag_ne b2 hD).symm
    dsimp only [gName]
    refine ⟨by show 0 ≤ sizeLine; decide, fun R nR => ?_⟩
    have bR := bag_ne W5.bag nR
    have DR : D ≠ R := ne_of_none h5 nR
    obtain ⟨H6, e6⟩ : ∃ H6, H6 = upd H5 R (.lst []) := ⟨_, rfl⟩
    have s56 : Same H5 H6 := by rw [e6]; exact Same.new nR
    have hR6 : H6 R = some (.lst []) := by rw [e6, upd_same]
    have W6 := W5.keep s56
    rw [← e6]
    dsimp only [gName]
    refine ⟨_, rfl, b, 9, rfl, W6.bag, by decide, by decide, fun m H7 m0 m1 s7 b7 => ?_⟩
    have W7 := W6.on s7 b7
    refine ⟨m, rfl, by omega, by omega, for_it walk_range (fun i σ H8 => ∃ v5 ks ms, σ = [some (.ref b), some (.ref x), some (.int n), some (.int wd), some (.ref D), v5, some (.ref R), none, none, none] ∧ SameB b H5 H8 ∧ BagAt H8 b ∧ H8 R = some (.lst ks) ∧ Paired (MvIs H8 n) ms ks ∧ ms.length = i) ⟨_, [], [], rfl, (SameB.of s56).trans s7, b7, s7 _ _ hR6 bR.symm, .nil, rfl⟩ (fun _ _ _ _ _ => trivial) ?_ ?_⟩
    · rintro i y σ H8 H9 hi ⟨v5, ks, ms, rfl, s8, b8, h8, pm, lm⟩ ⟨rfl, ey⟩
      have hi : i < m.toNat := hi
      have lk := pm.length
      refine ⟨_, rfl, .inl ⟨rfl, _, SqL.of h8⟩, _, rfl, _, rfl, b, n, rfl, b8, by omega, by omega, fun st Ha t0 t1 sa ba => ?_⟩
      have ha := sa _ _ h8 bR.symm
      have pma : Paired (MvIs Ha n) ms ks := Paired.mapP pm fun _ _ h => h.onB b8 sa
      refine ⟨by show 2 ≤ sizeLine; decide, fun p1 np1 => ?_⟩
      have bb : BagAt (upd Ha p1 (.lst [.str "advance", .str "rollback"])) b := ba.same (Same.new np1)
      have bp := bag_ne ba np1
      refine ⟨_, rfl, b, 2, rfl, bb, by decide, by decide, fun g Hc g0 g1 sc bc => ?_⟩
      have hpc := sc _ _ (upd_same (H := Ha) (a := p1) (o := .lst [.str "advance", .str "rollback"])) bp.symm
      have sac : SameB b Ha Hc := (SameB.of (Same.new np1)).trans sc
      have hc := sac _ _ ha bR.symm
      have pmc : Paired (MvIs Hc n) ms ks := Paired.mapP pma fun _ _ h => h.onB ba sac
      obtain ⟨adv, hav⟩ : ∃ adv, atI [V.str "advance", .str "rollback"] g = some (.str (kw adv)) := by
        rcases (by omega : g = 0 ∨ g = 1) with e | e <;> subst e
        · exact ⟨true, atI_nat (j := 0) rfl⟩
        · exact ⟨false, atI_nat (j := 1) rfl⟩
      refine ⟨p1, _, _, _, rfl, rfl, SqL.of hpc, hav, by show 2 ≤ sizeLine; decide, fun t nt => ?_⟩
      have st9 : Same Hc (upd Hc t (.tup [.int st, .str (kw adv)])) := Same.new nt
      have tR : t ≠ R := (ne_of_none hc nt).symm
      have keep : ∀ a xs, Hc a = some (HO.tup xs) → upd (upd Hc t (.tup [.int st, .str (kw adv)])) R (.lst (ks ++ [.ref t])) a = some (.tup xs) := fun a xs e2 => by
        rw [upd_ne (ne_of e2 hc (by intro z; cases z))]
        exact st9 _ _ e2
      refine ⟨R, _, _, rfl, rfl, st9 _ _ hc, line_lt (by omega), _, ks ++ [.ref t], ms ++ [(st, adv)], rfl, (((s8.trans sa).trans sac).trans (SameB.of st9)).put nR, bag_put (bc.same st9) bR.symm, upd_same, ?_, by rw [List.length_append, lm]; rfl⟩
      exact pr_snoc (Paired.mapP pmc fun c v ⟨⟨t2, e1, e2⟩, a, d⟩ => ⟨⟨t2, e1, keep _ _ e2⟩, a, d⟩) ⟨⟨t, rfl, by rw [upd_ne tR, upd_same]⟩, t0, t1⟩
    rintro σ H8 ⟨v5, ks, ms, rfl, s8, b8, h8, pm, lm⟩
    have lm : ms.length = m.toNat := lm
    have W8 := W5.on s8 b8
    have hD8 := s8 _ _ h5 Db
    refine ⟨_, rfl, D, ns, rfl, hD8, by omega, o5, fun H9 s9 => ?_⟩
    refine ⟨by show 2 ≤ sizeLine; decide, fun p1 np1 => ?_⟩
    have e0 : (Str.ofString "" : Str) = S [] := ofS ""
    rw [e0]
    obtain ⟨Ha, ea⟩ : ∃ Ha, Ha = upd H9 p1 (.lst (rowsT [stT ns, []])) := ⟨_, rfl⟩
    have sa : Same H9 Ha := by rw [ea]; exact Same.new np1
    have ha : Ha p1 = some (.lst (rowsT [stT ns, []])) := by rw [ea, upd_same]
    rw [show ([V.str (S (stT ns)), V.str (S [])] : List V) = rowsT [stT ns, []] from rfl, ← ea]
    have s8a := s9.trans sa
    refine ⟨_, rfl, R, n, ms, ks, rfl, s8a _ _ h8, Paired.mapP pm fun _ _ h => h.same s8a, n40, by omega, fun Hb sb => ?_⟩
    refine ⟨by show 2 ≤ sizeLine; decide, fun p2 np2 => ?_⟩
    obtain ⟨Hc, ec⟩ : ∃ Hc, Hc = upd Hb p2 (.lst (rowsT [[], mvL ms])) := ⟨_, rfl⟩
    have sc : Same Hb Hc := by rw [ec]; exact Same.new np2
    have hc2 : Hc p2 = some (.lst (rowsT [[], mvL ms])) := by rw [ec, upd_same]
    rw [show ([V.str (S []), V.str (S (mvL ms))] : List V) = rowsT [[], mvL ms] from rfl, ← ec]
    refine ⟨by show 2 ≤ sizeLine; decide, fun L0 nL0 => ?_⟩
    obtain ⟨He, ee⟩ : ∃ He, He = upd Hc L0 (.lst [.ref p1, .ref p2]) := ⟨_, rfl⟩
    have se : Same Hc He := by rw [ee]; exact Same.new nL0
    have hL0 : He L0 = some (.lst [.ref p1, .ref p2]) := by rw [ee, upd_same]
    rw [← ee]
    have sbe := sb.trans (sc.trans se)
    have We := W8.keep (s8a.trans sbe)
    have b9 := b8.same s9
    have p1b : p1 ≠ b := (bag_ne b9 np1).symm
    have p2b : p2 ≠ b := (bag_ne (b8.same (s8a.trans sb)) np2).symm
    have L0b : L0 ≠ b := (bag_ne (b8.same (s8a.trans (sb.trans sc))) nL0).symm
    have h1e := sbe _ _ ha
    have h2e := se _ _ hc2
    have t1 : Tx8 0 [stT ns, []] := by
      have := st_asc (by omega) o5
      refine ⟨Nat.le_refl 2, fun w hw => ?_⟩
      rcases List.mem_cons.mp hw with e | hw
      · rw [e]; exact ⟨this.1, by rw [Nat.pow_zero]; omega⟩
      · rw [List.mem_singleton.mp hw]; exact ⟨rfl, by decide⟩
    have t2 : Tx8 0 [[], mvL ms] := by
      have := mv_asc n40 (by omega) pm
      refine ⟨Nat.le_refl 2, fun w hw => ?_⟩
      rcases List.mem_cons.mp hw with e | hw
      · rw [e]; exact ⟨rfl, by decide⟩
      · rw [List.mem_singleton.mp hw]; exact ⟨this.1, by rw [Nat.pow_zero]; omega⟩
    have pick : ∀ {i : Nat} {v : V}, [V.ref p1, V.ref p2][i]? = some v → ∃ T ws, v = .ref T ∧ T ≠ b ∧ He T = some (.lst (rowsT ws)) ∧ Tx8 0 ws := fun {i v} h => by
      match i, h with
      | 0, h => exact ⟨p1, _, (Option.some.inj h).symm, p1b, h1e, t1⟩
      | 1, h => exact ⟨p2, _, (Option.some.inj h).symm, p2b, h2e, t2⟩
    clear t1 t2 h1e h2e ha hc2
    refine ⟨L0, rfl, ⟨_, SqL.of hL0⟩, for_it (walk_list (xs := [.ref p1, .ref p2])) (fun i σ Hf => ∃ v5 v7 v8 v9, σ = [some (.ref b), some (.ref x), some (.int n), some (.int wd), some (.ref D), v5, some (.ref R), v7, v8, v9] ∧ Wd8 He Hf b x C n cs) ⟨_, _, _, _, rfl, SameB.of (Same.refl _), We.bag, We.nx⟩ (fun i σ Hf _ z => ?_) ?_ ?_⟩
    · obtain ⟨_, _, _, _, _, z⟩ := z
      exact SqL.of (z.same _ _ hL0 L0b)
    · rintro i y σ Hf Hg hi ⟨v5, v7, v8, v9, rfl, Wf⟩ ⟨rfl, hy⟩
      obtain ⟨T, ws, rfl, Tb, hT, tx⟩ := pick hy
      have hTf := Wf.same _ _ hT Tb
      refine ⟨_, rfl, b, 3, rfl, Wf.bag, by decide, by decide, fun d3 Hh c0 c1 sh bh => ⟨_, _, rfl, rfl, ?_⟩⟩
      have Wh := Wf.on sh bh
      refine ⟨(2 : Int) + d3, rfl, by omega, by omega, for_it walk_range (fun k σ Hi => ∃ v8 v9 T2 us, σ = [some (.ref b), some (.ref x), some (.int n), some (.int wd), some (.ref D), v5, some (.ref R), some (.ref T2), v8, v9] ∧ Wd8 He Hi b x C n cs ∧ Hi T2 = some (.lst (rowsT us)) ∧ T2 ≠ b ∧ Tx8 k us) ⟨_, _, T, ws, rfl, Wh, sh _ _ hTf Tb, Tb, tx⟩ (fun _ _ _ _ _ => trivial) ?_ ?_⟩
      · rintro k y2 σ Hi Hj hk ⟨v8, v9, T2, us, rfl, Wi, hTi, T2b, tu⟩ ⟨rfl, ey⟩
        have hk : k < ((2 : Int) + d3).toNat := hk
        refine seq_mid (fun σ Hk => ∃ v9, σ = [some (.ref b), some (.ref x), some (.int n), some (.int wd), some (.ref D), v5, some (.ref R), some (.ref T2), some y2, v9] ∧ Same Hj Hk) (fun M hM => ?_) ?_
        · refine ⟨_, rfl, T2, rfl, ⟨_, SqL.of hTi⟩, for_it (walk_list (xs := rowsT us)) (fun i σ Hk => ∃ v9, σ = [some (.ref b), some (.ref x), some (.int n), some (.int wd), some (.ref D), v5, some (.ref R), some (.ref T2), some y2, v9] ∧ Same Hj Hk) ⟨_, rfl, Same.refl _⟩ (fun i σ Hk _ z => ?_) ?_ ?_⟩
          · obtain ⟨_, _, z⟩ := z
            exact SqL.of (z _ _ hTi)
          · rintro i v σ Hk Hl hi ⟨v9, rfl, sk⟩ ⟨rfl, hv⟩
            obtain ⟨u, hu, rfl⟩ := rowsT_at hv
            have uo := tu.2 u (List.mem_of_getElem? hu)
            have u9 := pow8 uo.2 (by omega)
            exact ⟨_, rfl, _, rfl, _, rfl, C, x, n, cs, u, hC, rfl, Wi.nx.same sk, n40, uo.1, by omega, fun Hm sm => ⟨_, rfl, iteF ⟨_, rfl, _, rfl, _, rfl, C, x, n, cs, u, hC, rfl, Wi.nx.same (sk.trans sm), n40, uo.1, by omega, fun Hn sn => ⟨_, rfl, iteF ⟨_, rfl, sk.trans (sm.trans sn)⟩⟩⟩⟩⟩
          · rintro σ Hk ⟨v9, rfl, sk⟩
            exact hM _ _ ⟨v9, rfl, sk⟩
        rintro σ Hk ⟨v9, rfl, sk⟩
        have Wk := Wi.keep sk
        have hTk := sk _ _ hTi
        refine ⟨_, rfl, b, 3, rfl, Wk.bag, by decide, by decide, fun d4 Hm e0 e1 sm bm => ⟨rfl, _, rfl, ?_⟩⟩
        have Wm := Wk.on sm bm
        have hTm := sm _ _ hTk T2b
        refine ite2 (fun _ => ?_) (fun _ => ?_)
        · refine ⟨_, rfl, T2, rfl, ⟨_, SqL.of hTm⟩, fun D2 nD2 => lc_it (walk_list (xs := rowsT us)) (fun i Hx => SameB b He Hx ∧ BagAt Hx b ∧ ∃ xs, Hx D2 = some (.lst (rowsT xs)) ∧ xs.length = i ∧ (∀ x ∈ xs, asc x = true ∧ x.length + 3500 ≤ 9500 * 3 ^ (k + 1)) ∧ Hx T2 = some (.lst (rowsT us))) ⟨Wm.same.trans (SameB.of (Same.new nD2)), Wm.bag.same (Same.new nD2), [], upd_same, rfl, fun x hx => (by cases hx), (Same.new nD2) _ _ hTm⟩ (fun i Hx _ z => by obtain ⟨_, _, _, _, _, _, z⟩ := z; exact SqL.of z) ?_ ?_⟩
          · have D2b : D2 ≠ b := (bag_ne Wm.bag nD2).symm
            have T2D : T2 ≠ D2 := ne_of_none hTm nD2
            have nD0 := Wm.same.free Wm.bag nD2
            rintro i v Hx Hy hi ⟨sx, bx, xs, hx, lx, ox, hTx⟩ ⟨rfl, hv⟩
            obtain ⟨u, hu, rfl⟩ := rowsT_at hv
            have uo := tu.2 u (List.mem_of_getElem? hu)
            have hi : i < us.length := (List.getElem?_eq_some_iff.mp hu).1
            have l2 := tu.1
            refine ⟨rfl, yes ⟨_, rfl, _, rfl, b, u, rfl, bx, uo.1, pow83 uo.2 (by omega), fun z Hz sz bz za zl => ?_⟩⟩
            have hz := sz _ _ hx D2b
            refine ⟨_, hz, by rw [rowsT_len]; exact line_lt (by omega), put_on (sx.trans sz) nD0, bag_put bz D2b, xs ++ [z], by rw [upd_same, rows_cat1], by rw [List.length_append, lx]; rfl, fun a ha => ?_, by rw [upd_ne T2D]; exact sz _ _ hTx T2b⟩
            rcases List.mem_append.mp ha with m | m
            · exact ox a m
            · rw [List.mem_singleton.mp m]; exact ⟨za, grow8 uo.2 zl⟩
          · rintro Hx ⟨sx, bx, xs, hx, lx, ox, _⟩
            have lx : xs.length = us.length := by rw [lx, rowsT_len]
            have Wx : Wd8 He Hx b x C n cs := Wm.on' We.nx We.bag sx bx
            exact ⟨_, _, D2, xs, rfl, Wx, hx, (bag_ne Wm.bag nD2).symm, ⟨by rw [lx]; exact tu.1, ox⟩⟩
        · refine ⟨_, rfl, T2, rfl, ⟨_, SqL.of hTm⟩, fun D2 nD2 => lc_it (walk_list (xs := rowsT us)) (fun i Hx => SameB b He Hx ∧ BagAt Hx b ∧ ∃ xs, Hx D2 = some (.lst (rowsT xs)) ∧ xs.length = i ∧ (∀ x ∈ xs, asc x = true ∧ x.length + 3500 ≤ 9500 * 3 ^ (k + 1)) ∧ Hx T2 = some (.lst (rowsT us))) ⟨Wm.same.trans (SameB.of (Same.new nD2)), Wm.bag.same (Same.new nD2), [], upd_same, rfl, fun x hx => (by cases hx), (Same.new nD2) _ _ hTm⟩ (fun i Hx _ z => by obtain ⟨_, _, _, _, _, _, z⟩ := z; exact SqL.of z) ?_ ?_⟩
          · have D2b : D2 ≠ b := (bag_ne Wm.bag nD2).symm
            have T2D : T2 ≠ D2 := ne_of_none hTm nD2
            have nD0 := Wm.same.free Wm.bag nD2
            rintro i v Hx Hy hi ⟨sx, bx, xs, hx, lx, ox, hTx⟩ ⟨rfl, hv⟩
            obtain ⟨u, hu, rfl⟩ := rowsT_at hv
            have uo := tu.2 u (List.mem_of_getElem? hu)
            have hi : i < us.length := (List.getElem?_eq_some_iff.mp hu).1
            have l2 := tu.1
            refine ⟨rfl, yes ⟨_, rfl, _, rfl, b, u, rfl, bx, uo.1, pow83 uo.2 (by omega), fun z Hz sz bz za zl => ?_⟩⟩
            have hz := sz _ _ hx D2b
            refine ⟨_, hz, by rw [rowsT_len]; exact line_lt (by omega), put_on (sx.trans sz) nD0, bag_put bz D2b, xs ++ [z], by rw [upd_same, rows_cat1], by rw [List.length_append, lx]; rfl, fun a ha => ?_, by rw [upd_ne T2D]; exact sz _ _ hTx T2b⟩
            rcases List.mem_append.mp ha with m | m
            · exact ox a m
            · rw [List.mem_singleton.mp m]; exact ⟨za, grow8 uo.2 zl⟩
          · rintro Hx ⟨sx, bx, xs, hx, lx, ox, _⟩
            have lx : xs.length = us.length := by rw [lx, rowsT_len]
            have Wx : Wd8 He Hx b x C n cs := Wm.on' We.nx We.bag sx bx
            exact ⟨_, _, D2, xs, rfl, Wx, hx, (bag_ne Wm.bag nD2).symm, ⟨by rw [lx]; exact tu.1, ox⟩⟩
      · rintro σ Hi ⟨v8, v9, T2, us, rfl, Wi, _⟩
        exact ⟨_, _, _, _, rfl, Wi⟩
    · rintro σ Hf ⟨v5, v7, v8, v9, rfl, Wf⟩
      exact q Hf (We.same.trans Wf.same) Wf.bag
end
end WC

set_option maxHeartbeats 16000000
namespace WC
open PySem PySem.Spec PyProof.Rows L2 SX
theorem WSm.facts {n : Nat} {cs : List Tri} {ring : Bool} (h : WSm n cs ring) : 1 ≤ n ∧ n ≤ 40 ∧ (∀ c ∈ cs, ChOk n c) ∧ cs.length ≤ 130 ∧ NetGood (netL ring n cs) ring n cs := by
  rcases h with ⟨rfl, n1, n6, L, l⟩ | ⟨rfl, n3, n5, ns, rfl, hn, z⟩
  · exact ⟨n1, by omega, L.ok, by omega, good_pipe n1 (by omega) L⟩
  · have := ringOf_ok z (by omega)
    rw [hn] at this
    exact ⟨by omega, by omega, this, by rw [ringOf_len]; omega, good_ring n3 (by omega) hn z⟩
def spRound8 : Sp := fun vs H Q _ => ∃ b : Addr, vs = [.ref b] ∧ BagAt H b ∧ ∀ H2, SameB b H H2 → Q (.bl true) H2
section
variable {P : Program} {w : World} {K : PySem.W.Frag} {mg : Str → Option Value} {base : Heap}
theorem ok_round8 {f CP CR CT : Addr} {fd : FuncData} (F : Fun K "_law_round" "_law_round" s_law_round f fd) (B : Blt mg) (g_law_draw : DefR P w K mg base "_law_draw" 1 spDraw) (g_law_world : DefR P w K mg base "_law_world" 4 spWorld) (g_law_net_text : DefR P w K mg base "_law_net_text" 1 spNetT) (g_law_nets_round : DefR P w K mg base "_law_nets_round" 9 spNR8) (g_law_large : DefR P w K mg base "_law_large" 2 spLarge8) (g_law_free : DefR P w K mg base "_law_free" 2 spFree8) (g_read_net : DefR P w K mg base "read_net" 7 (spRdN8 CP CR CT)) (g_law_refused_well : DefR P w K mg base "_law_refused_well" 8 spRef8) (g_law_state_asked : DefR P w K mg base "_law_state_asked" 4 (spAsk8 CP CR)) (g_law_moves_asked : DefR P w K mg base "_law_moves_asked" 4 (spAsk8 CP CR)) (g_law_words_round : DefR P w K mg base "_law_words_round" 5 (spWR8 CP CR)) : FnOk P w K mg base (L2.CX P w) 10 f fd ["bag"] spRound8 := by
  refine F.okX sc_law_round (fun vs H Q E h => ?_) (fun cdv A outer s H vs Q E hr h => ?_)
  · obtain ⟨b, rfl, _⟩ := h
    rfl
  · obtain ⟨b, rfl, hb, q⟩ := h
    -- slots: 0 bag, 1 world, 2 text, 3 free, 4 net
    refine ⟨_, (pss_cons (ps_set (i := 1) sc_law_round.nd rfl (Or.inl rfl) (pe_cd g_law_world hr psE (pa_cons (pv 0) pa_nil)))
      (pss_cons (ps_set (i := 2) sc_law_round.nd rfl (Or.inl rfl) (pe_cd g_law_net_text hr psE (pa_cons (pv 1) pa_nil)))
      (pss_cons (ps_if (pt_not (pt_val (pe_cd g_law_nets_round hr psE (pa_cons (pv 0) (pa_cons (pv 2) (pa_cons pe_int pa_nil)))))) (pss_one (ps_ret pe_bl)) pss_nil)
      (pss_cons (ps_if (PW.pt (pw_and (pt_cmpR op_eq (pe_cd g_law_draw hr psE (pa_cons (pv 0) (pa_cons pe_int pa_nil))) pe_int (nomark _)) (pw_and1 (pt_not (pt_val (pe_cd g_law_nets_round hr psE (pa_cons (pv 0) (pa_cons (pe_cd g_law_net_text hr psE (pa_cons (pe_cd g_law_large hr psE (pa_cons (pv 0) pa_nil)) pa_nil)) (pa_cons pe_int pa_nil))))))))) (pss_one (ps_ret pe_bl)) pss_nil)
      (pss_cons (ps_set (i := 3) sc_law_round.nd rfl (Or.inl rfl) (pe_cd g_law_free hr psE (pa_cons (pv 0) pa_nil)))
      (pss_cons (ps_set (i := 4) sc_law_round.nd rfl (Or.inl rfl) (pe_cd g_read_net hr psE (pa_cons (pv 2) pa_nil)))
      (pss_cons (ps_if (PW.pt (pw_or (pt_not (pt_val (pe_cd g_law_refused_well hr psE (pa_cons (pv 3) pa_nil)))) (pw_or1 (pt_not (pt_val (pe_cd g_law_state_asked hr psE (pa_cons (pv 4) (pa_cons (pv 3) (pa_cons (pe_ix ix_list (pv 1) pe_int (fun _ _ => rfl)) pa_nil))))))))) (pss_one (ps_ret pe_bl)) pss_nil)
      (pss_cons (ps_if (PW.pt (pw_or (pt_not (pt_val (pe_cd g_law_moves_asked hr psE (pa_cons (pv 4) (pa_cons (pv 3) (pa_cons (pe_ix ix_list (pv 1) pe_int (fun _ _ => rfl)) pa_nil)))))) (pw_or1 (pt_not (pt_val (pe_cd g_law_words_round hr psE (pa_cons (pv 0) (pa_cons (pv 4) (pa_cons (pe_ix ix_list (pv 1) pe_int (fun _ _ => rfl)) pa_nil))))))))) (pss_one (ps_ret pe_bl)) pss_nil)
      (pss_one (ps_ret (pe_cd g_law_refused_well hr psE (pa_cons (pv 2) pa_nil)))))))))))), ?_⟩
    refine ⟨_, rfl, b, rfl, hb, fun wr n cs ring H1 s1 b1 nw nl WA W => ?_⟩
    obtain ⟨n1, n40, ok, l130, good⟩ := W.facts
    obtain ⟨na, nlen⟩ := net_asc (ring := ring) n40 ok l130
    dsimp only [gName]
    refine ⟨_, rfl, wr, n, cs, ring, rfl, WA.r, n40, ok, l130, fun H2 s2 => ?_⟩
    have b2 := b1.same s2
    generalize netL ring n cs = l at good na nlen
    dsimp only [gName]
    refine ⟨_, rfl, _, rfl, b, l, 4, rfl, b2, na, nlen, by decide, by decide, fun H3 s3 b3 => ⟨_, rfl, iteF ?_⟩⟩
    have s13 := (SameB.of s2).trans s3
    have s03 := s1.trans s13
    dsimp only [tNext]
    refine seq_mid (fun σ H9 => σ = [some (.ref b), some (.ref wr), some (.str (S l)), none, none] ∧ SameB b H3 H9 ∧ BagAt H9 b) (fun M hM => ?_) ?_
    · refine ⟨_, rfl, b, 8, rfl, b3, by decide, by decide, fun d H4 d0 d1 s4 b4 => ⟨rfl, _, rfl, ite2 (fun _ => ?_) (fun _ => iteF (hM _ _ ⟨rfl, s4, b4⟩))⟩⟩
      refine ⟨_, rfl, _, rfl, b, rfl, b4, fun W2 n2 cs2 r2 H5 s5 b5 WR2 n240 ok2 l2 => ?_⟩
      refine ⟨W2, n2, cs2, r2, rfl, WR2, n240, ok2, l2, fun H6 s6 => ?_⟩
      obtain ⟨ma, mlen⟩ := net_asc (ring := r2) n240 ok2 l2
      exact ⟨b, _, 3, rfl, b5.same s6, ma, mlen, by decide, by decide, fun H7 s7 b7 => ⟨_, rfl, iteF (hM _ _ ⟨rfl, s4.trans (s5.trans ((SameB.of s6).trans s7)), b7⟩)⟩⟩
    rintro σ H4 ⟨rfl, s4, b4⟩
    refine ⟨_, rfl, b, rfl, b4, fun u H5 s5 b5 ua ul => ?_⟩
    dsimp only [gName]
    refine ⟨_, rfl, l, rfl, na, by omega, fun r2 n2 cs2 g2 C hK H6 x s6 nx NA => ?_, fun k nb => absurd nb (good_bad good)⟩
    obtain ⟨rfl, rfl, rfl⟩ := good_one g2 good
    have hC : C ∈ [CP, CR] := by rcases hK with ⟨e, _⟩ | ⟨e, _⟩ <;> rw [e] <;> simp
    have s16 := s13.trans (s4.trans (s5.trans (SameB.of s6)))
    have b6 := b5.same s6
    have WA6 := WA.on b1 s16
    obtain ⟨lw, wsw, hwr, _, _, wb, _⟩ := WA6.ex
    have a0 : ∀ {lw : Addr}, atI [V.int n2, .ref lw, .bl r2] (0 : Int) = some (.int n2) := atI_nat (j := 0) rfl
    dsimp only [gName]
    refine ⟨_, rfl, u, rfl, ua, by omega, fun H7 s7 => ⟨_, rfl, iteF ?_⟩⟩
    refine ⟨_, rfl, _, rfl, _, rfl, wr, _, _, _, rfl, rfl, SqL.of (s7 _ _ hwr), a0, C, x, n2, cs2, u, hC, rfl, NA.same s7, n40, ua, by omega, fun H8 s8 => ⟨_, rfl, iteF ?_⟩⟩
    have s68 := s7.trans s8
    dsimp only [tNext]
    refine ⟨_, rfl, _, rfl, _, rfl, wr, _, _, _, rfl, rfl, SqL.of (s68 _ _ hwr), a0, C, x, n2, cs2, u, hC, rfl, NA.same s68, n40, ua, by omega, fun H9 s9 => ⟨_, rfl, iteF ?_⟩⟩
    have s69 := s68.trans s9
    refine ⟨_, rfl, _, rfl, _, rfl, wr, _, _, _, rfl, rfl, SqL.of (s69 _ _ hwr), a0, b, x, C, n2, cs2, rfl, hC, b6.same s69, NA.same s69, n1, n40, fun Ha sa ba => ⟨_, rfl, iteF ?_⟩⟩
    dsimp only [tNext]
    exact ⟨_, rfl, l, rfl, na, by omega, fun Hb sb => q Hb ((s1.trans s16).trans ((SameB.of s69).trans (sa.trans (SameB.of sb))))⟩
end
end WC

set_option maxHeartbeats 8000000
namespace WC
open PySem PySem.Spec PyProof.Rows L2
theorem same_of_new {H H2 H3 : Hp} {b : Addr} (s : Same H H2) (nb : H b = none) (t : SameB b H2 H3) : Same H H3 := fun c o e => t c o (s c o e) (ne_of_none e nb)
def spLaw (K : PySem.W.Frag) : Sp := fun vs H Q _ => ∃ (a : Addr) (ns : List Int), vs = [.ref a] ∧ SqL K H a (ns.map V.int) ∧ ns.length ≤ 63 ∧ ∀ H', Q (.bl true) H'
section
variable {P : Program} {w : World} {K : PySem.W.Frag} {mg : Str → Option Value} {base : Heap}
theorem ok_law {f CW CN CM CI CX CT : Addr} {fd : FuncData} (F : Fun K "law" "law" s_law f fd) (B : Blt mg) (T : Ref8 K mg CW CN CM CI CX CT) (t_InvalidText : ExcR P w K mg base "InvalidText" CT 1 1 flLn) (g_law_same : DefQ P w K mg base "_law_same" 1 spSame) (g_law_bag : DefR P w K mg base "_law_bag" 2 (spBag K)) (g_law_round : DefR P w K mg base "_law_round" 10 spRound8) : FnOk P w K mg base (L2.CX P w) 11 f fd ["script"] (spLaw K) := by
  refine F.okX sc_law (fun vs H Q E h => ?_) (fun cdv A outer s H vs Q E hr h => ?_)
  · obtain ⟨a, ns, rfl, _⟩ := h
    rfl
  · obtain ⟨a, ns, rfl, ha, hlen, q⟩ := h
    have hrq := L2H.roomH_of hr
    -- slots: 0 script, 1 k
    refine ⟨_, (pss_cons (ps_if (pt_not (pt_val (pe_cq g_law_same hrq (pa_cons (pe_xo T.tf T.line (pe_newx t_InvalidText hr (pa_cons pe_int pa_nil))) (pa_cons pe_int pa_nil))))) (pss_one (ps_ret pe_bl)) pss_nil)
      (pss_cons (ps_for (passes_of rfl) rfl (pi_range1 (by rfl) B.range (pa_cons (pe_callB (call_max2 rfl) (by rfl) B.max boot_max (pa_cons pe_int (pa_cons (pe_callB (call_min2 rfl) (by rfl) B.min boot_min (pa_cons (pe_callB call_len_seq (by rfl) B.len bt_len (pa_cons (pv 0) pa_nil)) (pa_cons pe_int pa_nil))) pa_nil))) pa_nil)) (pg_name (i := 1) sc_law.nd rfl (Or.inl rfl))
        (pss_one (ps_if (pt_not (pt_val (pe_cd g_law_round hr psE (pa_cons (pe_cd g_law_bag hr psE (pa_cons (pv 0) (pa_cons (pv 1) pa_nil))) pa_nil)))) (pss_one (ps_ret pe_bl)) pss_nil)))
      (pss_one (ps_ret pe_bl)))), ?_⟩
    have key : ∀ l : Nat, ∃ cnt : Nat, (if (if (3 : Int) < (l : Int) then (3 : Int) else (l : Int)) > 1 then (if (3 : Int) < (l : Int) then (3 : Int) else (l : Int)) else 1) = (cnt : Int) ∧ cnt ≤ 3 := fun l => by
      by_cases h : (3 : Int) < l
      · rw [if_pos h, if_pos (by decide)]
        exact ⟨3, rfl, by decide⟩
      · rw [if_neg h]
        by_cases h2 : (l : Int) > 1
        · rw [if_pos h2]
          exact ⟨l, rfl, by omega⟩
        · rw [if_neg h2]
          exact ⟨1, rfl, by omega⟩
    refine seq_mid (fun σ H1 => σ = [some (.ref a), none] ∧ Same H H1) (fun N1 hN => ?_) ?_
    · refine ⟨by decide, fun e he => ⟨e, [.int 3], rfl, rfl, upd_same, fun d hd hne => ⟨rfl, e, d, _, .int 3, rfl, upd_same, by rw [upd_ne hne]; exact upd_same, rfl, .int 3, rfl, rfl, _, rfl, iteF (hN _ _ ⟨rfl, fun c o ec => ?_⟩)⟩⟩⟩
      have nd : H d = none := by rw [upd_ne hne] at hd; exact hd
      have c1 := ne_of_none ec he
      rw [upd_ne c1, upd_ne (ne_of_none ec nd), upd_ne c1]
      exact ec
    rintro σ H1 ⟨rfl, s1⟩
    obtain ⟨cnt, ec, lc⟩ := key ns.length
    refine ⟨_, rfl, a, _, rfl, .inl (s1.seq ha), ?_⟩
    rw [List.length_map]
    refine ⟨_, _, rfl, _, _, rfl, (cnt : Int), congrArg (fun z => [V.int z]) ec, by omega, by omega, for_range (lo := 0) (n := cnt) (fun i σ H2 => ∃ v1, σ = [some (.ref a), v1] ∧ Same H H2) ⟨_, rfl, s1⟩ ?_ ?_⟩
    · rintro i σ H2 hi ⟨v1, rfl, s2⟩
      refine ⟨_, rfl, _, rfl, a, ns, i, by rw [Int.zero_add], s2.seq ha, fun b H3 s3 nb b3 => ?_⟩
      exact ⟨b, rfl, b3, fun H4 s4 => ⟨_, rfl, iteF ⟨_, rfl, s2.trans (same_of_new s3 nb s4)⟩⟩⟩
    · rintro σ H2 ⟨v1, rfl, s2⟩
      exact q H2
end
end WC

set_option maxHeartbeats 2000000
namespace WC
open PySem PySem.Spec PyProof.Rows L2 SX
/-! what the end needs beside: an exception's fields, the dict of signs -/
theorem sg_t : ("+" : Str) = S (sgL true) := (ofS "+").trans rfl
theorem sg_f : ("-" : Str) = S (sgL false) := (ofS "-").trans rfl
theorem kdKs {K : PySem.W.Frag} {w : World} {d : Addr} {es : Array DictEntry} {n : Nat} {t0 t1 : Tok} (l : K.lookup d = some ⟨.type "dict", none, .dict es n, #[]⟩) (k : PySem.W.KeysLit w.params es.toList) (v0 : PySem.W.nsIn K d "+" = some (some (.str "advance" t0))) (v1 : PySem.W.nsIn K d "-" = some (some (.str "rollback" t1))) : ∀ adv, KDct K w d (S (sgL adv)) (.str (kw adv)) := fun adv => by
  cases adv with
  | true => exact ⟨es, n, _, l, k, by rw [← sg_t]; exact v0, t0, rfl⟩
  | false => exact ⟨es, n, _, l, k, by rw [← sg_f]; exact v1, t1, rfl⟩
def sgK (e : DictEntry) : Bool := match e.key with
  | .str k _ => k.cps.toList == [43] || k.cps.toList == [45]
  | _ => false
def sgB (K : PySem.W.Frag) (d : Addr) : Bool := match K.lookup d with
  | some ⟨_, _, .dict es _, _⟩ => es.toList.all sgK
  | _ => false
theorem kdM {K : PySem.W.Frag} {d : Addr} {es : Array DictEntry} {n : Nat} (l : K.lookup d = some ⟨.type "dict", none, .dict es n, #[]⟩) (h : sgB K d = true) : ∀ c : Nat, c ≠ 43 → c ≠ 45 → PySem.W.nsIn K d (S [c]) = some none := fun c c1 c2 => by
  unfold sgB at h
  unfold PySem.W.nsIn
  rw [l] at h ⊢
  have h : es.toList.all sgK = true := h
  have no : ∀ e ∈ es.toList, e.key.isStr (S [c]) = false ∧ e.refKey = false := fun e he => by
    have z := List.all_eq_true.mp h e he
    unfold sgK at z
    split at z
    · rename_i k t q
      rw [q]
      refine ⟨?_, by unfold DictEntry.refKey; rw [q]⟩
      rw [Bool.or_eq_true, beq_iff_eq, beq_iff_eq] at z
      show (k == S [c]) = false
      refine beq_eq_false_iff_ne.mpr fun y => ?_
      rw [y] at z
      rcases z with z | z
      · have : [c] = [43] := z
        exact c1 (List.cons.inj this).1
      · have : [c] = [45] := z
        exact c2 (List.cons.inj this).1
    · cases z
  have f : es.toList.find? (·.key.isStr (S [c])) = none := List.find?_eq_none.mpr fun e he => by rw [(no e he).1]; decide
  have a : es.toList.any (·.refKey) = false := by
    rw [List.any_eq_false]
    intro e he
    rw [(no e he).2]
    decide
  dsimp only
  rw [f, a]
  rfl
section
variable {P : Program} {w : World} {K : PySem.W.Frag} {mg : Str → Option Value} {base : Heap}
theorem ok_InvalidText_init {f C : Addr} {fd : FuncData} (F : Fun K "__init__" "InvalidText.__init__" s_InvalidText_init f fd) (T : OexC K C) (hno : PySem.W.findIn K (.ref C) "line" = some none) : FnOk P w K mg base (L2.CX P w) 1 f fd ["self", "line"] (spX C 1 flLn) := by
  refine F.okX sc_InvalidText_init (fun vs H Q E h => ?_) (fun cdv A outer s H vs Q E hr h => ?_)
  · obtain ⟨a, ws, rfl, hl, _⟩ := h
    simp [hl]
  · obtain ⟨a, ws, rfl, hl, ha, k⟩ := h
    match ws, hl with
    | [v], _ =>
      refine ⟨_, pss_one (ps_ost (pv 0) (pv 1)), ?_⟩
      exact ⟨_, rfl, _, rfl, a, C, rfl, T, hno, .inl ⟨ha, fun d hd hne => k d hd hne⟩⟩
end
end WC

set_option maxHeartbeats 16000000
namespace WC
open PySem PySem.Spec PyProof.Rows L2
theorem raw0 {P : Program} {w : World} {K : PySem.W.Frag} {mg : Str → Option Value} {base : Heap} {CX : CXT} {k : Nat} {f : Addr} {fd : FuncData} {ps : List Str} {sp : Sp} (F : FnOk P w K mg base CX k f fd ps sp) (hb : Binds K fd ps []) : FnR P w K mg base CX k f sp :=
  (F.raw hb .nil).imp fun vs H Q E h => by
    rw [List.append_nil]
    exact h
abbrev PK : Program := PySem.Challenge.pw_withincall_k08_whole_texts_refused
theorem all_k08 {w : World} {K : PySem.W.Frag} {h : Heap} {mg : Str → Option Value} {fa : Addr} (X : K.In h) (G : h.Ns mainGlobals mg) (hfa : mg "law" = some (.ref fa))
    {fbtw : Addr}
    {ocbtw kVbtw dcbtw pmbtw cdbtw ctbtw : Value} {odbtw anbtw : Option Addr} {slbtw : Array (Option Value)}
    {fchk : Addr}
    {occhk kVchk dcchk pmchk cdchk ctchk : Value} {odchk anchk : Option Addr} {slchk : Array (Option Value)}
    {fnat : Addr}
    {ocnat kVnat dcnat pmnat cdnat ctnat : Value} {odnat annat : Option Addr} {slnat : Array (Option Value)}
    {fjoi : Addr}
    {ocjoi kVjoi dcjoi pmjoi cdjoi ctjoi : Value} {odjoi anjoi : Option Addr} {sljoi : Array (Option Value)}
    {fcir : Addr}
    {occir kVcir dccir pmcir cdcir ctcir : Value} {odcir ancir : Option Addr} {slcir : Array (Option Value)}
    {fcch : Addr}
    {occch kVcch dccch pmcch cdcch ctcch : Value} {odcch ancch : Option Addr} {slcch : Array (Option Value)}
    {fwic : Addr}
    {ocwic kVwic dcwic pmwic cdwic ctwic : Value} {odwic anwic : Option Addr} {slwic : Array (Option Value)}
    {frdn : Addr}
    {ocrdn kVrdn dcrdn pmrdn cdrdn ctrdn : Value} {odrdn anrdn : Option Addr} {slrdn : Array (Option Value)}
    {frds : Addr}
    {ocrds kVrds dcrds pmrds cdrds ctrds : Value} {odrds anrds : Option Addr} {slrds : Array (Option Value)}
    {frdm : Addr}
    {ocrdm kVrdm dcrdm pmrdm cdrdm ctrdm : Value} {odrdm anrdm : Option Addr} {slrdm : Array (Option Value)}
    {fnum : Addr}
    {ocnum kVnum dcnum pmnum cdnum ctnum : Value} {odnum annum : Option Addr} {slnum : Array (Option Value)}
    {frhd : Addr}
    {ocrhd kVrhd dcrhd pmrhd cdrhd ctrhd : Value} {odrhd anrhd : Option Addr} {slrhd : Array (Option Value)}
    {frch : Addr}
    {ocrch kVrch dcrch pmrch cdrch ctrch : Value} {odrch anrch : Option Addr} {slrch : Array (Option Value)}
    {frpi : Addr}
    {ocrpi kVrpi dcrpi pmrpi cdrpi ctrpi : Value} {odrpi anrpi : Option Addr} {slrpi : Array (Option Value)}
    {frri : Addr}
    {ocrri kVrri dcrri pmrri cdrri ctrri : Value} {odrri anrri : Option Addr} {slrri : Array (Option Value)}
    {fcel : Addr}
    {occel kVcel dccel pmcel cdcel ctcel : Value} {odcel ancel : Option Addr} {slcel : Array (Option Value)}
    {fbag : Addr}
    {ocbag kVbag dcbag pmbag cdbag ctbag : Value} {odbag anbag : Option Addr} {slbag : Array (Option Value)}
    {fdra : Addr}
    {ocdra kVdra dcdra pmdra cddra ctdra : Value} {oddra andra : Option Addr} {sldra : Array (Option Value)}
    {fsam : Addr}
    {ocsam kVsam dcsam pmsam cdsam ctsam : Value} {odsam ansam : Option Addr} {slsam : Array (Option Value)}
    {fsar : Addr}
    {ocsar kVsar dcsar pmsar cdsar ctsar : Value} {odsar ansar : Option Addr} {slsar : Array (Option Value)}
    {fsrs : Addr}
    {ocsrs kVsrs dcsrs pmsrs cdsrs ctsrs : Value} {odsrs ansrs : Option Addr} {slsrs : Array (Option Value)}
    {ford : Addr}
    {ocord kVord dcord pmord cdord ctord : Value} {odord anord : Option Addr} {slord : Array (Option Value)}
    {fsiz : Addr}
    {ocsiz kVsiz dcsiz pmsiz cdsiz ctsiz : Value} {odsiz ansiz : Option Addr} {slsiz : Array (Option Value)}
    {flin : Addr}
    {oclin kVlin dclin pmlin cdlin ctlin : Value} {odlin anlin : Option Addr} {sllin : Array (Option Value)}
    {fwor : Addr}
    {ocwor kVwor dcwor pmwor cdwor ctwor : Value} {odwor anwor : Option Addr} {slwor : Array (Option Value)}
    {fntx : Addr}
    {ocntx kVntx dcntx pmntx cdntx ctntx : Value} {odntx anntx : Option Addr} {slntx : Array (Option Value)}
    {fstx : Addr}
    {ocstx kVstx dcstx pmstx cdstx ctstx : Value} {odstx anstx : Option Addr} {slstx : Array (Option Value)}
    {fmtx : Addr}
    {ocmtx kVmtx dcmtx pmmtx cdmtx ctmtx : Value} {odmtx anmtx : Option Addr} {slmtx : Array (Option Value)}
    {fprs : Addr}
    {ocprs kVprs dcprs pmprs cdprs ctprs : Value} {odprs anprs : Option Addr} {slprs : Array (Option Value)}
    {flnu : Addr}
    {oclnu kVlnu dclnu pmlnu cdlnu ctlnu : Value} {odlnu anlnu : Option Addr} {sllnu : Array (Option Value)}
    {fllk : Addr}
    {ocllk kVllk dcllk pmllk cdllk ctllk : Value} {odllk anllk : Option Addr} {slllk : Array (Option Value)}
    {flea : Addr}
    {oclea kVlea dclea pmlea cdlea ctlea : Value} {odlea anlea : Option Addr} {sllea : Array (Option Value)}
    {ffit : Addr}
    {ocfit kVfit dcfit pmfit cdfit ctfit : Value} {odfit anfit : Option Addr} {slfit : Array (Option Value)}
    {flrd : Addr}
    {oclrd kVlrd dclrd pmlrd cdlrd ctlrd : Value} {odlrd anlrd : Option Addr} {sllrd : Array (Option Value)}
    {flrs : Addr}
    {oclrs kVlrs dclrs pmlrs cdlrs ctlrs : Value} {odlrs anlrs : Option Addr} {sllrs : Array (Option Value)}
    {flrm : Addr}
    {oclrm kVlrm dclrm pmlrm cdlrm ctlrm : Value} {odlrm anlrm : Option Addr} {sllrm : Array (Option Value)}
    {frfw : Addr}
    {ocrfw kVrfw dcrfw pmrfw cdrfw ctrfw : Value} {odrfw anrfw : Option Addr} {slrfw : Array (Option Value)}
    {fsas : Addr}
    {ocsas kVsas dcsas pmsas cdsas ctsas : Value} {odsas ansas : Option Addr} {slsas : Array (Option Value)}
    {fmas : Addr}
    {ocmas kVmas dcmas pmmas cdmas ctmas : Value} {odmas anmas : Option Addr} {slmas : Array (Option Value)}
    {fcha : Addr}
    {occha kVcha dccha pmcha cdcha ctcha : Value} {odcha ancha : Option Addr} {slcha : Array (Option Value)}
    {flli : Addr}
    {oclli kVlli dclli pmlli cdlli ctlli : Value} {odlli anlli : Option Addr} {sllli : Array (Option Value)}
    {flhe : Addr}
    {oclhe kVlhe dclhe pmlhe cdlhe ctlhe : Value} {odlhe anlhe : Option Addr} {sllhe : Array (Option Value)}
    {flbe : Addr}
    {oclbe kVlbe dclbe pmlbe cdlbe ctlbe : Value} {odlbe anlbe : Option Addr} {sllbe : Array (Option Value)}
    {flpi : Addr}
    {oclpi kVlpi dclpi pmlpi cdlpi ctlpi : Value} {odlpi anlpi : Option Addr} {sllpi : Array (Option Value)}
    {flsp : Addr}
    {oclsp kVlsp dclsp pmlsp cdlsp ctlsp : Value} {odlsp anlsp : Option Addr} {sllsp : Array (Option Value)}
    {fwsp : Addr}
    {ocwsp kVwsp dcwsp pmwsp cdwsp ctwsp : Value} {odwsp anwsp : Option Addr} {slwsp : Array (Option Value)}
    {flar : Addr}
    {oclar kVlar dclar pmlar cdlar ctlar : Value} {odlar anlar : Option Addr} {sllar : Array (Option Value)}
    {ffre : Addr}
    {ocfre kVfre dcfre pmfre cdfre ctfre : Value} {odfre anfre : Option Addr} {slfre : Array (Option Value)}
    {fnro : Addr}
    {ocnro kVnro dcnro pmnro cdnro ctnro : Value} {odnro annro : Option Addr} {slnro : Array (Option Value)}
    {fwro : Addr}
    {ocwro kVwro dcwro pmwro cdwro ctwro : Value} {odwro anwro : Option Addr} {slwro : Array (Option Value)}
    {frou : Addr}
    {ocrou kVrou dcrou pmrou cdrou ctrou : Value} {odrou anrou : Option Addr} {slrou : Array (Option Value)}
    {flaw : Addr}
    {oclaw kVlaw dclaw pmlaw cdlaw ctlaw : Value} {odlaw anlaw : Option Addr} {sllaw : Array (Option Value)}
    {CN fxN NNN : Addr} {nmN qnN : Str} {bsN bmN subN : List Value} {snN : List Str} {abN : Bool} {coN : Option Bool} {ddN : Option Addr} {m0N m1N m2N m3N m5N : Option Value}
    {ocxN kVxN dcxN pmxN cdxN ctxN : Value} {odxN anxN : Option Addr} {slxN : Array (Option Value)}
    {CI fxI NNI : Addr} {nmI qnI : Str} {bsI bmI subI : List Value} {snI : List Str} {abI : Bool} {coI : Option Bool} {ddI : Option Addr} {m0I m1I m2I m3I m5I : Option Value}
    {ocxI kVxI dcxI pmxI cdxI ctxI : Value} {odxI anxI : Option Addr} {slxI : Array (Option Value)}
    {CT fxT NNT : Addr} {nmT qnT : Str} {bsT bmT subT : List Value} {snT : List Str} {abT : Bool} {coT : Option Bool} {ddT : Option Addr} {m0T m1T m2T m3T m5T : Option Value}
    {ocxT kVxT dcxT pmxT cdxT ctxT : Value} {odxT anxT : Option Addr} {slxT : Array (Option Value)}
    {CM : Addr}
    {CX : Addr}
    {CW : Addr}
    {N pIC gIC : Addr} {restIC : List Value} {t1 t2 t3 t4 : Tok}
    {ocIC kVIC dcIC pmIC cdIC ctIC : Value} {odIC anIC : Option Addr} {slIC : Array (Option Value)}
    {fNI : Addr}
    {CP iniP ccP cdaP : Addr}
    {Dk : Addr} {tD : Tok}
    {oSP dSP pSP tSP kc_P o1P : Value} {qSP nSP_ dc_P o2P : Option Addr} {sSP lc_P o3P : Array (Option Value)} {vsP : Array Value} {fileP : Str} {tkP : Tok}
    {CR iniR ccR cdaR : Addr}
    {kVRing : Value} {tL : Tok}
    {oSR dSR pSR tSR kc_R o1R : Value} {qSR nSR_ dc_R o2R : Option Addr} {sSR lc_R o3R : Array (Option Value)} {vsR : Array Value} {fileR : Str} {tkR : Tok}
    {ocNI kVNI dcNI pmNI cdNI ctNI : Value} {odNI anNI : Option Addr} {slNI : Array (Option Value)}
    {qisrP : Addr}
    {ocMisrP kVMisrP dcMisrP pmMisrP cdMisrP ctMisrP : Value} {odMisrP anMisrP : Option Addr} {slMisrP : Array (Option Value)}
    {qisrR : Addr}
    {ocMisrR kVMisrR dcMisrR pmMisrR cdMisrR ctMisrR : Value} {odMisrR anMisrR : Option Addr} {slMisrR : Array (Option Value)}
    {dK : Addr} {tMD tK0 tK1 : Tok} {esK : Array DictEntry} {nKg : Nat}
    (z_isi : PySem.W.nsIn K mainGlobals "isinstance" = some none)
    (z_int : PySem.W.nsIn K mainGlobals "int" = some none)
    (z_bool : PySem.W.nsIn K mainGlobals "bool" = some none)
    (z_tuple : PySem.W.nsIn K mainGlobals "tuple" = some none)
    (z_list : PySem.W.nsIn K mainGlobals "list" = some none)
    (z_str : PySem.W.nsIn K mainGlobals "str" = some none)
    (z_len : PySem.W.nsIn K mainGlobals "len" = some none)
    (z_range : PySem.W.nsIn K mainGlobals "range" = some none)
    (z_sorted : PySem.W.nsIn K mainGlobals "sorted" = some none)
    (z_enum : PySem.W.nsIn K mainGlobals "enumerate" = some none)
    (z_sum : PySem.W.nsIn K mainGlobals "sum" = some none)
    (z_all : PySem.W.nsIn K mainGlobals "all" = some none)
    (z_max : PySem.W.nsIn K mainGlobals "max" = some none)
    (z_min : PySem.W.nsIn K mainGlobals "min" = some none)
    (z_verr : PySem.W.nsIn K mainGlobals "ValueError" = some none)
    (z_sup : PySem.W.nsIn K mainGlobals "super" = some none)
    (abtw : PySem.W.nsIn K mainGlobals "is_between" = some (some (.ref fbtw)))
    (lbtw : K.lookup fbtw = some ⟨ocbtw, odbtw, .func (PySem.W.fnOf "is_between" "is_between" (defArgs s_is_between) (defBody s_is_between) (defScope s_is_between) .none kVbtw dcbtw pmbtw anbtw cdbtw ctbtw), slbtw⟩)
    (cbtw : PySem.W.codeIn K cdbtw "is_between" = true)
    (kbtw : PySem.W.keepIn K (.ref fbtw) = true)
    (achk : PySem.W.nsIn K mainGlobals "check_number" = some (some (.ref fchk)))
    (lchk : K.lookup fchk = some ⟨occhk, odchk, .func (PySem.W.fnOf "check_number" "check_number" (defArgs s_check_number) (defBody s_check_number) (defScope s_check_number) .none kVchk dcchk pmchk anchk cdchk ctchk), slchk⟩)
    (cchk : PySem.W.codeIn K cdchk "check_number" = true)
    (kchk : PySem.W.keepIn K (.ref fchk) = true)
    (anat : PySem.W.nsIn K mainGlobals "_numbers_at" = some (some (.ref fnat)))
    (lnat : K.lookup fnat = some ⟨ocnat, odnat, .func (PySem.W.fnOf "_numbers_at" "_numbers_at" (defArgs s_numbers_at) (defBody s_numbers_at) (defScope s_numbers_at) .none kVnat dcnat pmnat annat cdnat ctnat), slnat⟩)
    (cnat : PySem.W.codeIn K cdnat "_numbers_at" = true)
    (knat : PySem.W.keepIn K (.ref fnat) = true)
    (ajoi : PySem.W.nsIn K mainGlobals "_joins_two_stages" = some (some (.ref fjoi)))
    (ljoi : K.lookup fjoi = some ⟨ocjoi, odjoi, .func (PySem.W.fnOf "_joins_two_stages" "_joins_two_stages" (defArgs s_joins_two_stages) (defBody s_joins_two_stages) (defScope s_joins_two_stages) .none kVjoi dcjoi pmjoi anjoi cdjoi ctjoi), sljoi⟩)
    (cjoi : PySem.W.codeIn K cdjoi "_joins_two_stages" = true)
    (kjoi : PySem.W.keepIn K (.ref fjoi) = true)
    (acir : PySem.W.nsIn K mainGlobals "has_circle" = some (some (.ref fcir)))
    (lcir : K.lookup fcir = some ⟨occir, odcir, .func (PySem.W.fnOf "has_circle" "has_circle" (defArgs s_has_circle) (defBody s_has_circle) (defScope s_has_circle) .none kVcir dccir pmcir ancir cdcir ctcir), slcir⟩)
    (ccir : PySem.W.codeIn K cdcir "has_circle" = true)
    (kcir : PySem.W.keepIn K (.ref fcir) = true)
    (acch : PySem.W.nsIn K mainGlobals "_check_channels" = some (some (.ref fcch)))
    (lcch : K.lookup fcch = some ⟨occch, odcch, .func (PySem.W.fnOf "_check_channels" "_check_channels" (defArgs s_check_channels) (defBody s_check_channels) (defScope s_check_channels) .none kVcch dccch pmcch ancch cdcch ctcch), slcch⟩)
    (ccch : PySem.W.codeIn K cdcch "_check_channels" = true)
    (kcch : PySem.W.keepIn K (.ref fcch) = true)
    (awic : PySem.W.nsIn K mainGlobals "_with_capacity" = some (some (.ref fwic)))
    (lwic : K.lookup fwic = some ⟨ocwic, odwic, .func (PySem.W.fnOf "_with_capacity" "_with_capacity" (defArgs s_with_capacity) (defBody s_with_capacity) (defScope s_with_capacity) .none kVwic dcwic pmwic anwic cdwic ctwic), slwic⟩)
    (cwic : PySem.W.codeIn K cdwic "_with_capacity" = true)
    (kwic : PySem.W.keepIn K (.ref fwic) = true)
    (ardn : PySem.W.nsIn K mainGlobals "read_net" = some (some (.ref frdn)))
    (lrdn : K.lookup frdn = some ⟨ocrdn, odrdn, .func (PySem.W.fnOf "read_net" "read_net" (defArgs s_read_net) (defBody s_read_net) (defScope s_read_net) .none kVrdn dcrdn pmrdn anrdn cdrdn ctrdn), slrdn⟩)
    (crdn : PySem.W.codeIn K cdrdn "read_net" = true)
    (krdn : PySem.W.keepIn K (.ref frdn) = true)
    (ards : PySem.W.nsIn K mainGlobals "read_state" = some (some (.ref frds)))
    (lrds : K.lookup frds = some ⟨ocrds, odrds, .func (PySem.W.fnOf "read_state" "read_state" (defArgs s_read_state) (defBody s_read_state) (defScope s_read_state) .none kVrds dcrds pmrds anrds cdrds ctrds), slrds⟩)
    (crds : PySem.W.codeIn K cdrds "read_state" = true)
    (krds : PySem.W.keepIn K (.ref frds) = true)
    (ardm : PySem.W.nsIn K mainGlobals "read_moves" = some (some (.ref frdm)))
    (lrdm : K.lookup frdm = some ⟨ocrdm, odrdm, .func (PySem.W.fnOf "read_moves" "read_moves" (defArgs s_read_moves) (defBody s_read_moves) (defScope s_read_moves) .none kVrdm dcrdm pmrdm anrdm cdrdm ctrdm), slrdm⟩)
    (crdm : PySem.W.codeIn K cdrdm "read_moves" = true)
    (krdm : PySem.W.keepIn K (.ref frdm) = true)
    (anum : PySem.W.nsIn K mainGlobals "_number" = some (some (.ref fnum)))
    (lnum : K.lookup fnum = some ⟨ocnum, odnum, .func (PySem.W.fnOf "_number" "_number" (defArgs s_number) (defBody s_number) (defScope s_number) .none kVnum dcnum pmnum annum cdnum ctnum), slnum⟩)
    (cnum : PySem.W.codeIn K cdnum "_number" = true)
    (knum : PySem.W.keepIn K (.ref fnum) = true)
    (arhd : PySem.W.nsIn K mainGlobals "_read_head" = some (some (.ref frhd)))
    (lrhd : K.lookup frhd = some ⟨ocrhd, odrhd, .func (PySem.W.fnOf "_read_head" "_read_head" (defArgs s_read_head) (defBody s_read_head) (defScope s_read_head) .none kVrhd dcrhd pmrhd anrhd cdrhd ctrhd), slrhd⟩)
    (crhd : PySem.W.codeIn K cdrhd "_read_head" = true)
    (krhd : PySem.W.keepIn K (.ref frhd) = true)
    (arch : PySem.W.nsIn K mainGlobals "_read_channel" = some (some (.ref frch)))
    (lrch : K.lookup frch = some ⟨ocrch, odrch, .func (PySem.W.fnOf "_read_channel" "_read_channel" (defArgs s_read_channel) (defBody s_read_channel) (defScope s_read_channel) .none kVrch dcrch pmrch anrch cdrch ctrch), slrch⟩)
    (crch : PySem.W.codeIn K cdrch "_read_channel" = true)
    (krch : PySem.W.keepIn K (.ref frch) = true)
    (arpi : PySem.W.nsIn K mainGlobals "_read_pipeline" = some (some (.ref frpi)))
    (lrpi : K.lookup frpi = some ⟨ocrpi, odrpi, .func (PySem.W.fnOf "_read_pipeline" "_read_pipeline" (defArgs s_read_pipeline) (defBody s_read_pipeline) (defScope s_read_pipeline) .none kVrpi dcrpi pmrpi anrpi cdrpi ctrpi), slrpi⟩)
    (crpi : PySem.W.codeIn K cdrpi "_read_pipeline" = true)
    (krpi : PySem.W.keepIn K (.ref frpi) = true)
    (arri : PySem.W.nsIn K mainGlobals "_read_ring" = some (some (.ref frri)))
    (lrri : K.lookup frri = some ⟨ocrri, odrri, .func (PySem.W.fnOf "_read_ring" "_read_ring" (defArgs s_read_ring) (defBody s_read_ring) (defScope s_read_ring) .none kVrri dcrri pmrri anrri cdrri ctrri), slrri⟩)
    (crri : PySem.W.codeIn K cdrri "_read_ring" = true)
    (krri : PySem.W.keepIn K (.ref frri) = true)
    (acel : PySem.W.nsIn K mainGlobals "_law_cell" = some (some (.ref fcel)))
    (lcel : K.lookup fcel = some ⟨occel, odcel, .func (PySem.W.fnOf "_law_cell" "_law_cell" (defArgs s_law_cell) (defBody s_law_cell) (defScope s_law_cell) .none kVcel dccel pmcel ancel cdcel ctcel), slcel⟩)
    (ccel : PySem.W.codeIn K cdcel "_law_cell" = true)
    (kcel : PySem.W.keepIn K (.ref fcel) = true)
    (abag : PySem.W.nsIn K mainGlobals "_law_bag" = some (some (.ref fbag)))
    (lbag : K.lookup fbag = some ⟨ocbag, odbag, .func (PySem.W.fnOf "_law_bag" "_law_bag" (defArgs s_law_bag) (defBody s_law_bag) (defScope s_law_bag) .none kVbag dcbag pmbag anbag cdbag ctbag), slbag⟩)
    (cbag : PySem.W.codeIn K cdbag "_law_bag" = true)
    (kbag : PySem.W.keepIn K (.ref fbag) = true)
    (adra : PySem.W.nsIn K mainGlobals "_law_draw" = some (some (.ref fdra)))
    (ldra : K.lookup fdra = some ⟨ocdra, oddra, .func (PySem.W.fnOf "_law_draw" "_law_draw" (defArgs s_law_draw) (defBody s_law_draw) (defScope s_law_draw) .none kVdra dcdra pmdra andra cddra ctdra), sldra⟩)
    (cdra : PySem.W.codeIn K cddra "_law_draw" = true)
    (kdra : PySem.W.keepIn K (.ref fdra) = true)
    (asam : PySem.W.nsIn K mainGlobals "_law_same" = some (some (.ref fsam)))
    (lsam : K.lookup fsam = some ⟨ocsam, odsam, .func (PySem.W.fnOf "_law_same" "_law_same" (defArgs s_law_same) (defBody s_law_same) (defScope s_law_same) .none kVsam dcsam pmsam ansam cdsam ctsam), slsam⟩)
    (csam : PySem.W.codeIn K cdsam "_law_same" = true)
    (ksam : PySem.W.keepIn K (.ref fsam) = true)
    (asar : PySem.W.nsIn K mainGlobals "_law_same_row" = some (some (.ref fsar)))
    (lsar : K.lookup fsar = some ⟨ocsar, odsar, .func (PySem.W.fnOf "_law_same_row" "_law_same_row" (defArgs s_law_same_row) (defBody s_law_same_row) (defScope s_law_same_row) .none kVsar dcsar pmsar ansar cdsar ctsar), slsar⟩)
    (csar : PySem.W.codeIn K cdsar "_law_same_row" = true)
    (ksar : PySem.W.keepIn K (.ref fsar) = true)
    (asrs : PySem.W.nsIn K mainGlobals "_law_same_rows" = some (some (.ref fsrs)))
    (lsrs : K.lookup fsrs = some ⟨ocsrs, odsrs, .func (PySem.W.fnOf "_law_same_rows" "_law_same_rows" (defArgs s_law_same_rows) (defBody s_law_same_rows) (defScope s_law_same_rows) .none kVsrs dcsrs pmsrs ansrs cdsrs ctsrs), slsrs⟩)
    (csrs : PySem.W.codeIn K cdsrs "_law_same_rows" = true)
    (ksrs : PySem.W.keepIn K (.ref fsrs) = true)
    (aord : PySem.W.nsIn K mainGlobals "_law_order" = some (some (.ref ford)))
    (lord : K.lookup ford = some ⟨ocord, odord, .func (PySem.W.fnOf "_law_order" "_law_order" (defArgs s_law_order) (defBody s_law_order) (defScope s_law_order) .none kVord dcord pmord anord cdord ctord), slord⟩)
    (cord : PySem.W.codeIn K cdord "_law_order" = true)
    (kord : PySem.W.keepIn K (.ref ford) = true)
    (asiz : PySem.W.nsIn K mainGlobals "_law_size" = some (some (.ref fsiz)))
    (lsiz : K.lookup fsiz = some ⟨ocsiz, odsiz, .func (PySem.W.fnOf "_law_size" "_law_size" (defArgs s_law_size) (defBody s_law_size) (defScope s_law_size) .none kVsiz dcsiz pmsiz ansiz cdsiz ctsiz), slsiz⟩)
    (csiz : PySem.W.codeIn K cdsiz "_law_size" = true)
    (ksiz : PySem.W.keepIn K (.ref fsiz) = true)
    (alin : PySem.W.nsIn K mainGlobals "_law_links" = some (some (.ref flin)))
    (llin : K.lookup flin = some ⟨oclin, odlin, .func (PySem.W.fnOf "_law_links" "_law_links" (defArgs s_law_links) (defBody s_law_links) (defScope s_law_links) .none kVlin dclin pmlin anlin cdlin ctlin), sllin⟩)
    (clin : PySem.W.codeIn K cdlin "_law_links" = true)
    (klin : PySem.W.keepIn K (.ref flin) = true)
    (awor : PySem.W.nsIn K mainGlobals "_law_world" = some (some (.ref fwor)))
    (lwor : K.lookup fwor = some ⟨ocwor, odwor, .func (PySem.W.fnOf "_law_world" "_law_world" (defArgs s_law_world) (defBody s_law_world) (defScope s_law_world) .none kVwor dcwor pmwor anwor cdwor ctwor), slwor⟩)
    (cwor : PySem.W.codeIn K cdwor "_law_world" = true)
    (kwor : PySem.W.keepIn K (.ref fwor) = true)
    (antx : PySem.W.nsIn K mainGlobals "_law_net_text" = some (some (.ref fntx)))
    (lntx : K.lookup fntx = some ⟨ocntx, odntx, .func (PySem.W.fnOf "_law_net_text" "_law_net_text" (defArgs s_law_net_text) (defBody s_law_net_text) (defScope s_law_net_text) .none kVntx dcntx pmntx anntx cdntx ctntx), slntx⟩)
    (cntx : PySem.W.codeIn K cdntx "_law_net_text" = true)
    (kntx : PySem.W.keepIn K (.ref fntx) = true)
    (astx : PySem.W.nsIn K mainGlobals "_law_state_text" = some (some (.ref fstx)))
    (lstx : K.lookup fstx = some ⟨ocstx, odstx, .func (PySem.W.fnOf "_law_state_text" "_law_state_text" (defArgs s_law_state_text) (defBody s_law_state_text) (defScope s_law_state_text) .none kVstx dcstx pmstx anstx cdstx ctstx), slstx⟩)
    (cstx : PySem.W.codeIn K cdstx "_law_state_text" = true)
    (kstx : PySem.W.keepIn K (.ref fstx) = true)
    (amtx : PySem.W.nsIn K mainGlobals "_law_moves_text" = some (some (.ref fmtx)))
    (lmtx : K.lookup fmtx = some ⟨ocmtx, odmtx, .func (PySem.W.fnOf "_law_moves_text" "_law_moves_text" (defArgs s_law_moves_text) (defBody s_law_moves_text) (defScope s_law_moves_text) .none kVmtx dcmtx pmmtx anmtx cdmtx ctmtx), slmtx⟩)
    (cmtx : PySem.W.codeIn K cdmtx "_law_moves_text" = true)
    (kmtx : PySem.W.keepIn K (.ref fmtx) = true)
    (aprs : PySem.W.nsIn K mainGlobals "_law_pairs" = some (some (.ref fprs)))
    (lprs : K.lookup fprs = some ⟨ocprs, odprs, .func (PySem.W.fnOf "_law_pairs" "_law_pairs" (defArgs s_law_pairs) (defBody s_law_pairs) (defScope s_law_pairs) .none kVprs dcprs pmprs anprs cdprs ctprs), slprs⟩)
    (cprs : PySem.W.codeIn K cdprs "_law_pairs" = true)
    (kprs : PySem.W.keepIn K (.ref fprs) = true)
    (alnu : PySem.W.nsIn K mainGlobals "_law_number" = some (some (.ref flnu)))
    (llnu : K.lookup flnu = some ⟨oclnu, odlnu, .func (PySem.W.fnOf "_law_number" "_law_number" (defArgs s_law_number) (defBody s_law_number) (defScope s_law_number) .none kVlnu dclnu pmlnu anlnu cdlnu ctlnu), sllnu⟩)
    (clnu : PySem.W.codeIn K cdlnu "_law_number" = true)
    (klnu : PySem.W.keepIn K (.ref flnu) = true)
    (allk : PySem.W.nsIn K mainGlobals "_law_link" = some (some (.ref fllk)))
    (lllk : K.lookup fllk = some ⟨ocllk, odllk, .func (PySem.W.fnOf "_law_link" "_law_link" (defArgs s_law_link) (defBody s_law_link) (defScope s_law_link) .none kVllk dcllk pmllk anllk cdllk ctllk), slllk⟩)
    (cllk : PySem.W.codeIn K cdllk "_law_link" = true)
    (kllk : PySem.W.keepIn K (.ref fllk) = true)
    (alea : PySem.W.nsIn K mainGlobals "_law_leads" = some (some (.ref flea)))
    (llea : K.lookup flea = some ⟨oclea, odlea, .func (PySem.W.fnOf "_law_leads" "_law_leads" (defArgs s_law_leads) (defBody s_law_leads) (defScope s_law_leads) .none kVlea dclea pmlea anlea cdlea ctlea), sllea⟩)
    (clea : PySem.W.codeIn K cdlea "_law_leads" = true)
    (klea : PySem.W.keepIn K (.ref flea) = true)
    (afit : PySem.W.nsIn K mainGlobals "_law_fits" = some (some (.ref ffit)))
    (lfit : K.lookup ffit = some ⟨ocfit, odfit, .func (PySem.W.fnOf "_law_fits" "_law_fits" (defArgs s_law_fits) (defBody s_law_fits) (defScope s_law_fits) .none kVfit dcfit pmfit anfit cdfit ctfit), slfit⟩)
    (cfit : PySem.W.codeIn K cdfit "_law_fits" = true)
    (kfit : PySem.W.keepIn K (.ref ffit) = true)
    (alrd : PySem.W.nsIn K mainGlobals "_law_read" = some (some (.ref flrd)))
    (llrd : K.lookup flrd = some ⟨oclrd, odlrd, .func (PySem.W.fnOf "_law_read" "_law_read" (defArgs s_law_read) (defBody s_law_read) (defScope s_law_read) .none kVlrd dclrd pmlrd anlrd cdlrd ctlrd), sllrd⟩)
    (clrd : PySem.W.codeIn K cdlrd "_law_read" = true)
    (klrd : PySem.W.keepIn K (.ref flrd) = true)
    (alrs : PySem.W.nsIn K mainGlobals "_law_read_state" = some (some (.ref flrs)))
    (llrs : K.lookup flrs = some ⟨oclrs, odlrs, .func (PySem.W.fnOf "_law_read_state" "_law_read_state" (defArgs s_law_read_state) (defBody s_law_read_state) (defScope s_law_read_state) .none kVlrs dclrs pmlrs anlrs cdlrs ctlrs), sllrs⟩)
    (clrs : PySem.W.codeIn K cdlrs "_law_read_state" = true)
    (klrs : PySem.W.keepIn K (.ref flrs) = true)
    (alrm : PySem.W.nsIn K mainGlobals "_law_read_moves" = some (some (.ref flrm)))
    (llrm : K.lookup flrm = some ⟨oclrm, odlrm, .func (PySem.W.fnOf "_law_read_moves" "_law_read_moves" (defArgs s_law_read_moves) (defBody s_law_read_moves) (defScope s_law_read_moves) .none kVlrm dclrm pmlrm anlrm cdlrm ctlrm), sllrm⟩)
    (clrm : PySem.W.codeIn K cdlrm "_law_read_moves" = true)
    (klrm : PySem.W.keepIn K (.ref flrm) = true)
    (arfw : PySem.W.nsIn K mainGlobals "_law_refused_well" = some (some (.ref frfw)))
    (lrfw : K.lookup frfw = some ⟨ocrfw, odrfw, .func (PySem.W.fnOf "_law_refused_well" "_law_refused_well" (defArgs s_law_refused_well) (defBody s_law_refused_well) (defScope s_law_refused_well) .none kVrfw dcrfw pmrfw anrfw cdrfw ctrfw), slrfw⟩)
    (crfw : PySem.W.codeIn K cdrfw "_law_refused_well" = true)
    (krfw : PySem.W.keepIn K (.ref frfw) = true)
    (asas : PySem.W.nsIn K mainGlobals "_law_state_asked" = some (some (.ref fsas)))
    (lsas : K.lookup fsas = some ⟨ocsas, odsas, .func (PySem.W.fnOf "_law_state_asked" "_law_state_asked" (defArgs s_law_state_asked) (defBody s_law_state_asked) (defScope s_law_state_asked) .none kVsas dcsas pmsas ansas cdsas ctsas), slsas⟩)
    (csas : PySem.W.codeIn K cdsas "_law_state_asked" = true)
    (ksas : PySem.W.keepIn K (.ref fsas) = true)
    (amas : PySem.W.nsIn K mainGlobals "_law_moves_asked" = some (some (.ref fmas)))
    (lmas : K.lookup fmas = some ⟨ocmas, odmas, .func (PySem.W.fnOf "_law_moves_asked" "_law_moves_asked" (defArgs s_law_moves_asked) (defBody s_law_moves_asked) (defScope s_law_moves_asked) .none kVmas dcmas pmmas anmas cdmas ctmas), slmas⟩)
    (cmas : PySem.W.codeIn K cdmas "_law_moves_asked" = true)
    (kmas : PySem.W.keepIn K (.ref fmas) = true)
    (acha : PySem.W.nsIn K mainGlobals "_law_char_spoilt" = some (some (.ref fcha)))
    (lcha : K.lookup fcha = some ⟨occha, odcha, .func (PySem.W.fnOf "_law_char_spoilt" "_law_char_spoilt" (defArgs s_law_char_spoilt) (defBody s_law_char_spoilt) (defScope s_law_char_spoilt) .none kVcha dccha pmcha ancha cdcha ctcha), slcha⟩)
    (ccha : PySem.W.codeIn K cdcha "_law_char_spoilt" = true)
    (kcha : PySem.W.keepIn K (.ref fcha) = true)
    (alli : PySem.W.nsIn K mainGlobals "_law_line" = some (some (.ref flli)))
    (llli : K.lookup flli = some ⟨oclli, odlli, .func (PySem.W.fnOf "_law_line" "_law_line" (defArgs s_law_line) (defBody s_law_line) (defScope s_law_line) .none kVlli dclli pmlli anlli cdlli ctlli), sllli⟩)
    (clli : PySem.W.codeIn K cdlli "_law_line" = true)
    (klli : PySem.W.keepIn K (.ref flli) = true)
    (alhe : PySem.W.nsIn K mainGlobals "_law_head" = some (some (.ref flhe)))
    (llhe : K.lookup flhe = some ⟨oclhe, odlhe, .func (PySem.W.fnOf "_law_head" "_law_head" (defArgs s_law_head) (defBody s_law_head) (defScope s_law_head) .none kVlhe dclhe pmlhe anlhe cdlhe ctlhe), sllhe⟩)
    (clhe : PySem.W.codeIn K cdlhe "_law_head" = true)
    (klhe : PySem.W.keepIn K (.ref flhe) = true)
    (albe : PySem.W.nsIn K mainGlobals "_law_line_bent" = some (some (.ref flbe)))
    (llbe : K.lookup flbe = some ⟨oclbe, odlbe, .func (PySem.W.fnOf "_law_line_bent" "_law_line_bent" (defArgs s_law_line_bent) (defBody s_law_line_bent) (defScope s_law_line_bent) .none kVlbe dclbe pmlbe anlbe cdlbe ctlbe), sllbe⟩)
    (clbe : PySem.W.codeIn K cdlbe "_law_line_bent" = true)
    (klbe : PySem.W.keepIn K (.ref flbe) = true)
    (alpi : PySem.W.nsIn K mainGlobals "_law_link_put_in" = some (some (.ref flpi)))
    (llpi : K.lookup flpi = some ⟨oclpi, odlpi, .func (PySem.W.fnOf "_law_link_put_in" "_law_link_put_in" (defArgs s_law_link_put_in) (defBody s_law_link_put_in) (defScope s_law_link_put_in) .none kVlpi dclpi pmlpi anlpi cdlpi ctlpi), sllpi⟩)
    (clpi : PySem.W.codeIn K cdlpi "_law_link_put_in" = true)
    (klpi : PySem.W.keepIn K (.ref flpi) = true)
    (alsp : PySem.W.nsIn K mainGlobals "_law_lines_spoilt" = some (some (.ref flsp)))
    (llsp : K.lookup flsp = some ⟨oclsp, odlsp, .func (PySem.W.fnOf "_law_lines_spoilt" "_law_lines_spoilt" (defArgs s_law_lines_spoilt) (defBody s_law_lines_spoilt) (defScope s_law_lines_spoilt) .none kVlsp dclsp pmlsp anlsp cdlsp ctlsp), sllsp⟩)
    (clsp : PySem.W.codeIn K cdlsp "_law_lines_spoilt" = true)
    (klsp : PySem.W.keepIn K (.ref flsp) = true)
    (awsp : PySem.W.nsIn K mainGlobals "_law_words_spoilt" = some (some (.ref fwsp)))
    (lwsp : K.lookup fwsp = some ⟨ocwsp, odwsp, .func (PySem.W.fnOf "_law_words_spoilt" "_law_words_spoilt" (defArgs s_law_words_spoilt) (defBody s_law_words_spoilt) (defScope s_law_words_spoilt) .none kVwsp dcwsp pmwsp anwsp cdwsp ctwsp), slwsp⟩)
    (cwsp : PySem.W.codeIn K cdwsp "_law_words_spoilt" = true)
    (kwsp : PySem.W.keepIn K (.ref fwsp) = true)
    (alar : PySem.W.nsIn K mainGlobals "_law_large" = some (some (.ref flar)))
    (llar : K.lookup flar = some ⟨oclar, odlar, .func (PySem.W.fnOf "_law_large" "_law_large" (defArgs s_law_large) (defBody s_law_large) (defScope s_law_large) .none kVlar dclar pmlar anlar cdlar ctlar), sllar⟩)
    (clar : PySem.W.codeIn K cdlar "_law_large" = true)
    (klar : PySem.W.keepIn K (.ref flar) = true)
    (afre : PySem.W.nsIn K mainGlobals "_law_free" = some (some (.ref ffre)))
    (lfre : K.lookup ffre = some ⟨ocfre, odfre, .func (PySem.W.fnOf "_law_free" "_law_free" (defArgs s_law_free) (defBody s_law_free) (defScope s_law_free) .none kVfre dcfre pmfre anfre cdfre ctfre), slfre⟩)
    (cfre : PySem.W.codeIn K cdfre "_law_free" = true)
    (kfre : PySem.W.keepIn K (.ref ffre) = true)
    (anro : PySem.W.nsIn K mainGlobals "_law_nets_round" = some (some (.ref fnro)))
    (lnro : K.lookup fnro = some ⟨ocnro, odnro, .func (PySem.W.fnOf "_law_nets_round" "_law_nets_round" (defArgs s_law_nets_round) (defBody s_law_nets_round) (defScope s_law_nets_round) .none kVnro dcnro pmnro annro cdnro ctnro), slnro⟩)
    (cnro : PySem.W.codeIn K cdnro "_law_nets_round" = true)
    (knro : PySem.W.keepIn K (.ref fnro) = true)
    (awro : PySem.W.nsIn K mainGlobals "_law_words_round" = some (some (.ref fwro)))
    (lwro : K.lookup fwro = some ⟨ocwro, odwro, .func (PySem.W.fnOf "_law_words_round" "_law_words_round" (defArgs s_law_words_round) (defBody s_law_words_round) (defScope s_law_words_round) .none kVwro dcwro pmwro anwro cdwro ctwro), slwro⟩)
    (cwro : PySem.W.codeIn K cdwro "_law_words_round" = true)
    (kwro : PySem.W.keepIn K (.ref fwro) = true)
    (arou : PySem.W.nsIn K mainGlobals "_law_round" = some (some (.ref frou)))
    (lrou : K.lookup frou = some ⟨ocrou, odrou, .func (PySem.W.fnOf "_law_round" "_law_round" (defArgs s_law_round) (defBody s_law_round) (defScope s_law_round) .none kVrou dcrou pmrou anrou cdrou ctrou), slrou⟩)
    (crou : PySem.W.codeIn K cdrou "_law_round" = true)
    (krou : PySem.W.keepIn K (.ref frou) = true)
    (alaw : PySem.W.nsIn K mainGlobals "law" = some (some (.ref flaw)))
    (llaw : K.lookup flaw = some ⟨oclaw, odlaw, .func (PySem.W.fnOf "law" "law" (defArgs s_law) (defBody s_law) (defScope s_law) .none kVlaw dclaw pmlaw anlaw cdlaw ctlaw), sllaw⟩)
    (claw : PySem.W.codeIn K cdlaw "law" = true)
    (klaw : PySem.W.keepIn K (.ref flaw) = true)
    (aN : PySem.W.nsIn K mainGlobals "NotFound" = some (some (.ref CN)))
    (xN : K.lookup CN = some (excClassObj nmN qnN CN NNN bsN bmN true snN subN abN coN ddN m0N m1N m2N m3N m5N "ValueError.__new__"))
    (rbN : PySem.HandSPX.refsVE bmN = true)
    (saN : PySem.W.findIn K (.ref CN) "__setattr__" = some (some (.builtin "object.__setattr__")))
    (ebN : PySem.W.subIn K (.ref CN) (.type "BaseException") = some true)
    (tyN : PySem.W.typeIn K (.ref CN) = some (.type "type"))
    (kcN : PySem.W.keepIn K (.ref CN) = true)
    (inN : PySem.W.findIn K (.ref CN) "__init__" = some (some (.ref fxN)))
    (tfN : PySem.W.typeIn K (.ref fxN) = some (.type "function"))
    (lxN : K.lookup fxN = some ⟨ocxN, odxN, .func (PySem.W.fnOf "__init__" "NotFound.__init__" (defArgs s_NotFound_init) (defBody s_NotFound_init) (defScope s_NotFound_init) .none kVxN dcxN pmxN anxN cdxN ctxN), slxN⟩)
    (cxN : PySem.W.codeIn K cdxN "NotFound.__init__" = true)
    (kxN : PySem.W.keepIn K (.ref fxN) = true)
    (noN_number : PySem.W.findIn K (.ref CN) "number" = some none)
    (aI : PySem.W.nsIn K mainGlobals "InvalidNet" = some (some (.ref CI)))
    (xI : K.lookup CI = some (excClassObj nmI qnI CI NNI bsI bmI true snI subI abI coI ddI m0I m1I m2I m3I m5I "ValueError.__new__"))
    (rbI : PySem.HandSPX.refsVE bmI = true)
    (saI : PySem.W.findIn K (.ref CI) "__setattr__" = some (some (.builtin "object.__setattr__")))
    (ebI : PySem.W.subIn K (.ref CI) (.type "BaseException") = some true)
    (tyI : PySem.W.typeIn K (.ref CI) = some (.type "type"))
    (kcI : PySem.W.keepIn K (.ref CI) = true)
    (inI : PySem.W.findIn K (.ref CI) "__init__" = some (some (.ref fxI)))
    (tfI : PySem.W.typeIn K (.ref fxI) = some (.type "function"))
    (lxI : K.lookup fxI = some ⟨ocxI, odxI, .func (PySem.W.fnOf "__init__" "InvalidNet.__init__" (defArgs s_InvalidNet_init) (defBody s_InvalidNet_init) (defScope s_InvalidNet_init) .none kVxI dcxI pmxI anxI cdxI ctxI), slxI⟩)
    (cxI : PySem.W.codeIn K cdxI "InvalidNet.__init__" = true)
    (kxI : PySem.W.keepIn K (.ref fxI) = true)
    (noI_reason : PySem.W.findIn K (.ref CI) "reason" = some none)
    (noI_position : PySem.W.findIn K (.ref CI) "position" = some none)
    (aT : PySem.W.nsIn K mainGlobals "InvalidText" = some (some (.ref CT)))
    (xT : K.lookup CT = some (excClassObj nmT qnT CT NNT bsT bmT true snT subT abT coT ddT m0T m1T m2T m3T m5T "ValueError.__new__"))
    (rbT : PySem.HandSPX.refsVE bmT = true)
    (saT : PySem.W.findIn K (.ref CT) "__setattr__" = some (some (.builtin "object.__setattr__")))
    (ebT : PySem.W.subIn K (.ref CT) (.type "BaseException") = some true)
    (tyT : PySem.W.typeIn K (.ref CT) = some (.type "type"))
    (kcT : PySem.W.keepIn K (.ref CT) = true)
    (inT : PySem.W.findIn K (.ref CT) "__init__" = some (some (.ref fxT)))
    (tfT : PySem.W.typeIn K (.ref fxT) = some (.type "function"))
    (lxT : K.lookup fxT = some ⟨ocxT, odxT, .func (PySem.W.fnOf "__init__" "InvalidText.__init__" (defArgs s_InvalidText_init) (defBody s_InvalidText_init) (defScope s_InvalidText_init) .none kVxT dcxT pmxT anxT cdxT ctxT), slxT⟩)
    (cxT : PySem.W.codeIn K cdxT "InvalidText.__init__" = true)
    (kxT : PySem.W.keepIn K (.ref fxT) = true)
    (noT_line : PySem.W.findIn K (.ref CT) "line" = some none)
    (aM : PySem.W.nsIn K mainGlobals "InvalidMove" = some (some (.ref CM)))
    (aX : PySem.W.nsIn K mainGlobals "InvalidState" = some (some (.ref CX)))
    (aW : PySem.W.nsIn K mainGlobals "WithinCallError" = some (some (.ref CW)))
    (e_hn : PySem.W.specialIn K (.builtin "object.__class__") "__get__" = some (some (.builtin "getset_descriptor.__get__")))
    (e_ht : PySem.W.takesIn K (.builtin "object.__class__") = some true)
    (e_hgT : PySem.W.findIn K (.ref CT) "__getattribute__" = some (some (.builtin "BaseException.__getattribute__")))
    (e_hkT : PySem.W.findIn K (.ref CT) "__getattr__" = some none)
    (e_hdT : PySem.W.hasDictIn K CT = true)
    (e_haT : PySem.W.findIn K (.ref CT) "__class__" = some (some (.builtin "object.__class__")))
    (e_hmT : PySem.W.mroIn K CT (.type "object") = some true)
    (exm_TW : PySem.W.exmOne K (.ref CT) (.ref CW) = some true)
    (exm_TT : PySem.W.exmOne K (.ref CT) (.ref CT) = some true)
    (kit_TT : PySem.W.kitOne K (.ref CT) (.ref CT) = some true)
    (kit_TX : PySem.W.kitOne K (.ref CT) (.ref CX) = some false)
    (kit_TM : PySem.W.kitOne K (.ref CT) (.ref CM) = some false)
    (kit_TV : PySem.W.kitOne K (.ref CT) (.type "ValueError") = some true)
    (tA_ : PySem.W.kitAny K (.ref CT) [.ref CM, .ref CI, .ref CX, .ref CN] = some false)
    (aNet : PySem.W.nsIn K mainGlobals "Net" = some (some (.ref N)))
    (rdN : PySem.W.readsIn K N (.type "type") = true)
    (gaN : PySem.W.specialIn K (.ref N) "__getattribute__" = some (some (.builtin "type.__getattribute__")))
    (cv1 : PySem.W.findCls K (.ref N) (.type "type") "MOST_STAGES" = some (.val (.int 40 t1)))
    (cv2 : PySem.W.findCls K (.ref N) (.type "type") "MOST_CHANNELS" = some (.val (.int 120 t2)))
    (cv3 : PySem.W.findCls K (.ref N) (.type "type") "MOST_CAPACITY" = some (.val (.int 999 t3)))
    (cv4 : PySem.W.findCls K (.ref N) (.type "type") "MOST_COUNTER" = some (.val (.int 999 t4)))
    (fIC : PySem.W.findCls K (.ref N) (.type "type") "is_capacity" = some (.get (.builtin "staticmethod.__get__") (.ref pIC) .none (.ref N)))
    (rIC : PySem.W.recIn K pIC "staticmethod" = some (.ref gIC :: restIC))
    (lIC : K.lookup gIC = some ⟨ocIC, odIC, .func (PySem.W.fnOf "is_capacity" "Net.is_capacity" (defArgs s_Net_is_capacity) (defBody s_Net_is_capacity) (defScope s_Net_is_capacity) .none kVIC dcIC pmIC anIC cdIC ctIC), slIC⟩)
    (cIC : PySem.W.codeIn K cdIC "Net.is_capacity" = true)
    (kIC : PySem.W.keepIn K (.ref gIC) = true)
    (aP : PySem.W.nsIn K mainGlobals "Pipeline" = some (some (.ref CP)))
    (pgP : PySem.W.plainGet K CP Str.empty = true)
    (hdP : PySem.W.hasDictIn K CP = true)
    (poP : PySem.W.plainOver K CP = true)
    (stP : PySem.W.findIn K (.ref CP) "__setattr__" = some (some (.builtin "object.__setattr__")))
    (nSP : PySem.W.findIn K (.ref CP) "stages" = some none)
    (nCP : PySem.W.findIn K (.ref CP) "channels" = some none)
    (nJP : PySem.W.findIn K (.ref CP) "_incoming" = some none)
    (nOP : PySem.W.findIn K (.ref CP) "_outgoing" = some none)
    (mkP : PySem.W.makesIn K CP = true)
    (keP : PySem.W.keepIn K (.ref CP) = true)
    (itP : PySem.W.findIn K (.ref CP) "__init__" = some (some (.ref iniP)))
    (ifP : PySem.W.isFn K (.ref iniP) = true)
    (sl_P : K.lookup iniP = some ⟨oSP, qSP, .func (PySem.W.fnX "__init__" "Pipeline.__init__" (defArgs s_Pipeline_init) (defBody s_Pipeline_init) (defScope s_Pipeline_init) [(cls_, ccP)] .none (.ref Dk) dSP pSP nSP_ (.ref cdaP) tSP), sSP⟩)
    (sc_P : PySem.W.codeIn K (.ref cdaP) "Pipeline.__init__" = true)
    (ce_P : K.lookup ccP = some ⟨kc_P, dc_P, .cell (some (.ref CP)), lc_P⟩)
    (co_P : K.lookup cdaP = some ⟨o1P, o2P, .fields vsP, o3P⟩)
    (fi_P : vsP[2]? = some (.str fileP tkP))
    (fe_P : ((PySem.Challenge.pw_withincall_k08_whole_texts_refused.main.file : Str) == fileP) = true)
    (di_P : (PySem.W.clsIn K CP).isSome = true)
    (mr_P : PySem.W.mroIn K CP (.ref CP) = some true)
    (ks_P : PySem.W.ks_superIn K CP CP "__init__" = some (some (.ref fNI)))
    (aR : PySem.W.nsIn K mainGlobals "Ring" = some (some (.ref CR)))
    (pgR : PySem.W.plainGet K CR Str.empty = true)
    (hdR : PySem.W.hasDictIn K CR = true)
    (poR : PySem.W.plainOver K CR = true)
    (stR : PySem.W.findIn K (.ref CR) "__setattr__" = some (some (.builtin "object.__setattr__")))
    (nSR : PySem.W.findIn K (.ref CR) "stages" = some none)
    (nCR : PySem.W.findIn K (.ref CR) "channels" = some none)
    (nJR : PySem.W.findIn K (.ref CR) "_incoming" = some none)
    (nOR : PySem.W.findIn K (.ref CR) "_outgoing" = some none)
    (mkR : PySem.W.makesIn K CR = true)
    (keR : PySem.W.keepIn K (.ref CR) = true)
    (itR : PySem.W.findIn K (.ref CR) "__init__" = some (some (.ref iniR)))
    (ifR : PySem.W.isFn K (.ref iniR) = true)
    (sl_R : K.lookup iniR = some ⟨oSR, qSR, .func (PySem.W.fnX "__init__" "Ring.__init__" (defArgs s_Ring_init) (defBody s_Ring_init) (defScope s_Ring_init) [(cls_, ccR)] .none kVRing dSR pSR nSR_ (.ref cdaR) tSR), sSR⟩)
    (sc_R : PySem.W.codeIn K (.ref cdaR) "Ring.__init__" = true)
    (ce_R : K.lookup ccR = some ⟨kc_R, dc_R, .cell (some (.ref CR)), lc_R⟩)
    (co_R : K.lookup cdaR = some ⟨o1R, o2R, .fields vsR, o3R⟩)
    (fi_R : vsR[2]? = some (.str fileR tkR))
    (fe_R : ((PySem.Challenge.pw_withincall_k08_whole_texts_refused.main.file : Str) == fileR) = true)
    (di_R : (PySem.W.clsIn K CR).isSome = true)
    (mr_R : PySem.W.mroIn K CR (.ref CR) = some true)
    (ks_R : PySem.W.ks_superIn K CR CR "__init__" = some (some (.ref fNI)))
    (opq : PySem.W.nsIn K cStatics "thirdparty.any" = some none)
    (tyNI : PySem.W.typeIn K (.ref fNI) = some (.type "function"))
    (fnNI : PySem.W.fnIn K fNI = true)
    (lNI : K.lookup fNI = some ⟨ocNI, odNI, .func (PySem.W.fnOf "__init__" "Net.__init__" (defArgs s_Net_init) (defBody s_Net_init) (defScope s_Net_init) .none kVNI dcNI pmNI anNI cdNI ctNI), slNI⟩)
    (cNI : PySem.W.codeIn K cdNI "Net.__init__" = true)
    (kNI : PySem.W.keepIn K (.ref fNI) = true)
    (capD : PySem.W.nsIn K Dk "capacity" = some (some (.int 1 tD)))
    (lring : PySem.W.nsIn K mainGlobals "LEAST_RING" = some (some (.int 3 tL)))
    (p_isrP : PySem.W.findIn K (.ref CP) "is_ring" = some (some (.ref qisrP)))
    (i_isrP : PySem.W.isFn K (.ref qisrP) = true)
    (lMisrP : K.lookup qisrP = some ⟨ocMisrP, odMisrP, .func (PySem.W.fnOf "is_ring" "Pipeline.is_ring" (defArgs s_Pipeline_is_ring) (defBody s_Pipeline_is_ring) (defScope s_Pipeline_is_ring) .none kVMisrP dcMisrP pmMisrP anMisrP cdMisrP ctMisrP), slMisrP⟩)
    (cMisrP : PySem.W.codeIn K cdMisrP "Pipeline.is_ring" = true)
    (kMisrP : PySem.W.keepIn K (.ref qisrP) = true)
    (p_isrR : PySem.W.findIn K (.ref CR) "is_ring" = some (some (.ref qisrR)))
    (i_isrR : PySem.W.isFn K (.ref qisrR) = true)
    (lMisrR : K.lookup qisrR = some ⟨ocMisrR, odMisrR, .func (PySem.W.fnOf "is_ring" "Ring.is_ring" (defArgs s_Ring_is_ring) (defBody s_Ring_is_ring) (defScope s_Ring_is_ring) .none kVMisrR dcMisrR pmMisrR anMisrR cdMisrR ctMisrR), slMisrR⟩)
    (cMisrR : PySem.W.codeIn K cdMisrR "Ring.is_ring" = true)
    (kMisrR : PySem.W.keepIn K (.ref qisrR) = true)
    (gMD : PySem.W.nsIn K mainGlobals "MOST_DIGITS" = some (some (.int 3 tMD)))
    (gDK : PySem.W.nsIn K mainGlobals "KINDS_BY_SIGN" = some (some (.ref dK)))
    (lDK : K.lookup dK = some ⟨.type "dict", none, .dict esK nKg, #[]⟩)
    (kDK : PySem.W.KeysLit w.params esK.toList)
    (oDK : (dK == sysModules) = false)
    (vDK0 : PySem.W.nsIn K dK "+" = some (some (.str "advance" tK0)))
    (vDK1 : PySem.W.nsIn K dK "-" = some (some (.str "rollback" tK1)))
    (sgb : sgB K dK = true) :
    ∃ fd : FuncData, (∀ (s : Shared) (v : Value), BindsTo s fd ⟨[v], []⟩ [("script", v)]) ∧ ∀ base : Heap, K.In base → base.Ns mainGlobals mg → FnOk PK w K mg base (L2.CX PK w) 11 fa fd ["script"] (spLaw K) := by
  have e := hfa.symm.trans (PySem.W.mg_of X G alaw)
  cases e
  refine ⟨PySem.W.fnOf "law" "law" (defArgs s_law) (defBody s_law) (defScope s_law) .none kVlaw dclaw pmlaw anlaw cdlaw ctlaw, fun s v => .of_eq rfl, fun base _ _ => ?_⟩
  have m1 : ∀ {x : Str} {v : Value}, PySem.W.nsIn K mainGlobals x = some (some v) → mg x = some v := fun {x v} e => PySem.W.mg_of X G e
  have m0 : ∀ {x : Str}, PySem.W.nsIn K mainGlobals x = some none → mg x = none := fun {x} e => PySem.W.mg_none_of X G e
  have B : Blt mg := ⟨m0 z_isi, m0 z_int, m0 z_bool, m0 z_tuple, m0 z_list, m0 z_str, m0 z_len, m0 z_range, m0 z_sorted, m0 z_enum, m0 z_sum, m0 z_all, m0 z_max, m0 z_min, m0 z_verr⟩
  have Fbtw := fun_mk (st := s_is_between) lbtw cbtw kbtw
  have bbtw := Fbtw.binds (ps := ["value", "low", "high"]) fun _ _ _ _ _ _ us hl => match us, hl with | [_, _, _], _ => rfl
  have Fchk := fun_mk (st := s_check_number) lchk cchk kchk
  have bchk := Fchk.binds (ps := ["value", "many"]) fun _ _ _ _ _ _ us hl => match us, hl with | [_, _], _ => rfl
  have Fnat := fun_mk (st := s_numbers_at) lnat cnat knat
  have bnat := Fnat.binds (ps := ["stages", "ends"]) fun _ _ _ _ _ _ us hl => match us, hl with | [_, _], _ => rfl
  have Fjoi := fun_mk (st := s_joins_two_stages) ljoi cjoi kjoi
  have bjoi := Fjoi.binds (ps := ["stages", "channel"]) fun _ _ _ _ _ _ us hl => match us, hl with | [_, _], _ => rfl
  have Fcir := fun_mk (st := s_has_circle) lcir ccir kcir
  have bcir := Fcir.binds (ps := ["channels"]) fun _ _ _ _ _ _ us hl => match us, hl with | [_], _ => rfl
  have Fcch := fun_mk (st := s_check_channels) lcch ccch kcch
  have bcch := Fcch.binds (ps := ["stages", "channels"]) fun _ _ _ _ _ _ us hl => match us, hl with | [_, _], _ => rfl
  have Fwic := fun_mk (st := s_with_capacity) lwic cwic kwic
  have bwic := Fwic.binds (ps := ["channel", "capacity"]) fun _ _ _ _ _ _ us hl => match us, hl with | [_, _], _ => rfl
  have Frdn := fun_mk (st := s_read_net) lrdn crdn krdn
  have brdn := Frdn.binds (ps := ["text"]) fun _ _ _ _ _ _ us hl => match us, hl with | [_], _ => rfl
  have Frds := fun_mk (st := s_read_state) lrds crds krds
  have brds := Frds.binds (ps := ["net", "text"]) fun _ _ _ _ _ _ us hl => match us, hl with | [_, _], _ => rfl
  have Frdm := fun_mk (st := s_read_moves) lrdm crdm krdm
  have brdm := Frdm.binds (ps := ["net", "text"]) fun _ _ _ _ _ _ us hl => match us, hl with | [_, _], _ => rfl
  have Fnum := fun_mk (st := s_number) lnum cnum knum
  have bnum := Fnum.binds (ps := ["word", "low", "high"]) fun _ _ _ _ _ _ us hl => match us, hl with | [_, _, _], _ => rfl
  have Frhd := fun_mk (st := s_read_head) lrhd crhd krhd
  have brhd := Frhd.binds (ps := ["line"]) fun _ _ _ _ _ _ us hl => match us, hl with | [_], _ => rfl
  have Frch := fun_mk (st := s_read_channel) lrch crch krch
  have brch := Frch.binds (ps := ["stages", "line"]) fun _ _ _ _ _ _ us hl => match us, hl with | [_, _], _ => rfl
  have Frpi := fun_mk (st := s_read_pipeline) lrpi crpi krpi
  have brpi := Frpi.binds (ps := ["stages", "lines"]) fun _ _ _ _ _ _ us hl => match us, hl with | [_, _], _ => rfl
  have Frri := fun_mk (st := s_read_ring) lrri crri krri
  have brri := Frri.binds (ps := ["stages", "lines"]) fun _ _ _ _ _ _ us hl => match us, hl with | [_, _], _ => rfl
  have Fcel := fun_mk (st := s_law_cell) lcel ccel kcel
  have bcel := Fcel.binds (ps := ["script", "k"]) fun _ _ _ _ _ _ us hl => match us, hl with | [_, _], _ => rfl
  have Fbag := fun_mk (st := s_law_bag) lbag cbag kbag
  have bbag := Fbag.binds (ps := ["script", "k"]) fun _ _ _ _ _ _ us hl => match us, hl with | [_, _], _ => rfl
  have Fdra := fun_mk (st := s_law_draw) ldra cdra kdra
  have bdra := Fdra.binds (ps := ["bag", "many"]) fun _ _ _ _ _ _ us hl => match us, hl with | [_, _], _ => rfl
  have Fsam := fun_mk (st := s_law_same) lsam csam ksam
  have bsam := Fsam.binds (ps := ["told", "due"]) fun _ _ _ _ _ _ us hl => match us, hl with | [_, _], _ => rfl
  have Fsar := fun_mk (st := s_law_same_row) lsar csar ksar
  have bsar := Fsar.binds (ps := ["told", "due"]) fun _ _ _ _ _ _ us hl => match us, hl with | [_, _], _ => rfl
  have Fsrs := fun_mk (st := s_law_same_rows) lsrs csrs ksrs
  have bsrs := Fsrs.binds (ps := ["told", "due"]) fun _ _ _ _ _ _ us hl => match us, hl with | [_, _], _ => rfl
  have Ford := fun_mk (st := s_law_order) lord cord kord
  have bord := Ford.binds (ps := ["bag", "many"]) fun _ _ _ _ _ _ us hl => match us, hl with | [_, _], _ => rfl
  have Fsiz := fun_mk (st := s_law_size) lsiz csiz ksiz
  have bsiz := Fsiz.binds (ps := ["bag", "wide"]) fun _ _ _ _ _ _ us hl => match us, hl with | [_, _], _ => rfl
  have Flin := fun_mk (st := s_law_links) llin clin klin
  have blin := Flin.binds (ps := ["bag", "count", "wide"]) fun _ _ _ _ _ _ us hl => match us, hl with | [_, _, _], _ => rfl
  have Fwor := fun_mk (st := s_law_world) lwor cwor kwor
  have bwor := Fwor.binds (ps := ["bag"]) fun _ _ _ _ _ _ us hl => match us, hl with | [_], _ => rfl
  have Fntx := fun_mk (st := s_law_net_text) lntx cntx kntx
  have bntx := Fntx.binds (ps := ["world"]) fun _ _ _ _ _ _ us hl => match us, hl with | [_], _ => rfl
  have Fstx := fun_mk (st := s_law_state_text) lstx cstx kstx
  have bstx := Fstx.binds (ps := ["state"]) fun _ _ _ _ _ _ us hl => match us, hl with | [_], _ => rfl
  have Fmtx := fun_mk (st := s_law_moves_text) lmtx cmtx kmtx
  have bmtx := Fmtx.binds (ps := ["row"]) fun _ _ _ _ _ _ us hl => match us, hl with | [_], _ => rfl
  have Fprs := fun_mk (st := s_law_pairs) lprs cprs kprs
  have bprs := Fprs.binds (ps := ["count", "stride", "most"]) fun _ _ _ _ _ _ us hl => match us, hl with | [_, _, _], _ => rfl
  have Flnu := fun_mk (st := s_law_number) llnu clnu klnu
  have blnu := Flnu.binds (ps := ["word", "least", "most"]) fun _ _ _ _ _ _ us hl => match us, hl with | [_, _, _], _ => rfl
  have Fllk := fun_mk (st := s_law_link) lllk cllk kllk
  have bllk := Fllk.binds (ps := ["line", "count"]) fun _ _ _ _ _ _ us hl => match us, hl with | [_, _], _ => rfl
  have Flea := fun_mk (st := s_law_leads) llea clea klea
  have blea := Flea.binds (ps := ["ends", "first", "last"]) fun _ _ _ _ _ _ us hl => match us, hl with | [_, _, _], _ => rfl
  have Ffit := fun_mk (st := s_law_fits) lfit cfit kfit
  have bfit := Ffit.binds (ps := ["links", "ends", "link", "ring"]) fun _ _ _ _ _ _ us hl => match us, hl with | [_, _, _, _], _ => rfl
  have Flrd := fun_mk (st := s_law_read) llrd clrd klrd
  have blrd := Flrd.binds (ps := ["text"]) fun _ _ _ _ _ _ us hl => match us, hl with | [_], _ => rfl
  have Flrs := fun_mk (st := s_law_read_state) llrs clrs klrs
  have blrs := Flrs.binds (ps := ["text", "count"]) fun _ _ _ _ _ _ us hl => match us, hl with | [_, _], _ => rfl
  have Flrm := fun_mk (st := s_law_read_moves) llrm clrm klrm
  have blrm := Flrm.binds (ps := ["text", "count"]) fun _ _ _ _ _ _ us hl => match us, hl with | [_, _], _ => rfl
  have Frfw := fun_mk (st := s_law_refused_well) lrfw crfw krfw
  have brfw := Frfw.binds (ps := ["text"]) fun _ _ _ _ _ _ us hl => match us, hl with | [_], _ => rfl
  have Fsas := fun_mk (st := s_law_state_asked) lsas csas ksas
  have bsas := Fsas.binds (ps := ["net", "text", "count"]) fun _ _ _ _ _ _ us hl => match us, hl with | [_, _, _], _ => rfl
  have Fmas := fun_mk (st := s_law_moves_asked) lmas cmas kmas
  have bmas := Fmas.binds (ps := ["net", "text", "count"]) fun _ _ _ _ _ _ us hl => match us, hl with | [_, _, _], _ => rfl
  have Fcha := fun_mk (st := s_law_char_spoilt) lcha ccha kcha
  have bcha := Fcha.binds (ps := ["bag", "text"]) fun _ _ _ _ _ _ us hl => match us, hl with | [_, _], _ => rfl
  have Flli := fun_mk (st := s_law_line) llli clli klli
  have blli := Flli.binds (ps := ["bag"]) fun _ _ _ _ _ _ us hl => match us, hl with | [_], _ => rfl
  have Flhe := fun_mk (st := s_law_head) llhe clhe klhe
  have blhe := Flhe.binds (ps := ["bag"]) fun _ _ _ _ _ _ us hl => match us, hl with | [_], _ => rfl
  have Flbe := fun_mk (st := s_law_line_bent) llbe clbe klbe
  have blbe := Flbe.binds (ps := ["bag", "line"]) fun _ _ _ _ _ _ us hl => match us, hl with | [_, _], _ => rfl
  have Flpi := fun_mk (st := s_law_link_put_in) llpi clpi klpi
  have blpi := Flpi.binds (ps := ["bag", "text"]) fun _ _ _ _ _ _ us hl => match us, hl with | [_, _], _ => rfl
  have Flsp := fun_mk (st := s_law_lines_spoilt) llsp clsp klsp
  have blsp := Flsp.binds (ps := ["bag", "text"]) fun _ _ _ _ _ _ us hl => match us, hl with | [_, _], _ => rfl
  have Fwsp := fun_mk (st := s_law_words_spoilt) lwsp cwsp kwsp
  have bwsp := Fwsp.binds (ps := ["bag", "text"]) fun _ _ _ _ _ _ us hl => match us, hl with | [_, _], _ => rfl
  have Flar := fun_mk (st := s_law_large) llar clar klar
  have blar := Flar.binds (ps := ["bag"]) fun _ _ _ _ _ _ us hl => match us, hl with | [_], _ => rfl
  have Ffre := fun_mk (st := s_law_free) lfre cfre kfre
  have bfre := Ffre.binds (ps := ["bag"]) fun _ _ _ _ _ _ us hl => match us, hl with | [_], _ => rfl
  have Fnro := fun_mk (st := s_law_nets_round) lnro cnro knro
  have bnro := Fnro.binds (ps := ["bag", "text", "most"]) fun _ _ _ _ _ _ us hl => match us, hl with | [_, _, _], _ => rfl
  have Fwro := fun_mk (st := s_law_words_round) lwro cwro kwro
  have bwro := Fwro.binds (ps := ["bag", "net", "count"]) fun _ _ _ _ _ _ us hl => match us, hl with | [_, _, _], _ => rfl
  have Frou := fun_mk (st := s_law_round) lrou crou krou
  have brou := Frou.binds (ps := ["bag"]) fun _ _ _ _ _ _ us hl => match us, hl with | [_], _ => rfl
  have Flaw := fun_mk (st := s_law) llaw claw klaw
  have blaw := Flaw.binds (ps := ["script"]) fun _ _ _ _ _ _ us hl => match us, hl with | [_], _ => rfl
  have Dbtw : DefR PK w K mg base "is_between" 1 (spBtw K) := ⟨fbtw, m1 abtw, kbtw, raw0 (ok_is_between Fbtw B) bbtw⟩
  have TN : OexC K CN := ⟨⟨nmN, qnN, NNN, bsN, bmN, snN, subN, abN, coN, ddN, m0N, m1N, m2N, m3N, m5N, xN, rbN⟩, saN, ebN, tyN, kcN⟩
  have FxN := fun_mk (st := s_NotFound_init) lxN cxN kxN
  have bxN := FxN.binds (ps := ["self", "number"]) fun _ _ _ _ _ _ us hl => match us, hl with | [_, _], _ => rfl
  have EN : ExcR PK w K mg base "NotFound" CN 1 1 flN := ⟨TN, m1 aN, fxN, _, ["self", "number"], inN, tfN, bxN, ok_NotFound_init FxN TN noN_number⟩
  have TI : OexC K CI := ⟨⟨nmI, qnI, NNI, bsI, bmI, snI, subI, abI, coI, ddI, m0I, m1I, m2I, m3I, m5I, xI, rbI⟩, saI, ebI, tyI, kcI⟩
  have FxI := fun_mk (st := s_InvalidNet_init) lxI cxI kxI
  have bxI := FxI.binds (ps := ["self", "reason", "position"]) fun _ _ _ _ _ _ us hl => match us, hl with | [_, _, _], _ => rfl
  have EI : ExcR PK w K mg base "InvalidNet" CI 1 2 flI := ⟨TI, m1 aI, fxI, _, ["self", "reason", "position"], inI, tfI, bxI, ok_InvalidNet_init FxI TI noI_reason noI_position⟩
  have TT : OexC K CT := ⟨⟨nmT, qnT, NNT, bsT, bmT, snT, subT, abT, coT, ddT, m0T, m1T, m2T, m3T, m5T, xT, rbT⟩, saT, ebT, tyT, kcT⟩
  have FxT := fun_mk (st := s_InvalidText_init) lxT cxT kxT
  have bxT := FxT.binds (ps := ["self", "line"]) fun _ _ _ _ _ _ us hl => match us, hl with | [_, _], _ => rfl
  have ET : ExcR PK w K mg base "InvalidText" CT 1 1 flLn := ⟨TT, m1 aT, fxT, _, ["self", "line"], inT, tfT, bxT, ok_InvalidText_init FxT TT noT_line⟩
  have XCT : ExcC K CT := ⟨e_hgT, e_hkT, ebT, e_hdT, e_haT, e_hn, e_ht, e_hmT⟩
  have XFT : XfC K CT := ⟨e_hgT, e_hkT, ebT, e_hdT⟩
  have R8 : Ref8 K mg CW CN CM CI CX CT := ⟨m1 aW, m1 aN, m1 aM, m1 aX, m1 aI, m1 aT, exm_TW, exm_TT, XCT, XFT, kit_TT, kit_TX, kit_TM, kit_TV, tA_, noT_line⟩
  have Dchk : DefR PK w K mg base "check_number" 3 (spCheckNumber K CN) := ⟨fchk, m1 achk, kchk, raw0 (ok_check_number (k := 0) Fchk Dbtw EN) bchk⟩
  have Dnat : DefR PK w K mg base "_numbers_at" 1 spNums := ⟨fnat, m1 anat, knat, raw0 (ok_numbers_at Fnat B) bnat⟩
  have Z : NetK K mg N := ⟨m1 aNet, .type "type", ⟨rdN, gaN⟩, ⟨_, cv1, _, rfl⟩, ⟨_, cv2, _, rfl⟩, ⟨_, cv3, _, rfl⟩, ⟨_, cv4, _, rfl⟩⟩
  have FIC := fun_mk (st := s_Net_is_capacity) lIC cIC kIC
  have bIC := FIC.binds (ps := ["value"]) fun _ _ _ _ _ _ us hl => match us, hl with | [_], _ => rfl
  have SIC : StaR PK w K mg base N "is_capacity" 2 (spCap K) := ⟨.type "type", pIC, gIC, ⟨rdN, gaN, fIC, ⟨_, rIC⟩, kIC⟩, raw0 (ok_is_capacity FIC Z Dbtw) bIC⟩
  have Djoi : DefR PK w K mg base "_joins_two_stages" 2 (spJoins K) := ⟨fjoi, m1 ajoi, kjoi, raw0 (ok_joins Fjoi B Dbtw) bjoi⟩
  have Dcir : DefR PK w K mg base "has_circle" 1 spNoCircle := ⟨fcir, m1 acir, kcir, raw0 (ok_has_circle Fcir B) bcir⟩
  have D8cir : DefR PK w K mg base "has_circle" 1 spCir8 := ⟨fcir, m1 acir, kcir, raw0 (ok_circle8 Fcir B) bcir⟩
  have Dwic : DefR PK w K mg base "_with_capacity" 1 spWith := ⟨fwic, m1 awic, kwic, raw0 (ok_with_capacity Fwic B) bwic⟩
  have Dcch : DefR PK w K mg base "_check_channels" 3 spCheckCh := ⟨fcch, m1 acch, kcch, raw0 (ok_check_channels Fcch B Z Djoi SIC EI) bcch⟩
  have NCP : NetCls K CP := ⟨⟨pgP, hdP, poP, stP⟩, nSP, nCP, nJP, nOP⟩
  have NCR : NetCls K CR := ⟨⟨pgR, hdR, poR, stR⟩, nSR, nCR, nJR, nOR⟩
  have FNI := fun_mk (st := s_Net_init) lNI cNI kNI
  have bNI := FNI.binds (ps := ["self", "stages", "channels"]) fun _ _ _ _ _ _ us hl => match us, hl with | [_, _, _], _ => rfl
  have RNIP : FnR PK w K mg base (L2.CX PK w) 2 fNI (spNetInit CP) := raw0 (ok_Net_init FNI B NCP Dnat) bNI
  have SUP : SupTxt PK K mg CP CP fNI "__init__" := ⟨Option.isSome_iff_exists.mp di_P, mr_P, m0 z_sup, by decide +kernel, by decide +kernel, opq, ks_P, tyNI, fnNI⟩
  have SFP : SFun PK K "__init__" "Pipeline.__init__" s_Pipeline_init iniP ccP CP (.ref Dk) := ⟨⟨_, _, _, _, _, _, _, _, _, _, _, _, _, _, _, _, _, sl_P, sc_P, ce_P, co_P, fi_P, fe_P⟩⟩
  have MkP : Mk K CP iniP := ⟨mkP, itP, ifP, keP⟩
  have RNIR : FnR PK w K mg base (L2.CX PK w) 2 fNI (spNetInit CR) := raw0 (ok_Net_init FNI B NCR Dnat) bNI
  have SUR : SupTxt PK K mg CR CR fNI "__init__" := ⟨Option.isSome_iff_exists.mp di_R, mr_R, m0 z_sup, by decide +kernel, by decide +kernel, opq, ks_R, tyNI, fnNI⟩
  have SFR : SFun PK K "__init__" "Ring.__init__" s_Ring_init iniR ccR CR kVRing := ⟨⟨_, _, _, _, _, _, _, _, _, _, _, _, _, _, _, _, _, sl_R, sc_R, ce_R, co_R, fi_R, fe_R⟩⟩
  have MkR : Mk K CR iniR := ⟨mkR, itR, ifR, keR⟩
  have TC : ∀ C ∈ [CP, CR], NetCls K C := fun C hC => by
    rcases List.mem_cons.mp hC with e | hC
    · rw [e]; exact NCP
    · rw [List.mem_singleton.mp hC]; exact NCR
  have iP : CP ∈ [CP, CR] := List.mem_cons_self
  have iR : CR ∈ [CP, CR] := List.mem_cons_of_mem _ List.mem_cons_self
  have DP : ClsR PK w K mg base CP 4 (spPipe CP) := ⟨iniP, MkP, ok_Pipeline_init SFP capD ⟨_, rfl⟩ B Z Dbtw Dcch SIC Dwic Dcir EI SUP RNIP⟩
  have DR : ClsR PK w K mg base CR 4 (spRing CR) := ⟨iniR, MkR, ok_Ring_init SFR B Z (m1 lring) ⟨_, rfl⟩ SIC EI SUR RNIR⟩
  have FMisrP := fun_mk (st := s_Pipeline_is_ring) lMisrP cMisrP kMisrP
  have bMisrP := FMisrP.binds (ps := ["self"]) fun _ _ _ _ _ _ us hl => match us, hl with | [_], _ => rfl
  have FMisrR := fun_mk (st := s_Ring_is_ring) lMisrR cMisrR kMisrR
  have bMisrR := FMisrR.binds (ps := ["self"]) fun _ _ _ _ _ _ us hl => match us, hl with | [_], _ => rfl
  have kcs : ∀ {T : Addr → Bool → Prop}, T CP false → T CR true → ∀ C ring, KC CP CR C ring → T C ring := fun {T} a b C ring h => by
    rcases h with ⟨e1, e2⟩ | ⟨e1, e2⟩
    · subst e1 e2; exact a
    · subst e1 e2; exact b
  have MIR : ∀ C ring, KC CP CR C ring → MetR PK w K mg base C "is_ring" 1 (spRing1 [CP, CR] ring) := kcs (T := fun C ring => MetR PK w K mg base C "is_ring" 1 (spRing1 [CP, CR] ring)) ⟨qisrP, _, ["self"], NCP.cl, ⟨p_isrP, i_isrP, kMisrP⟩, bMisrP, ok_P_is_ring FMisrP⟩ ⟨qisrR, _, ["self"], NCR.cl, ⟨p_isrR, i_isrR, kMisrR⟩, bMisrR, ok_R_is_ring FMisrR⟩
  have DKi : ∀ adv, KDct K w dK (SX.S (sgL adv)) (.str (kw adv)) := kdKs lDK kDK vDK0 vDK1
  have DK : KDict K w dK esK nKg := ⟨lDK, kDK, oDK⟩
  have DKm := kdM lDK sgb
  have Dnum : DefR PK w K mg base "_number" 2 spNum8 := ⟨fnum, m1 anum, knum, raw0 (ok_number8 Fnum B (m1 gMD) Dbtw) bnum⟩
  have Drds : DefR PK w K mg base "read_state" 3 (spRdS8 [CP, CR] CT) := ⟨frds, m1 ards, krds, raw0 (ok_read_state8 Frds B Z TC Dnum ET) brds⟩
  have Drdm : DefR PK w K mg base "read_moves" 3 (spRdM8 [CP, CR] CT) := ⟨frdm, m1 ardm, krdm, raw0 (ok_read_moves8 Frdm B TC (m1 gDK) DK DKi DKm Dnum ET) brdm⟩
  have Drhd : DefR PK w K mg base "_read_head" 3 (spHead8 CT) := ⟨frhd, m1 arhd, krhd, raw0 (ok_head8 Frhd B Z (m1 lring) Dnum ET) brhd⟩
  have Drch : DefR PK w K mg base "_read_channel" 3 spChan8 := ⟨frch, m1 arch, krch, raw0 (ok_chan8 Frch B Z Dnum) brch⟩
  have Drpi : DefR PK w K mg base "_read_pipeline" 6 (spRdP8 CP CT) := ⟨frpi, m1 arpi, krpi, raw0 (ok_read_pipeline8 Frpi B Z (m1 aP) DP Drch D8cir ET) brpi⟩
  have Drri : DefR PK w K mg base "_read_ring" 6 (spRdR8 CR CT) := ⟨frri, m1 arri, krri, raw0 (ok_read_ring8 Frri B (m1 aR) DR Drch ET) brri⟩
  have Drdn : DefR PK w K mg base "read_net" 7 (spRdN8 CP CR CT) := ⟨frdn, m1 ardn, krdn, raw0 (ok_read_net8 Frdn Drhd Drri Drpi) brdn⟩
  have Dcel : DefR PK w K mg base "_law_cell" 1 (spCell K) := ⟨fcel, m1 acel, kcel, raw0 (ok_cell Fcel B) bcel⟩
  have Dbag : DefR PK w K mg base "_law_bag" 2 (spBag K) := ⟨fbag, m1 abag, kbag, raw0 (ok_bag Fbag B Dcel) bbag⟩
  have Ddra : DefR PK w K mg base "_law_draw" 1 spDraw := ⟨fdra, m1 adra, kdra, raw0 (ok_draw Fdra B) bdra⟩
  have Qsam : DefQ PK w K mg base "_law_same" 1 spSame := ⟨fsam, _, ["told", "due"], m1 asam, ksam, bsam, ok_same Fsam B⟩
  have Dsar : DefR PK w K mg base "_law_same_row" 2 (spSR K) := ⟨fsar, m1 asar, ksar, raw0 (ok_same_row Fsar B Qsam) bsar⟩
  have Dsrs : DefR PK w K mg base "_law_same_rows" 3 (spSRs K) := ⟨fsrs, m1 asrs, ksrs, raw0 (ok_same_rows Fsrs B Dsar) bsrs⟩
  have Dord : DefR PK w K mg base "_law_order" 2 spOrder := ⟨ford, m1 aord, kord, raw0 (ok_order Ford B Ddra) bord⟩
  have Dsiz : DefR PK w K mg base "_law_size" 2 spSize := ⟨fsiz, m1 asiz, ksiz, raw0 (ok_size Fsiz Ddra) bsiz⟩
  have Dlin : DefR PK w K mg base "_law_links" 3 spLinks := ⟨flin, m1 alin, klin, raw0 (ok_links Flin B Ddra Dord Dsiz) blin⟩
  have Dwor : DefR PK w K mg base "_law_world" 4 spWorld := ⟨fwor, m1 awor, kwor, raw0 (ok_world Fwor B Ddra Dsiz Dlin) bwor⟩
  have Dntx : DefR PK w K mg base "_law_net_text" 1 spNetT := ⟨fntx, m1 antx, kntx, raw0 (ok_net_text Fntx B) bntx⟩
  have Dstx : DefR PK w K mg base "_law_state_text" 1 spStT := ⟨fstx, m1 astx, kstx, raw0 (ok_state_text Fstx B) bstx⟩
  have Dmtx : DefR PK w K mg base "_law_moves_text" 1 spMvT := ⟨fmtx, m1 amtx, kmtx, raw0 (ok_moves_text Fmtx B) bmtx⟩
  have Dprs : DefR PK w K mg base "_law_pairs" 1 spPairs7 := ⟨fprs, m1 aprs, kprs, raw0 (ok_pairs7 Fprs B) bprs⟩
  have Dlnu : DefR PK w K mg base "_law_number" 1 spLN8 := ⟨flnu, m1 alnu, klnu, raw0 (ok_lnumber8 Flnu B) blnu⟩
  have Dllk : DefR PK w K mg base "_law_link" 2 spLink8 := ⟨fllk, m1 allk, kllk, raw0 (ok_link8 Fllk B Dlnu) bllk⟩
  have Dlea : DefR PK w K mg base "_law_leads" 1 spLeads8 := ⟨flea, m1 alea, klea, raw0 (ok_leads8 Flea B) blea⟩
  have Dfit : DefR PK w K mg base "_law_fits" 2 spFits8 := ⟨ffit, m1 afit, kfit, raw0 (ok_fits8 Ffit B Dlea) bfit⟩
  have Dlrd : DefR PK w K mg base "_law_read" 3 spRead8 := ⟨flrd, m1 alrd, klrd, raw0 (ok_read8 Flrd B Dlnu Dllk Dfit) blrd⟩
  have Dlrs : DefR PK w K mg base "_law_read_state" 2 spLRS8 := ⟨flrs, m1 alrs, klrs, raw0 (ok_law_read_state8 Flrs B Dlnu) blrs⟩
  have Dlrm : DefR PK w K mg base "_law_read_moves" 2 spLRM8 := ⟨flrm, m1 alrm, klrm, raw0 (ok_law_read_moves8 Flrm B Dlnu) blrm⟩
  have Drfw : DefR PK w K mg base "_law_refused_well" 8 spRef8 := ⟨frfw, m1 arfw, krfw, raw0 (ok_refused8 Frfw B R8 TC MIR Dlrd Drdn Qsam Dsrs) brfw⟩
  have Dsas : DefR PK w K mg base "_law_state_asked" 4 (spAsk8 CP CR) := ⟨fsas, m1 asas, ksas, raw0 (ok_state_asked8 Fsas B R8 Dlrs Drds Qsam Dsar) bsas⟩
  have Dmas : DefR PK w K mg base "_law_moves_asked" 4 (spAsk8 CP CR) := ⟨fmas, m1 amas, kmas, raw0 (ok_moves_asked8 Fmas B R8 Dlrm Drdm Qsam Dsrs) bmas⟩
  have Dcha : DefR PK w K mg base "_law_char_spoilt" 2 spTx8 := ⟨fcha, m1 acha, kcha, raw0 (ok_char_spoilt Fcha B Ddra) bcha⟩
  have Dlli : DefR PK w K mg base "_law_line" 2 spPc8 := ⟨flli, m1 alli, klli, raw0 (ok_line8 Flli B Ddra) blli⟩
  have Dlhe : DefR PK w K mg base "_law_head" 2 spPc8 := ⟨flhe, m1 alhe, klhe, raw0 (ok_head_drawn8 Flhe B Ddra) blhe⟩
  have Dlbe : DefR PK w K mg base "_law_line_bent" 2 spBent8 := ⟨flbe, m1 albe, klbe, raw0 (ok_line_bent8 Flbe B Ddra) blbe⟩
  have Dlpi : DefR PK w K mg base "_law_link_put_in" 4 spTx8 := ⟨flpi, m1 alpi, klpi, raw0 (ok_link_put_in8 Flpi B Ddra Dlrd Dntx) blpi⟩
  have Dlsp : DefR PK w K mg base "_law_lines_spoilt" 3 spTx8 := ⟨flsp, m1 alsp, klsp, raw0 (ok_lines_spoilt8 Flsp B Ddra Dlli Dlhe Dlbe) blsp⟩
  have Dwsp : DefR PK w K mg base "_law_words_spoilt" 2 spTx8 := ⟨fwsp, m1 awsp, kwsp, raw0 (ok_words_spoilt8 Fwsp B Ddra) bwsp⟩
  have Dlar : DefR PK w K mg base "_law_large" 2 spLarge8 := ⟨flar, m1 alar, klar, raw0 (ok_large8 Flar B Ddra Dprs) blar⟩
  have Dfre : DefR PK w K mg base "_law_free" 2 spFree8 := ⟨ffre, m1 afre, kfre, raw0 (ok_free8 Ffre B Ddra) bfre⟩
  have Dnro : DefR PK w K mg base "_law_nets_round" 9 spNR8 := ⟨fnro, m1 anro, knro, raw0 (ok_nets_round8 Fnro B Ddra Drfw Dcha Dlpi Dlsp) bnro⟩
  have Dwro : DefR PK w K mg base "_law_words_round" 5 (spWR8 CP CR) := ⟨fwro, m1 awro, kwro, raw0 (ok_words_round8 Fwro B Ddra Dstx Dmtx Dsas Dmas Dcha Dwsp) bwro⟩
  have Drou : DefR PK w K mg base "_law_round" 10 spRound8 := ⟨frou, m1 arou, krou, raw0 (ok_round8 Frou B Ddra Dwor Dntx Dnro Dlar Dfre Drdn Drfw Dsas Dmas Dwro) brou⟩
  exact ok_law Flaw B R8 ET Qsam Dbag Drou
end WC

namespace WC
open PySem PySem.Spec PyProof.Rows L2
theorem walk_k08 {l : PySem.W.OpenLaw} {q : Program} {loose : List Str} {XP : (Str → Option Value) → Heap → Prop} {YP : World → Heap → Prop} {d : DefRec} {K : Params → PySem.W.Frag} (hl : l.prog = PK) (hn : l.most = some 63) (hdf : d.params.defaults = [])
    (hY : ∀ (w : World) (h : Heap), YP w h → (K w.params).In h)
    (F : ∀ (w : World) (mg : Str → Option Value) (fa : Addr) (h : Heap), (K w.params).In h → h.Ns mainGlobals mg → mg d.name = some (.ref fa) →
      ∃ fd : FuncData, (∀ (s : Shared) (u : Value), BindsTo s fd ⟨[u], []⟩ [("script", u)]) ∧ ∀ base : Heap, (K w.params).In base → base.Ns mainGlobals mg → FnOk PK w (K w.params) mg base (L2.CX PK w) 11 fa fd ["script"] (spLaw (K w.params))) :
    PySem.W.WalkO q loose XP YP l.row.toRowW d [] (fun f vs => PySem.call f vs) := by
  refine L2.walk_of (n := 63) (k := 11) (x := "script") (CX := fun w => L2.CX PK w) (sp := fun w => spLaw (K w.params)) hn (by decide) hdf ⟨rfl, by decide, by decide⟩ hY ?_ (fun _ _ a ns hl2 _ hS => ⟨a, ns, rfl, hS, hl2, fun _ => rfl⟩) (fun _ _ _ _ _ z => ?_)
  · rw [hl]
    exact F
  · obtain ⟨_, _, _, _, _, _, _, _, _, _, _, _, y⟩ := z
    exact y.elim
end WC
open PySem PySem.W PyProof.Rows
set_option maxRecDepth 100000 in
set_option maxHeartbeats 0 in
theorem PySem.Challenge.cw_withincall_k08_whole_texts_refused_holds : PySem.Challenge.rw_withincall_k08_whole_texts_refused.Holds := by
  w_on; o_law; k_head; (case hw => w_witness2)
  k_fill
  refine WC.walk_k08 (l := PySem.Challenge.rw_withincall_k08_whole_texts_refused) rfl rfl rfl (fun w h Y => PySem.W.kIn_of Y) ?F
  case F =>
    intro w mg fa h KX G hmg
    refine' WC.all_k08 KX G hmg ?z_isi ?z_int ?z_bool ?z_tuple ?z_list ?z_str ?z_len ?z_range ?z_sorted ?z_enum ?z_sum ?z_all ?z_max ?z_min ?z_verr ?z_sup ?abtw ?lbtw ?cbtw ?kbtw ?achk ?lchk ?cchk ?kchk ?anat ?lnat ?cnat ?knat ?ajoi ?ljoi ?cjoi ?kjoi ?acir ?lcir ?ccir ?kcir ?acch ?lcch ?ccch ?kcch ?awic ?lwic ?cwic ?kwic ?ardn ?lrdn ?crdn ?krdn ?ards ?lrds ?crds ?krds ?ardm ?lrdm ?crdm ?krdm ?anum ?lnum ?cnum ?knum ?arhd ?lrhd ?crhd ?krhd ?arch ?lrch ?crch ?krch ?arpi ?lrpi ?crpi ?krpi ?arri ?lrri ?crri ?krri ?acel ?lcel ?ccel ?kcel ?abag ?lbag ?cbag ?kbag ?adra ?ldra ?cdra ?kdra ?asam ?lsam ?csam ?ksam ?asar ?lsar ?csar ?ksar ?asrs ?lsrs ?csrs ?ksrs ?aord ?lord ?cord ?kord ?asiz ?lsiz ?csiz ?ksiz ?alin ?llin ?clin ?klin ?awor ?lwor ?cwor ?kwor ?antx ?lntx ?cntx ?kntx ?astx ?lstx ?cstx ?kstx ?amtx ?lmtx ?cmtx ?kmtx ?aprs ?lprs ?cprs ?kprs ?alnu ?llnu ?clnu ?klnu ?allk ?lllk ?cllk ?kllk ?alea ?llea ?clea ?klea ?afit ?lfit ?cfit ?kfit ?alrd ?llrd ?clrd ?klrd ?alrs ?llrs ?clrs ?klrs ?alrm ?llrm ?clrm ?klrm ?arfw ?lrfw ?crfw ?krfw ?asas ?lsas ?csas ?ksas ?amas ?lmas ?cmas ?kmas ?acha ?lcha ?ccha ?kcha ?alli ?llli ?clli ?klli ?alhe ?llhe ?clhe ?klhe ?albe ?llbe ?clbe ?klbe ?alpi ?llpi ?clpi ?klpi ?alsp ?llsp ?clsp ?klsp ?awsp ?lwsp ?cwsp ?kwsp ?alar ?llar ?clar ?klar ?afre ?lfre ?cfre ?kfre ?anro ?lnro ?cnro ?knro ?awro ?lwro ?cwro ?kwro ?arou ?lrou ?crou ?krou ?alaw ?llaw ?claw ?klaw ?aN ?xN ?rbN ?saN ?ebN ?tyN ?kcN ?inN ?tfN ?lxN ?cxN ?kxN ?noN_number ?aI ?xI ?rbI ?saI ?ebI ?tyI ?kcI ?inI ?tfI ?lxI ?cxI ?kxI ?noI_reason ?noI_position ?aT ?xT ?rbT ?saT ?ebT ?tyT ?kcT ?inT ?tfT ?lxT ?cxT ?kxT ?noT_line ?aM ?aX ?aW ?e_hn ?e_ht ?e_hgT ?e_hkT ?e_hdT ?e_haT ?e_hmT ?exm_TW ?exm_TT ?kit_TT ?kit_TX ?kit_TM ?kit_TV ?tA_ ?aNet ?rdN ?gaN ?cv1 ?cv2 ?cv3 ?cv4 ?fIC ?rIC ?lIC ?cIC ?kIC ?aP ?pgP ?hdP ?poP ?stP ?nSP ?nCP ?nJP ?nOP ?mkP ?keP ?itP ?ifP ?sl_P ?sc_P ?ce_P ?co_P ?fi_P ?fe_P ?di_P ?mr_P ?ks_P ?aR ?pgR ?hdR ?poR ?stR ?nSR ?nCR ?nJR ?nOR ?mkR ?keR ?itR ?ifR ?sl_R ?sc_R ?ce_R ?co_R ?fi_R ?fe_R ?di_R ?mr_R ?ks_R ?opq ?tyNI ?fnNI ?lNI ?cNI ?kNI ?capD ?lring ?p_isrP ?i_isrP ?lMisrP ?cMisrP ?kMisrP ?p_isrR ?i_isrR ?lMisrR ?cMisrR ?kMisrR ?gMD ?gDK ?lDK ?kDK ?oDK ?vDK0 ?vDK1 ?sgb
    (case z_isi => first | k_is | rfl | (decide +kernel))
    (case z_int => first | k_is | rfl | (decide +kernel))
    (case z_bool => first | k_is | rfl | (decide +kernel))
    (case z_tuple => first | k_is | rfl | (decide +kernel))
    (case z_list => first | k_is | rfl | (decide +kernel))
    (case z_str => first | k_is | rfl | (decide +kernel))
    (case z_len => first | k_is | rfl | (decide +kernel))
    (case z_range => first | k_is | rfl | (decide +kernel))
    (case z_sorted => first | k_is | rfl | (decide +kernel))
    (case z_enum => first | k_is | rfl | (decide +kernel))
    (case z_sum => first | k_is | rfl | (decide +kernel))
    (case z_all => first | k_is | rfl | (decide +kernel))
    (case z_max => first | k_is | rfl | (decide +kernel))
    (case z_min => first | k_is | rfl | (decide +kernel))
    (case z_verr => first | k_is | rfl | (decide +kernel))
    (case z_sup => first | k_is | rfl | (decide +kernel))
    (case abtw => first | k_is | rfl | (decide +kernel))
    (case lbtw => first | k_is | rfl | (decide +kernel))
    (case cbtw => first | k_is | rfl | (decide +kernel))
    (case kbtw => first | k_is | rfl | (decide +kernel))
    (case achk => first | k_is | rfl | (decide +kernel))
    (case lchk => first | k_is | rfl | (decide +kernel))
    (case cchk => first | k_is | rfl | (decide +kernel))
    (case kchk => first | k_is | rfl | (decide +kernel))
    (case anat => first | k_is | rfl | (decide +kernel))
    (case lnat => first | k_is | rfl | (decide +kernel))
    (case cnat => first | k_is | rfl | (decide +kernel))
    (case knat => first | k_is | rfl | (decide +kernel))
    (case ajoi => first | k_is | rfl | (decide +kernel))
    (case ljoi => first | k_is | rfl | (decide +kernel))
    (case cjoi => first | k_is | rfl | (decide +kernel))
    (case kjoi => first | k_is | rfl | (decide +kernel))
    (case acir => first | k_is | rfl | (decide +kernel))
    (case lcir => first | k_is | rfl | (decide +kernel))
    (case ccir => first | k_is | rfl | (decide +kernel))
    (case kcir => first | k_is | rfl | (decide +kernel))
    (case acch => first | k_is | rfl | (decide +kernel))
    (case lcch => first | k_is | rfl | (decide +kernel))
    (case ccch => first | k_is | rfl | (decide +kernel))
    (case kcch => first | k_is | rfl | (decide +kernel))
    (case awic => first | k_is | rfl | (decide +kernel))
    (case lwic => first | k_is | rfl | (decide +kernel))
    (case cwic => first | k_is | rfl | (decide +kernel))
    (case kwic => first | k_is | rfl | (decide +kernel))
    (case ardn => first | k_is | rfl | (decide +kernel))
    (case lrdn => first | k_is | rfl | (decide +kernel))
    (case crdn => first | k_is | rfl | (decide +kernel))
    (case krdn => first | k_is | rfl | (decide +kernel))
    (case ards => first | k_is | rfl | (decide +kernel))
    (case lrds => first | k_is | rfl | (decide +kernel))
    (case crds => first | k_is | rfl | (decide +kernel))
    (case krds => first | k_is | rfl | (decide +kernel))
    (case ardm => first | k_is | rfl | (decide +kernel))
    (case lrdm => first | k_is | rfl | (decide +kernel))
    (case crdm => first | k_is | rfl | (decide +kernel))
    (case krdm => first | k_is | rfl | (decide +kernel))
    (case anum => first | k_is | rfl | (decide +kernel))
    (case lnum => first | k_is | rfl | (decide +kernel))
    (case cnum => first | k_is | rfl | (decide +kernel))
    (case knum => first | k_is | rfl | (decide +kernel))
    (case arhd => first | k_is | rfl | (decide +kernel))
    (case lrhd => first | k_is | rfl | (decide +kernel))
    (case crhd => first | k_is | rfl | (decide +kernel))
    (case krhd => first | k_is | rfl | (decide +kernel))
    (case arch => first | k_is | rfl | (decide +kernel))
    (case lrch => first | k_is | rfl | (decide +kernel))
    (case crch => first | k_is | rfl | (decide +kernel))
    (case krch => first | k_is | rfl | (decide +kernel))
    (case arpi => first | k_is | rfl | (decide +kernel))
    (case lrpi => first | k_is | rfl | (decide +kernel))
    (case crpi => first | k_is | rfl | (decide +kernel))
    (case krpi => first | k_is | rfl | (decide +kernel))
    (case arri => first | k_is | rfl | (decide +kernel))
    (case lrri => first | k_is | rfl | (decide +kernel))
    (case crri => first | k_is | rfl | (decide +kernel))
    (case krri => first | k_is | rfl | (decide +kernel))
    (case acel => first | k_is | rfl | (decide +kernel))
    (case lcel => first | k_is | rfl | (decide +kernel))
    (case ccel => first | k_is | rfl | (decide +kernel))
    (case kcel => first | k_is | rfl | (decide +kernel))
    (case abag => first | k_is | rfl | (decide +kernel))
    (case lbag => first | k_is | rfl | (decide +kernel))
    (case cbag => first | k_is | rfl | (decide +kernel))
    (case kbag => first | k_is | rfl | (decide +kernel))
    (case adra => first | k_is | rfl | (decide +kernel))
    (case ldra => first | k_is | rfl | (decide +kernel))
    (case cdra => first | k_is | rfl | (decide +kernel))
    (case kdra => first | k_is | rfl | (decide +kernel))
    (case asam => first | k_is | rfl | (decide +kernel))
    (case lsam => first | k_is | rfl | (decide +kernel))
    (case csam => first | k_is | rfl | (decide +kernel))
    (case ksam => first | k_is | rfl | (decide +kernel))
    (case asar => first | k_is | rfl | (decide +kernel))
    (case lsar => first | k_is | rfl | (decide +kernel))
    (case csar => first | k_is | rfl | (decide +kernel))
    (case ksar => first | k_is | rfl | (decide +kernel))
    (case asrs => first | k_is | rfl | (decide +kernel))
    (case lsrs => first | k_is | rfl | (decide +kernel))
    (case csrs => first | k_is | rfl | (decide +kernel))
    (case ksrs => first | k_is | rfl | (decide +kernel))
    (case aord => first | k_is | rfl | (decide +kernel))
    (case lord => first | k_is | rfl | (decide +kernel))
    (case cord => first | k_is | rfl | (decide +kernel))
    (case kord => first | k_is | rfl | (decide +kernel))
    (case asiz => first | k_is | rfl | (decide +kernel))
    (case lsiz => first | k_is | rfl | (decide +kernel))
    (case csiz => first | k_is | rfl | (decide +kernel))
    (case ksiz => first | k_is | rfl | (decide +kernel))
    (case alin => first | k_is | rfl | (decide +kernel))
    (case llin => first | k_is | rfl | (decide +kernel))
    (case clin => first | k_is | rfl | (decide +kernel))
    (case klin => first | k_is | rfl | (decide +kernel))
    (case awor => first | k_is | rfl | (decide +kernel))
    (case lwor => first | k_is | rfl | (decide +kernel))
    (case cwor => first | k_is | rfl | (decide +kernel))
    (case kwor => first | k_is | rfl | (decide +kernel))
    (case antx => first | k_is | rfl | (decide +kernel))
    (case lntx => first | k_is | rfl | (decide +kernel))
    (case cntx => first | k_is | rfl | (decide +kernel))
    (case kntx => first | k_is | rfl | (decide +kernel))
    (case astx => first | k_is | rfl | (decide +kernel))
    (case lstx => first | k_is | rfl | (decide +kernel))
    (case cstx => first | k_is | rfl | (decide +kernel))
    (case kstx => first | k_is | rfl | (decide +kernel))
    (case amtx => first | k_is | rfl | (decide +kernel))
    (case lmtx => first | k_is | rfl | (decide +kernel))
    (case cmtx => first | k_is | rfl | (decide +kernel))
    (case kmtx => first | k_is | rfl | (decide +kernel))
    (case aprs => first | k_is | rfl | (decide +kernel))
    (case lprs => first | k_is | rfl | (decide +kernel))
    (case cprs => first | k_is | rfl | (decide +kernel))
    (case kprs => first | k_is | rfl | (decide +kernel))
    (case alnu => first | k_is | rfl | (decide +kernel))
    (case llnu => first | k_is | rfl | (decide +kernel))
    (case clnu => first | k_is | rfl | (decide +kernel))
    (case klnu => first | k_is | rfl | (decide +kernel))
    (case allk => first | k_is | rfl | (decide +kernel))
    (case lllk => first | k_is | rfl | (decide +kernel))
    (case cllk => first | k_is | rfl | (decide +kernel))
    (case kllk => first | k_is | rfl | (decide +kernel))
    (case alea => first | k_is | rfl | (decide +kernel))
    (case llea => first | k_is | rfl | (decide +kernel))
    (case clea => first | k_is | rfl | (decide +kernel))
    (case klea => first | k_is | rfl | (decide +kernel))
    (case afit => first | k_is | rfl | (decide +kernel))
    (case lfit => first | k_is | rfl | (decide +kernel))
    (case cfit => first | k_is | rfl | (decide +kernel))
    (case kfit => first | k_is | rfl | (decide +kernel))
    (case alrd => first | k_is | rfl | (decide +kernel))
    (case llrd => first | k_is | rfl | (decide +kernel))
    (case clrd => first | k_is | rfl | (decide +kernel))
    (case klrd => first | k_is | rfl | (decide +kernel))
    (case alrs => first | k_is | rfl | (decide +kernel))
    (case llrs => first | k_is | rfl | (decide +kernel))
    (case clrs => first | k_is | rfl | (decide +kernel))
    (case klrs => first | k_is | rfl | (decide +kernel))
    (case alrm => first | k_is | rfl | (decide +kernel))
    (case llrm => first | k_is | rfl | (decide +kernel))
    (case clrm => first | k_is | rfl | (decide +kernel))
    (case klrm => first | k_is | rfl | (decide +kernel))
    (case arfw => first | k_is | rfl | (decide +kernel))
    (case lrfw => first | k_is | rfl | (decide +kernel))
    (case crfw => first | k_is | rfl | (decide +kernel))
    (case krfw => first | k_is | rfl | (decide +kernel))
    (case asas => first | k_is | rfl | (decide +kernel))
    (case lsas => first | k_is | rfl | (decide +kernel))
    (case csas => first | k_is | rfl | (decide +kernel))
    (case ksas => first | k_is | rfl | (decide +kernel))
    (case amas => first | k_is | rfl | (decide +kernel))
    (case lmas => first | k_is | rfl | (decide +kernel))
    (case cmas => first | k_is | rfl | (decide +kernel))
    (case kmas => first | k_is | rfl | (decide +kernel))
    (case acha => first | k_is | rfl | (decide +kernel))
    (case lcha => first | k_is | rfl | (decide +kernel))
    (case ccha => first | k_is | rfl | (decide +kernel))
    (case kcha => first | k_is | rfl | (decide +kernel))
    (case alli => first | k_is | rfl | (decide +kernel))
    (case llli => first | k_is | rfl | (decide +kernel))
    (case clli => first | k_is | rfl | (decide +kernel))
    (case klli => first | k_is | rfl | (decide +kernel))
    (case alhe => first | k_is | rfl | (decide +kernel))
    (case llhe => first | k_is | rfl | (decide +kernel))
    (case clhe => first | k_is | rfl | (decide +kernel))
    (case klhe => first | k_is | rfl | (decide +kernel))
    (case albe => first | k_is | rfl | (decide +kernel))
    (case llbe => first | k_is | rfl | (decide +kernel))
    (case clbe => first | k_is | rfl | (decide +kernel))
    (case klbe => first | k_is | rfl | (decide +kernel))
    (case alpi => first | k_is | rfl | (decide +kernel))
    (case llpi => first | k_is | rfl | (decide +kernel))
    (case clpi => first | k_is | rfl | (decide +kernel))
    (case klpi => first | k_is | rfl | (decide +kernel))
    (case alsp => first | k_is | rfl | (decide +kernel))
    (case llsp => first | k_is | rfl | (decide +kernel))
    (case clsp => first | k_is | rfl | (decide +kernel))
    (case klsp => first | k_is | rfl | (decide +kernel))
    (case awsp => first | k_is | rfl | (decide +kernel))
    (case lwsp => first | k_is | rfl | (decide +kernel))
    (case cwsp => first | k_is | rfl | (decide +kernel))
    (case kwsp => first | k_is | rfl | (decide +kernel))
    (case alar => first | k_is | rfl | (decide +kernel))
    (case llar => first | k_is | rfl | (decide +kernel))
    (case clar => first | k_is | rfl | (decide +kernel))
    (case klar => first | k_is | rfl | (decide +kernel))
    (case afre => first | k_is | rfl | (decide +kernel))
    (case lfre => first | k_is | rfl | (decide +kernel))
    (case cfre => first | k_is | rfl | (decide +kernel))
    (case kfre => first | k_is | rfl | (decide +kernel))
    (case anro => first | k_is | rfl | (decide +kernel))
    (case lnro => first | k_is | rfl | (decide +kernel))
    (case cnro => first | k_is | rfl | (decide +kernel))
    (case knro => first | k_is | rfl | (decide +kernel))
    (case awro => first | k_is | rfl | (decide +kernel))
    (case lwro => first | k_is | rfl | (decide +kernel))
    (case cwro => first | k_is | rfl | (decide +kernel))
    (case kwro => first | k_is | rfl | (decide +kernel))
    (case arou => first | k_is | rfl | (decide +kernel))
    (case lrou => first | k_is | rfl | (decide +kernel))
    (case crou => first | k_is | rfl | (decide +kernel))
    (case krou => first | k_is | rfl | (decide +kernel))
    (case alaw => first | k_is | rfl | (decide +kernel))
    (case llaw => first | k_is | rfl | (decide +kernel))
    (case claw => first | k_is | rfl | (decide +kernel))
    (case klaw => first | k_is | rfl | (decide +kernel))
    (case aN => first | k_is | rfl | (decide +kernel))
    (case xN => first | k_is | rfl | (decide +kernel))
    (case rbN => first | k_is | rfl | (decide +kernel))
    (case saN => first | k_is | rfl | (decide +kernel))
    (case ebN => first | k_is | rfl | (decide +kernel))
    (case tyN => first | k_is | rfl | (decide +kernel))
    (case kcN => first | k_is | rfl | (decide +kernel))
    (case inN => first | k_is | rfl | (decide +kernel))
    (case tfN => first | k_is | rfl | (decide +kernel))
    (case lxN => first | k_is | rfl | (decide +kernel))
    (case cxN => first | k_is | rfl | (decide +kernel))
    (case kxN => first | k_is | rfl | (decide +kernel))
    (case noN_number => first | k_is | rfl | (decide +kernel))
    (case aI => first | k_is | rfl | (decide +kernel))
    (case xI => first | k_is | rfl | (decide +kernel))
    (case rbI => first | k_is | rfl | (decide +kernel))
    (case saI => first | k_is | rfl | (decide +kernel))
    (case ebI => first | k_is | rfl | (decide +kernel))
    (case tyI => first | k_is | rfl | (decide +kernel))
    (case kcI => first | k_is | rfl | (decide +kernel))
    (case inI => first | k_is | rfl | (decide +kernel))
    (case tfI => first | k_is | rfl | (decide +kernel))
    (case lxI => first | k_is | rfl | (decide +kernel))
    (case cxI => first | k_is | rfl | (decide +kernel))
    (case kxI => first | k_is | rfl | (decide +kernel))
    (case noI_reason => first | k_is | rfl | (decide +kernel))
    (case noI_position => first | k_is | rfl | (decide +kernel))
    (case aT => first | k_is | rfl | (decide +kernel))
    (case xT => first | k_is | rfl | (decide +kernel))
    (case rbT => first | k_is | rfl | (decide +kernel))
    (case saT => first | k_is | rfl | (decide +kernel))
    (case ebT => first | k_is | rfl | (decide +kernel))
    (case tyT => first | k_is | rfl | (decide +kernel))
    (case kcT => first | k_is | rfl | (decide +kernel))
    (case inT => first | k_is | rfl | (decide +kernel))
    (case tfT => first | k_is | rfl | (decide +kernel))
    (case lxT => first | k_is | rfl | (decide +kernel))
    (case cxT => first | k_is | rfl | (decide +kernel))
    (case kxT => first | k_is | rfl | (decide +kernel))
    (case noT_line => first | k_is | rfl | (decide +kernel))
    (case aM => first | k_is | rfl | (decide +kernel))
    (case aX => first | k_is | rfl | (decide +kernel))
    (case aW => first | k_is | rfl | (decide +kernel))
    (case e_hn => first | k_is | rfl | (decide +kernel))
    (case e_ht => first | k_is | rfl | (decide +kernel))
    (case e_hgT => first | k_is | rfl | (decide +kernel))
    (case e_hkT => first | k_is | rfl | (decide +kernel))
    (case e_hdT => first | k_is | rfl | (decide +kernel))
    (case e_haT => first | k_is | rfl | (decide +kernel))
    (case e_hmT => first | k_is | rfl | (decide +kernel))
    (case exm_TW => first | k_is | rfl | (decide +kernel))
    (case exm_TT => first | k_is | rfl | (decide +kernel))
    (case kit_TT => first | k_is | rfl | (decide +kernel))
    (case kit_TX => first | k_is | rfl | (decide +kernel))
    (case kit_TM => first | k_is | rfl | (decide +kernel))
    (case kit_TV => first | k_is | rfl | (decide +kernel))
    (case tA_ => first | k_is | rfl | (decide +kernel))
    (case aNet => first | k_is | rfl | (decide +kernel))
    (case rdN => first | k_is | rfl | (decide +kernel))
    (case gaN => first | k_is | rfl | (decide +kernel))
    (case cv1 => first | k_is | rfl | (decide +kernel))
    (case cv2 => first | k_is | rfl | (decide +kernel))
    (case cv3 => first | k_is | rfl | (decide +kernel))
    (case cv4 => first | k_is | rfl | (decide +kernel))
    (case fIC => first | k_is | rfl | (decide +kernel))
    (case rIC => first | k_is | rfl | (decide +kernel))
    (case lIC => first | k_is | rfl | (decide +kernel))
    (case cIC => first | k_is | rfl | (decide +kernel))
    (case kIC => first | k_is | rfl | (decide +kernel))
    (case aP => first | k_is | rfl | (decide +kernel))
    (case pgP => first | k_is | rfl | (decide +kernel))
    (case hdP => first | k_is | rfl | (decide +kernel))
    (case poP => first | k_is | rfl | (decide +kernel))
    (case stP => first | k_is | rfl | (decide +kernel))
    (case nSP => first | k_is | rfl | (decide +kernel))
    (case nCP => first | k_is | rfl | (decide +kernel))
    (case nJP => first | k_is | rfl | (decide +kernel))
    (case nOP => first | k_is | rfl | (decide +kernel))
    (case mkP => first | k_is | rfl | (decide +kernel))
    (case keP => first | k_is | rfl | (decide +kernel))
    (case itP => first | k_is | rfl | (decide +kernel))
    (case ifP => first | k_is | rfl | (decide +kernel))
    (case sl_P => first | k_is | rfl | (decide +kernel))
    (case sc_P => first | k_is | rfl | (decide +kernel))
    (case ce_P => first | k_is | rfl | (decide +kernel))
    (case co_P => first | k_is | rfl | (decide +kernel))
    (case fi_P => first | k_is | rfl | (decide +kernel))
    (case fe_P => first | k_is | rfl | (decide +kernel))
    (case di_P => first | k_is | rfl | (decide +kernel))
    (case mr_P => first | k_is | rfl | (decide +kernel))
    (case ks_P => first | k_is | rfl | (decide +kernel))
    (case aR => first | k_is | rfl | (decide +kernel))
    (case pgR => first | k_is | rfl | (decide +kernel))
    (case hdR => first | k_is | rfl | (decide +kernel))
    (case poR => first | k_is | rfl | (decide +kernel))
    (case stR => first | k_is | rfl | (decide +kernel))
    (case nSR => first | k_is | rfl | (decide +kernel))
    (case nCR => first | k_is | rfl | (decide +kernel))
    (case nJR => first | k_is | rfl | (decide +kernel))
    (case nOR => first | k_is | rfl | (decide +kernel))
    (case mkR => first | k_is | rfl | (decide +kernel))
    (case keR => first | k_is | rfl | (decide +kernel))
    (case itR => first | k_is | rfl | (decide +kernel))
    (case ifR => first | k_is | rfl | (decide +kernel))
    (case sl_R => first | k_is | rfl | (decide +kernel))
    (case sc_R => first | k_is | rfl | (decide +kernel))
    (case ce_R => first | k_is | rfl | (decide +kernel))
    (case co_R => first | k_is | rfl | (decide +kernel))
    (case fi_R => first | k_is | rfl | (decide +kernel))
    (case fe_R => first | k_is | rfl | (decide +kernel))
    (case di_R => first | k_is | rfl | (decide +kernel))
    (case mr_R => first | k_is | rfl | (decide +kernel))
    (case ks_R => first | k_is | rfl | (decide +kernel))
    (case opq => first | k_is | rfl | (decide +kernel))
    (case tyNI => first | k_is | rfl | (decide +kernel))
    (case fnNI => first | k_is | rfl | (decide +kernel))
    (case lNI => first | k_is | rfl | (decide +kernel))
    (case cNI => first | k_is | rfl | (decide +kernel))
    (case kNI => first | k_is | rfl | (decide +kernel))
    (case capD => first | k_is | rfl | (decide +kernel))
    (case lring => first | k_is | rfl | (decide +kernel))
    (case p_isrP => first | k_is | rfl | (decide +kernel))
    (case i_isrP => first | k_is | rfl | (decide +kernel))
    (case lMisrP => first | k_is | rfl | (decide +kernel))
    (case cMisrP => first | k_is | rfl | (decide +kernel))
    (case kMisrP => first | k_is | rfl | (decide +kernel))
    (case p_isrR => first | k_is | rfl | (decide +kernel))
    (case i_isrR => first | k_is | rfl | (decide +kernel))
    (case lMisrR => first | k_is | rfl | (decide +kernel))
    (case cMisrR => first | k_is | rfl | (decide +kernel))
    (case kMisrR => first | k_is | rfl | (decide +kernel))
    (case gMD => first | k_is | rfl | (decide +kernel))
    (case gDK => first | k_is | rfl | (decide +kernel))
    (case lDK => first | k_is | rfl | (decide +kernel))
    (case kDK => exact ⟨⟨_, _, rfl, rfl⟩, ⟨_, _, rfl, rfl⟩, trivial⟩)
    (case oDK => first | k_is | rfl | (decide +kernel))
    (case vDK0 => first | k_is | rfl | (decide +kernel))
    (case vDK1 => first | k_is | rfl | (decide +kernel))
    (case sgb => first | k_is | rfl | (decide +kernel))

