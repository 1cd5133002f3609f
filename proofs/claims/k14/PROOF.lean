import PyProof.Rows.All
import Wide.All
import OpenK.AllK
import Wide.FinOn
import KE.KSuper
import HandS.ForMost
import HandS.ForExc
import HandS.Star
import HandS.ClsMeth
import HandS.ExcInit
import HandS.ExcIs
import HandS.ExcField
import HandS.HotCalls
import HandS.Iter
import HandS.Walk
import KE.GoesEnum
import HandS.DictComp
import HandS.IsInst
import KE.KExcIs
import HandS.Zip
import KE.GoesMore
import HandS.Rev
import HandS.TupAny
import HandS.RaiseMore
import HandS.OwnEq
import HandS.Deep
import KE.DataFind
import HandS.Comp
import HandS.SortOrd
import HandS.SortRule
import HandS.TupSets
import HandS.DictTup
import HandS.FStr
import HandS.TupLen
import HandS.Flow
import HandS.Style
import HandS.Property
import HandS.Conv
import HandS.Codes
import KE.DataMinMax
import PySem.Challenge.RW_withincall_k14_whole_rings
set_option Elab.async false
set_option linter.all false
set_option maxRecDepth 100000
set_option maxHeartbeats 4000000
namespace WC
open PySem PySem.Spec PyProof.Rows L2

/-! cells of a def that closes over the class -/
theorem cf_app : ∀ (names : List (Str × NameKind)) (n : Nat) (acc : List (Str × Addr)), cellsFrom n names acc = cellsFrom n names [] ++ acc
  | [], _, _ => rfl
  | (x, k) :: r, n, acc => by
    unfold cellsFrom
    by_cases hk : (k == NameKind.cell) = true
    · simp only [hk, if_true]
      rw [cf_app r (n + 1) ((x, n) :: acc), cf_app r (n + 1) [(x, n)], List.append_assoc]
      rfl
    · simp only [hk, if_false]
      exact cf_app r n acc
theorem cf_mem : ∀ (names : List (Str × NameKind)) (n : Nat) (x : Str) (c : Addr), (x, c) ∈ cellsFrom n names [] → (x, NameKind.cell) ∈ names
  | [], _, _, _, h => by cases h
  | (y, k) :: r, n, x, c, h => by
    unfold cellsFrom at h
    by_cases hk : (k == NameKind.cell) = true
    · simp only [hk, if_true] at h
      rw [cf_app, List.mem_append] at h
      rcases h with h | h
      · exact List.mem_cons_of_mem _ (cf_mem r _ x c h)
      · have e := List.mem_singleton.mp h
        cases e
        have e2 : k = NameKind.cell := by cases k <;> first | rfl | cases hk
        rw [e2]
        exact List.mem_cons_self
    · simp only [hk, if_false] at h
      exact List.mem_cons_of_mem _ (cf_mem r _ x c h)
theorem store_same {e1 e2 : Env} {x : Str} {v : Value} (h1 : e1.scope = e2.scope) (h2 : e1.locals = e2.locals) (h3 : e1.globals = e2.globals) (h4 : e1.cells.lookup x = e2.cells.lookup x) : storeName e1 x v = storeName e2 x v := by
  obtain ⟨s1, l1, g1, c1⟩ := e1
  obtain ⟨s2, l2, g2, c2⟩ := e2
  dsimp only at h1 h2 h3 h4
  subst h1 h2 h3
  unfold storeName PySem.cellOf
  simp only [h4]
  rfl
theorem forIn_same {β : Type} {α : Type} {f g : α → β → Sem (ForInStep β)} : ∀ (l : List α) (b : β), (∀ a ∈ l, ∀ b, f a b = g a b) → forIn l b f = forIn l b g
  | [], _, _ => rfl
  | a :: l, b, h => by
    rw [List.forIn_cons, List.forIn_cons, h a List.mem_cons_self]
    congr 1
    funext r
    cases r with
    | done b => rfl
    | yield b => exact forIn_same l b fun c hc => h c (List.mem_cons_of_mem _ hc)
end WC

set_option maxHeartbeats 4000000
namespace WC
open PySem PySem.Spec PyProof.Rows L2
section
variable {M : Model} {A : Around} {E : Value → Shared → Prop} {s : Shared}
theorem env_made {scope : Scope} {gl cc : Addr} {binds : List (Str × Value)} {qual : Str} {func : Option Addr} {code : Value} {blt : Addr} {Q : Env → Shared → Prop} (hk : scope.kind = .function)
    (hb : ∀ x ∈ binds, x.1 ≠ ("__class__" : Str) ∧ (scope.names.lookup x.1 = some .local ∨ (scope.names.lookup x.1 = some .cell ∧ ((cellsFrom (s.heap.objs.size + 1) scope.names []).lookup x.1).isSome = true)))
    (hQ : ∀ s', InCallC s s.heap.objs.size (bindL (fun x => scope.names.lookup x) binds fun _ => none) (cellsFrom (s.heap.objs.size + 1) scope.names []) (bindC (fun x => scope.names.lookup x) binds fun _ => none) s' →
      Q (newEnv scope s.heap.objs.size gl (cellsFrom (s.heap.objs.size + 1) scope.names [] ++ [(("__class__" : Str), cc)]) qual func code none blt) s') :
    wpAny M A (newFunctionEnv scope gl [(("__class__" : Str), cc)] binds qual func code none blt) Q E s := by
  have hz : ∀ o : Obj, ({ s with heap := s.heap.push o } : Shared).heap.objs.size = s.heap.objs.size + 1 := fun o => Heap.size_push ..
  have ok := cellsFrom_ok scope.names (s.heap.push { cls := .type "frame", data := .dict #[] }) (s.heap.objs.size + 1) [] ⟨fun _ _ z => (nomatch z), .nil⟩ (by rw [Heap.size_push]; exact Nat.le_refl _)
  rw [Heap.size_push] at ok
  simp only [newFunctionEnv, Option.isSome_none, Bool.false_eq_true, if_false]
  refine wpAny_bind <| wpAny_alloc ?_
  refine wpAny_bind <| wpAny_layCells _ (fun name kind cells => by cases e : kind == NameKind.cell <;> simp [e]) _ _ _ _ ?_
  rw [hz, cf_app]
  have st : ∀ x ∈ binds, ∀ u : PUnit, (do storeName (newEnv scope s.heap.objs.size gl (cellsFrom (s.heap.objs.size + 1) scope.names [] ++ [(("__class__" : Str), cc)]) qual func code none blt) x.1 x.2; pure (ForInStep.yield PUnit.unit) : Sem _) =
      (do storeName (newEnv scope s.heap.objs.size gl (cellsFrom (s.heap.objs.size + 1) scope.names []) qual func code none blt) x.1 x.2; pure (ForInStep.yield PUnit.unit)) := fun x hx _ => by
    have ne := (hb x hx).1
    have hl : List.lookup x.1 [(("__class__" : Str), cc)] = none := by
      have q : (x.1 == ("__class__" : Str)) = false := by simpa using ne
      simp [List.lookup, q]
    have h := store_same (v := x.2) (e1 := newEnv scope s.heap.objs.size gl (cellsFrom (s.heap.objs.size + 1) scope.names [] ++ [(("__class__" : Str), cc)]) qual func code none blt) (e2 := newEnv scope s.heap.objs.size gl (cellsFrom (s.heap.objs.size + 1) scope.names []) qual func code none blt) rfl rfl rfl (by
      show List.lookup x.1 (cellsFrom (s.heap.objs.size + 1) scope.names [] ++ [(("__class__" : Str), cc)]) = List.lookup x.1 (cellsFrom (s.heap.objs.size + 1) scope.names [])
      rw [List.lookup_append, hl]
      cases List.lookup x.1 (cellsFrom (s.heap.objs.size + 1) scope.names []) <;> rfl)
    rw [h]
  refine wpAny_bind ?_
  refine Eq.mpr (congrArg (fun t => wpAny M A t _ E _) (forIn_same binds PUnit.unit fun x hx b => st x hx b)) ?_
  refine wpAny_bindParams (s₀ := s) (env := newEnv scope s.heap.objs.size gl (cellsFrom (s.heap.objs.size + 1) scope.names []) qual func code none blt) _ (fun _ _ _ => rfl) hk binds (fun _ => none) (fun _ => none) _ _
    ⟨⟨⟨_, _, rfl⟩, (Heap.Ns.new s.heap (.type "frame")).keeps (pushCells_keeps _ _), fun b o e => pushCells_keeps _ _ b o (Heap.get?_push_of_some _ e), Nat.le_refl _⟩, fun n c hc => (ok.empty n c (mem_of_lookup hc)).1, ok.apart, fun n c hm => (ok.empty n c hm).2⟩
    (fun x hx => (hb x hx).2) fun s' x => wpAny_pure (hQ s' x)
end
end WC

set_option maxHeartbeats 4000000
namespace WC
open PySem PySem.Spec PyProof.Rows L2
abbrev cls_ : Str := "__class__"
/-- names of a def that says super(): the parameters first; one captured name, the class -/
structure CScope (N ps : List Str) (sc : Scope) : Prop where
  knd : sc.kind = .function
  coR : sc.isCoroutine = false
  gnr : sc.isGenerator = false
  nod : N.Nodup
  pfx : N.take ps.length = ps
  prm : ∀ x ∈ ps, x ≠ cls_ ∧ (sc.names.lookup x = some .local ∨ sc.names.lookup x = some .cell)
  fre : ∀ y ∈ sc.names, y.2 = .free → y.1 = cls_
  frc : sc.names.lookup cls_ = some .free
  nin : cls_ ∉ N
  once : ∀ y ∈ sc.names, y.1 = cls_ → y.2 = .free
abbrev envS (qual : Str) (sc : Scope) (L f : Addr) (cd : Value) (cc : Addr) : Env := PySem.W.envX qual sc L f cd (cellsFrom (L + 1) sc.names [] ++ [(cls_, cc)])
def cxS (CX : CXT) (P : Program) (w : World) (K : PySem.W.Frag) (mg : Str → Option Value) (base : Heap) (N : List Str) (qual : Str) (sc : Scope) (f : Addr) (cd : Value) (cc : Addr) (A : Around) (outer : List Env) (s : Shared) (H : Hp) (E : XK) : Cx :=
  { prog := P, w := w, K := K, mg := mg, base := base, A := A.deeper (envS qual sc s.heap.objs.size f cd cc), N := N, s_0 := s, H_0 := H, env := envS qual sc s.heap.objs.size f cd cc, outer := outer,
    stack := envS qual sc s.heap.objs.size f cd cc :: outer, ex := [], calm := true, fn := fun y => decide (y ≠ cls_), pn := [],
    xe := fun e s' => wpAny (model P w) (A.deeper (envS qual sc s.heap.objs.size f cd cc)) (leaving (envS qual sc s.heap.objs.size f cd cc) e) (fun _ s2 => CX outer H s E e s2) (fun e2 s2 => CX outer H s E e2 s2) s' }
theorem look_app {l : List (Str × Addr)} {x : Str} {cc c : Addr} (h : (l ++ [(cls_, cc)]).lookup x = some c) : l.lookup x = some c ∨ (x = cls_ ∧ c = cc) := by
  rw [List.lookup_append] at h
  cases e : l.lookup x with
  | some d => rw [e] at h; exact .inl h
  | none =>
    rw [e] at h
    have h : List.lookup x [(cls_, cc)] = some c := h
    by_cases q : x = cls_
    · subst q
      have z : List.lookup cls_ [(cls_, cc)] = some cc := by simp [List.lookup]
      rw [z] at h
      exact .inr ⟨rfl, (Option.some.inj h).symm⟩
    · have b : (x == cls_) = false := by simpa using q
      have z : List.lookup x [(cls_, cc)] = none := by simp [List.lookup, b]
      rw [z] at h
      cases h
section
variable {CX : CXT} {P : Program} {w : World} {K : PySem.W.Frag} {mg : Str → Option Value} {base : Heap} {N ps : List Str} {qual : Str} {sc : Scope} {f cc D : Addr} {cd : Value} {A : Around} {outer : List Env} {s s1 : Shared} {H : Hp} {E : XK} {us : List Value} {vs : List V}
theorem inv_startS {kc : Value} {dc : Option Addr} {lc : Array (Option Value)} (S : CScope N ps sc) (hd : A.handled = none) (e0 : Env0 P w K mg base A outer s H) (hl : vs.length = ps.length) (r : Vals vs us) (hcc : K.lookup cc = some ⟨kc, dc, .cell (some (.ref D)), lc⟩)
    (x : InCallC s s.heap.objs.size (bindL (fun x => sc.names.lookup x) (ps.zip us) fun _ => none) (cellsFrom (s.heap.objs.size + 1) sc.names []) (bindC (fun x => sc.names.lookup x) (ps.zip us) fun _ => none) s1) :
    Inv (cxS CX P w K mg base N qual sc f cd cc A outer s H E) [] (start N vs) H s1 := by
  have hN : ps.length ≤ N.length := by
    have z := congrArg List.length S.pfx
    rw [List.length_take] at z
    omega
  obtain ⟨h1, tk, rfl, hk⟩ := x.done
  have bcc : base.get? cc = some ⟨kc, dc, .cell (some (.ref D)), lc⟩ := e0.mod.kin _ _ hcc
  have scc := e0.bs _ _ bcc
  have ltc : cc < s.heap.objs.size := Heap.lt_size scc.1
  have nm : ∀ y c, (cellsFrom (s.heap.objs.size + 1) sc.names []).lookup y = some c → y ≠ cls_ ∧ s.heap.objs.size < c := fun y c h => by
    have m := mem_of_lookup h
    refine ⟨fun z => ?_, x.above y c m⟩
    have z2 := S.once _ (cf_mem _ _ _ _ m) z
    cases z2
  have lkc : (cellsFrom (s.heap.objs.size + 1) sc.names [] ++ [(cls_, cc)]).lookup cls_ = some cc := by
    rw [List.lookup_append]
    cases e : (cellsFrom (s.heap.objs.size + 1) sc.names []).lookup cls_ with
    | some c => exact absurd rfl (nm _ _ e).1
    | none => show List.lookup cls_ [(cls_, cc)] = some cc; simp [List.lookup]
  have lko : ∀ y c, (cellsFrom (s.heap.objs.size + 1) sc.names []).lookup y = some c → (cellsFrom (s.heap.objs.size + 1) sc.names [] ++ [(cls_, cc)]).lookup y = some c := fun y c e => by
    rw [List.lookup_append, e]
    rfl
  have nx : ∀ b : Addr, b ∉ (cxS CX P w K mg base N qual sc f cd cc A outer s H E).ex := fun b z => absurd (show b ∈ ([] : List Addr) from z) (by simp)
  refine
    { ok :=
        { mod := e0.mod, kind := S.knd, glob := rfl, blt := rfl, above := Nat.le_refl _,
          inj := fun y z c g1 g2 => ?_, has := fun y hy => ?_, cab := fun y c g1 g2 => ?_, hd := fun _ => hd, frames := Around.frames_deeper e0.frames, stk := .inr ⟨rfl, rfl⟩, exf := fun b z => absurd z (nx b), bs := e0.bs, bsz := e0.bsz,
          noex := fun b _ _ => nx b, exfs := fun b z => absurd z (nx b), funs := e0.funs, frf := e0.frf },
      os := rfl, bare := e0.bare, base := Un.kept hk, loc := ⟨_, x.toInCall.ns, fun i y v g1 g2 g3 => ?_⟩, cell := fun y c g => ?_, free := e0.hok.fresh (Nat.le_refl _), freeC := fun y c g => ?_,
      pin := fun p hp => absurd (show p ∈ ([] : List (Addr × Obj)) from hp) (by simp), hok := e0.hok.kept hk, len := ?_ }
  · rcases look_app g1 with a | ⟨a, a2⟩
    · rcases look_app g2 with b | ⟨b, b2⟩
      · exact name_of_addr x.apart (mem_of_lookup a) (mem_of_lookup b)
      · exact absurd (Nat.lt_trans ((b2 : c = cc) ▸ (nm _ _ a).2) ltc) (Nat.lt_irrefl _)
    · rcases look_app g2 with b | ⟨b, b2⟩
      · exact absurd (Nat.lt_trans ((a2 : c = cc) ▸ (nm _ _ b).2) ltc) (Nat.lt_irrefl _)
      · rw [a, b]
  · have hy : sc.names.lookup y = some .cell ∨ sc.names.lookup y = some .free := hy
    rcases hy with hy | hy
    · obtain ⟨c, hc⟩ := cell_has (n := s.heap.objs.size + 1) hy
      exact ⟨c, lko _ _ hc⟩
    · have z := S.fre _ (mem_of_lookup hy) rfl
      have z : y = cls_ := z
      rw [z]
      exact ⟨cc, lkc⟩
  · have g1 : y ≠ cls_ := of_decide_eq_true g1
    rcases look_app g2 with a | ⟨a, _⟩
    · exact Nat.le_of_lt (nm _ _ a).2
    · exact absurd a g1
  · have hi : i < vs.length := by
      unfold L2.start at g2
      by_cases hi : i < vs.length
      · exact hi
      · rw [List.getElem?_append_right (by simpa using hi), List.getElem?_replicate] at g2
        split at g2 <;> cases g2
    have ha : vs[i]? = some v := by
      unfold L2.start at g2
      rw [List.getElem?_append_left (by simpa using hi), List.getElem?_map] at g2
      cases e : vs[i]? with
      | none => rw [e] at g2; cases g2
      | some a => rw [e] at g2; cases g2; rfl
    obtain ⟨u, hu, rv⟩ := r.get ha
    have hp : ps[i]? = some y := by
      rw [← S.pfx, List.getElem?_take_of_lt (by omega)]
      exact g1
    have ndP : ps.Nodup := by
      rw [← S.pfx]
      exact S.nod.sublist (List.take_sublist _ _)
    refine ⟨u, rv, ?_⟩
    rcases (S.prm y (List.mem_of_getElem? hp)).2 with k | k
    · exact .inl ⟨k, bindL_get ndP hp hu k⟩
    · obtain ⟨c, e⟩ := cell_has (n := s.heap.objs.size + 1) k
      refine .inr ⟨.inl k, c, lko _ _ e, ?_⟩
      have q := x.cell y c e
      rw [bindC_get ndP hp hu (by rw [k]; decide)] at q
      exact q
  · rcases look_app g with a | ⟨_, a⟩
    · exact ⟨_, x.cell _ _ a⟩
    · subst a
      exact ⟨_, _, hk _ _ scc.1, rfl⟩
  · rcases look_app g with a | ⟨_, a⟩
    · exact e0.hok.fresh (Nat.le_of_lt (nm _ _ a).2)
    · subst a
      exact scc.2
  · unfold L2.start
    show _ = N.length
    rw [List.length_append, List.length_map, List.length_replicate]
    omega
end
end WC

set_option maxHeartbeats 4000000
namespace WC
open PySem PySem.Spec PyProof.Rows L2
/-- a block, run in the activation c -/
structure PX (X : Cx) (c : Code) (st : List Stmt) (t : TS) : Prop where
  run : ∀ (pins : List (Addr × Obj)) (s : Shared) (σ : L2.St) (H : Hp) (D : Ends), Inv X pins σ H s → t D σ H → PySem.wpAt (model X.prog X.w) X.A c (execs st X.env) (SP X pins D) X.xe s
section
variable {X : Cx} {c : Code} {st : Stmt} {rest : List Stmt} {t u : TS}
theorem px_of {st : List Stmt} (h : PSs X st t) : PX X c st t := ⟨fun pins s σ H D I z => wpAt_of_wpAny (h.run pins s σ H D I z)⟩
theorem px_cons (h1 : PS X st t) (h2 : PX X c rest u) : PX X c (st :: rest) (tSeq t u) := by
  refine ⟨fun pins s σ H D I h => ks_wpAt_execs_cons (wpAt_of_wpAny (thn (h1.run pins s σ H { D with nx := u D } I h) fun f s1 q => ?_))⟩
  cases f with
  | next =>
    obtain ⟨σ1, H1, I1, q1⟩ := q
    exact h2.run pins s1 σ1 H1 D I1 q1
  | ret v => exact q
  | brk => exact q
  | cont => exact q
/-- what the written part says for super() in a method of the class at D, called upon an instance of the class at C; g: the def that is met -/
structure SupTxt (P : Program) (K : PySem.W.Frag) (mg : Str → Option Value) (D C g : Addr) (m : Str) : Prop where
  dCls : ∃ cdD, PySem.W.clsIn K D = some cdD
  sub : PySem.W.mroIn K C (.ref D) = some true
  sup : mg "super" = none
  nat : (m == cls_) = false
  top : (P.main.scope.names.lookup ("super" : Str)).isSome = false
  opq : PySem.W.nsIn K cStatics "thirdparty.any" = some none
  met : PySem.W.ks_superIn K C D m = some (some (.ref g))
  typ : PySem.W.typeIn K (.ref g) = some (.type "function")
  fni : PySem.W.fnIn K g = true
/-- what it says of the def that says so: where it stands, its cell, its code -/
structure SelfTxt (P : Program) (K : PySem.W.Frag) (env : Env) (D : Addr) (slf : Str) : Prop where
  kS : env.kindOf "super" = some .globalImplicit
  kC : env.kindOf cls_ = some .free
  kL : env.kindOf slf = some .local
  lc : ∃ cc k d l, env.cells.lookup cls_ = some cc ∧ K.lookup cc = some ⟨k, d, .cell (some (.ref D)), l⟩
  fn : ∃ f oc od fd sl ar, env.func = some f ∧ K.lookup f = some ⟨oc, od, .func fd, sl⟩ ∧ (fd.params.posonlyargs ++ fd.params.args).head? = some ar ∧ ar.arg = slf
  cod : ∃ c oc od vs sl file t, env.code = .ref c ∧ K.lookup c = some ⟨oc, od, .fields vs, sl⟩ ∧ vs[2]? = some (.str file t) ∧ ((P.main.file : Str) == file) = true
/-- super().m(e, ..) -/
def tSup (C : Addr) (i : Nat) (sp : Sp) (E : XK) (t : TA) : TE := fun σ H Q => ∃ x dx fs, σ[i]? = some (some (.ref x)) ∧ H x = some (.ins C dx fs) ∧ t σ H fun vs H1 => sp (.ref x :: vs) H1 Q E
section
variable {CX : CXT} {k i : Nat} {C D g : Addr} {sp : Sp} {E : XK} {e : Expr} {es : List Expr} {m slf : Str} {p0 p1 p2 p3 : Pos} {ta : TA} {body : List Stmt} {pl : Sem Bool}
theorem at_sup {pins : List (Addr × Obj)} {s : Shared} {σ : L2.St} {H : Hp} {Q : VK} (T : SupTxt X.prog X.K X.mg D C g m) (Z : SelfTxt X.prog X.K X.env D slf) (F : FnR X.prog X.w X.K X.mg X.base CX k g sp) (hr : Room k X.A) (hx : Passes CX X E) (hN : X.N[i]? = some slf) (ha : PA X (e :: es) ta)
    (he : eval (.Call (.Attribute (.Call (.Name "super" p0) [] [] p1) m p2) (e :: es) [] p3) X.env = (do
      let ov ← attributeBase (.Call (.Name "super" p0) [] [] p1) m X.env (eval (.Call (.Name "super" p0) [] [] p1) X.env)
      standAt p2.atName
      let (f, first) ← holding [ov] (getMethod ov m pl)
      callWith p3 f first (backTo p3 (starEach (e :: es) X.env)) [])) 
    (hst : starEach (e :: es) X.env = (false, eval e X.env) :: starEach es X.env) (hpl : (backTo p3 (starEach es X.env)).any (·.1) = false)
    (I : Inv X pins σ H s) (h : tSup C i sp E ta σ H Q) : PySem.wpAt (model X.prog X.w) X.A (.func body X.env) (eval (.Call (.Attribute (.Call (.Name "super" p0) [] [] p1) m p2) (e :: es) [] p3) X.env) (EP X pins σ Q) X.xe s := by
  obtain ⟨x, dx, fs, hs, hH, ht⟩ := h
  obtain ⟨f, of1, of2, fd, of3, ar, ef, kf, hd, har⟩ := Z.fn
  obtain ⟨c, oc1, oc2, vs, oc3, file, tf, ec, kc, hvs, hfile⟩ := Z.cod
  obtain ⟨cc, k1, k2, k3, lcc, kcc⟩ := Z.lc
  obtain ⟨cdD, hD⟩ := T.dCls
  have K1 := I.kIn
  obtain ⟨oD, hD1, hD2⟩ : ∃ oD, s.heap.get? D = some oD ∧ oD.data = .cls cdD := by
    unfold PySem.W.clsIn at hD
    split at hD
    · rename_i a b cd' d ho
      cases hD
      exact ⟨_, K1 _ _ ho, rfl⟩
    · cases hD
  obtain ⟨_, O, _, _, _⟩ := ins_get I.hok hH
  have hob := O.1
  refine ks_wpAt_MethodCall ?_ he
  refine ks_wpAt_super_base Z.kS Z.kC T.nat ef (K1 _ _ kf) rfl hd ec (K1 _ _ kc) rfl hvs hfile T.top ?_
  obtain ⟨mb, hb1, hb2⟩ := I.mod.blt
  refine PySem.W.ks_loadName_global I.ok.kind Z.kS (Calls.loadGlobal_builtin (by rw [I.ok.glob]; exact I.mod.glob.keeps I.bk) T.sup (by rw [I.ok.blt]; exact hb1.keeps I.bk) ((hb2 _ (by decide)).trans (show bootBuiltins "super" = some (.type "super") by decide +kernel)) ⟨rfl, ?_⟩)
  refine wpAny_loadName_free I.ok.kind Z.kC lcc ⟨_, K1 _ _ kcc, rfl⟩ ?_
  obtain ⟨mL, hn, hl⟩ := id I.loc
  obtain ⟨u, ru, lu⟩ := hl i slf _ hN hs (.inl Z.kL)
  obtain rfl : u = Value.ref x := ru
  have hm : mL slf = some (.ref x) := by
    rcases lu with ⟨_, q⟩ | ⟨q, _⟩
    · exact q
    · rw [Z.kL] at q
      rcases q with q | q <;> cases q
  rw [har]
  refine wpAny_loadName_local I.ok.kind Z.kL hn hm ?_
  refine ks_wpAny_isType_cls hD1 hD2 ⟨rfl, ?_⟩
  refine ks_wpAny_call_super hD1 hD2 hob rfl (fun c e => by cases e) (PySem.W.looks_mroIn K1 T.sub) fun h1 e1 k1 => ?_
  have I1 : Inv X pins σ H { s with heap := h1, toks := s.toks } := I.kept (t' := s.toks) k1
  have K2 := I1.kIn
  have K2 : X.K.In h1 := K2
  cases hC : PySem.W.clsIn X.K C with
  | none =>
    have z := T.met
    unfold PySem.W.ks_superIn at z
    rw [hC] at z
    cases z
  | some cd =>
    have z := T.met
    unfold PySem.W.ks_superIn at z
    rw [hC] at z
    obtain ⟨og, hog, hogc⟩ : ∃ og, h1.get? g = some og ∧ og.cls = .type "function" := by
      have y : (X.K.lookup g).map (·.cls) = some (.type "function") := T.typ
      cases q : X.K.lookup g with
      | none => rw [q] at y; cases y
      | some og =>
        rw [q] at y
        exact ⟨og, K2 _ _ q, Option.some.inj y⟩
    have hxC : x ≠ C := by
      rintro rfl
      unfold PySem.W.clsIn at hC
      split at hC
      · rename_i a b cd' d ho
        have e := K1 _ _ ho
        rw [hob] at e
        cases e
      · cases hC
    refine ks_wpAny_getMethod_super e1 (PySem.W.looks_opaque K2 T.opq) (l₀ := cd.mro) (fun A Q E s k q => wpAny_bind ((PySem.W.looks_clsIn K2 hC) A _ E s k (wpAny_pure q))) rfl K2 z hog hogc hxC T.nat ?_
    have I2 := ClX.met_new (C := x) (g := g) I1
    refine ClX.callwith_cm (C := x) (g := g) I2 (ClX.base_none I1 (Nat.le_refl _)) T.fni (thn (ha.run p3 _ _ σ H _ I2 ht) fun us s3 ⟨vs3, H3, I3, rv, q3⟩ => ⟨⟨ClX.pin_at I3, I3.kIn⟩, ?_⟩) hst hpl
    exact ClX.run_cm F hr hx I3 rv q3
end
end
end WC

set_option maxHeartbeats 4000000
namespace WC
open PySem PySem.Spec PyProof.Rows L2
section
variable {X : Cx} {CX : CXT} {k i : Nat} {C D g : Addr} {sp : Sp} {E : XK} {e : Expr} {es : List Expr} {m slf : Str} {p0 p1 p2 p3 p4 : Pos} {ta : TA} {body rest : List Stmt} {pl : Sem Bool} {u : TS}
/-- super().m(e, ..) as a statement -/
theorem px_sup (T : SupTxt X.prog X.K X.mg D C g m) (Z : SelfTxt X.prog X.K X.env D slf) (F : FnR X.prog X.w X.K X.mg X.base CX k g sp) (hr : Room k X.A) (hx : Passes CX X E) (hN : X.N[i]? = some slf) (ha : PA X (e :: es) ta) (hrest : PX X (.func body X.env) rest u)
    (he : eval (.Call (.Attribute (.Call (.Name "super" p0) [] [] p1) m p2) (e :: es) [] p3) X.env = (do
      let ov ← attributeBase (.Call (.Name "super" p0) [] [] p1) m X.env (eval (.Call (.Name "super" p0) [] [] p1) X.env)
      standAt p2.atName
      let (f, first) ← holding [ov] (getMethod ov m pl)
      callWith p3 f first (backTo p3 (starEach (e :: es) X.env)) []) := by rfl)
    (hst : starEach (e :: es) X.env = (false, eval e X.env) :: starEach es X.env := by rfl) (hpl : (backTo p3 (starEach es X.env)).any (·.1) = false := by rfl)
    (hs : swapsWith (.Call (.Attribute (.Call (.Name "super" p0) [] [] p1) m p2) (e :: es) [] p3) none p4.line X.env = pure false := by rfl) :
    PX X (.func body X.env) (.Expr (.Call (.Attribute (.Call (.Name "super" p0) [] [] p1) m p2) (e :: es) [] p3) p4 :: rest) (tSeq (tDrop (tSup C i sp E ta)) u) := by
  refine ⟨fun pins s σ H D0 I h => ks_wpAt_execs_cons (ks_wpAt_Expr_any (PySem.wpAt_mono (at_sup T Z F hr hx hN ha he hst hpl I h) (fun v s1 q => ?_) fun _ _ q => q) I.quiet hs)⟩
  obtain ⟨v1, H1, I1, r1, q1⟩ := q
  exact hrest.run pins s1 σ H1 D0 I1 q1
end
section
variable {CX : CXT} {P : Program} {w : World} {K : PySem.W.Frag} {mg : Str → Option Value} {base : Heap} {k : Nat} {f cc D : Addr} {name qual : Str} {params : Arguments} {body : List Stmt} {sc : Scope} {dV kV doc pm cdv ct oc kc : Value} {an od dc : Option Addr}
  {osl lc : Array (Option Value)} {N ps : List Str} {sp : Sp}
theorem run_bndS {A : Around} {outer : List Env} {s : Shared} {H : Hp} {args : Args} {Q : VK} {E : XK} {G : List V → Hp → Prop} (lk : K.lookup f = some ⟨oc, od, .func (PySem.W.fnX name qual params body sc [(cls_, cc)] dV kV doc pm an cdv ct), osl⟩) (hcd : PySem.W.codeIn K cdv qual = true)
    (hcc : K.lookup cc = some ⟨kc, dc, .cell (some (.ref D)), lc⟩) (S : CScope N ps sc) (hr : Room (k + 1) A) (e0 : Env0 P w K mg base A outer s H)
    (hb : StX.Bnd CX P w K mg base (PySem.W.fnX name qual params body sc [(cls_, cc)] dV kV doc pm an cdv ct) args ps A outer s H E G)
    (hbody : ∀ (s2 : Shared) (H2 : Hp) (vs : List V), G vs H2 → Room k (A.deeper (envS qual sc s2.heap.objs.size f cdv cc)) →
      ∃ t, PX (cxS CX P w K mg base N qual sc f cdv cc A outer s2 H2 E) (.func body (envS qual sc s2.heap.objs.size f cdv cc)) body t ∧ t { nx := fun _ H' => Q .non H', rt := Q } (L2.start N vs) H2) :
    codeAny (model P w) A (.call (.ref f) args) (CR CX outer P w H s Q E) s := by
  have KX : K.In s.heap := e0.mod.kin.keeps fun b o e => (e0.bs b o e).1
  refine codeAny_call_function hr.depth (KX _ _ lk) rfl S.coR S.gnr rfl (PySem.W.codeRec_of KX hcd) ?_
  refine hb _ _ _ fun s2 H2 vs us e2 un ho hx r hl g => ?_
  have lim : s2.heap.NoLimit := e0.mod.nolimit.keeps fun b o e => (e2.bs b o e).1
  refine env_made S.knd (fun y hy => ⟨(S.prm _ (List.of_mem_zip hy).1).1, ?_⟩) fun s1 x => ⟨lim.keeps x.toInCall.keep, ks_codeAny_funcAt ?_⟩
  · rcases (S.prm _ (List.of_mem_zip hy).1).2 with q | q
    · exact .inl q
    · exact .inr ⟨q, PySem.W.cellsFrom_some _ _ _ (.inl q)⟩
  obtain ⟨t, ht, hq⟩ := hbody s2 H2 vs g (hr.deeper _)
  have I : Inv (cxS CX P w K mg base N qual sc f cdv cc A outer s2 H2 E) [] (L2.start N vs) H2 s1 := inv_startS S hr.hd e2 hl r hcc x
  refine PySem.wpAt_mono (ht.run [] s1 _ _ _ I hq) (fun fl s3 hs => ?_) fun e s3 hs => ?_
  · have fin : ∀ {σ3 : L2.St} {H3 : Hp} {v3 : V} {u3 : Value}, Inv (cxS CX P w K mg base N qual sc f cdv cc A outer s2 H2 E) [] σ3 H3 s3 → RelV v3 u3 → Q v3 H3 → CE outer P w H s Q u3 s3 :=
      fun {σ3 H3 v3 u3} J rv q => ⟨v3, H3, J.os.trans ho, J.bare, un.trans J.base, J.hok, rv, q⟩
    cases fl with
    | ret u =>
      obtain ⟨v3, σ3, H3, J, rv, q⟩ := hs
      exact fin J rv q
    | next =>
      obtain ⟨σ3, H3, J, q⟩ := hs
      exact fin (v3 := V.non) (u3 := Value.none) J rfl q
    | brk =>
      obtain ⟨_, _, _, q⟩ := hs
      exact q.elim
    | cont =>
      obtain ⟨_, _, _, q⟩ := hs
      exact q.elim
  · exact wpAny_mono hs (fun _ s4 z => hx e s4 z) fun e2 s4 z => hx e2 s4 z
end
end WC

set_option maxHeartbeats 4000000
namespace WC
open PySem PySem.Spec PyProof.Rows L2
/-- def f(a, .., *pv, k = d, ..): how it binds positional values, the keywords left out (kv: the values of the keywords ks) -/
def BindStar (K : PySem.W.Frag) (fd : FuncData) (ps ks : List Str) (kv : List Value) (pv : Str) : Prop :=
  ∀ (u1 u2 : List Value), u1.length = ps.length → ∀ (M : Model) (A : Around) (Q : List (Str × Value) → Shared → Prop) (E : Value → Shared → Prop) (s : Shared), K.In s.heap →
    wpAny M A (newTuple u2 >>= fun t => pure ((ps ++ ks).zip (u1 ++ kv) ++ [(pv, t)])) Q E s → wpAny M A (bindArgs fd ⟨u1 ++ u2, []⟩) Q E s
theorem BindStar.of_eq {K : PySem.W.Frag} {fd : FuncData} {ps : List Str} {pv : Str} (h : ∀ u1 u2 : List Value, u1.length = ps.length → bindArgs fd ⟨u1 ++ u2, []⟩ = (newTuple u2 >>= fun t => pure (ps.zip u1 ++ [(pv, t)]))) : BindStar K fd ps [] [] pv := fun u1 u2 hl M A Q E s _ z => by
  rw [h u1 u2 hl]
  rw [List.append_nil, List.append_nil] at z
  exact z
/-- one keyword -/
theorem BindStar.of_kw {K : PySem.W.Frag} {fd : FuncData} {ps : List Str} {k1 pv : Str} {v : Value} {D : Addr} (hD : PySem.W.nsIn K D k1 = some (some v))
    (h : ∀ u1 u2 : List Value, u1.length = ps.length → ∃ (β γ : Type) (f1 : Option Value → Sem β) (f2 : β → Sem γ) (f3 : γ → Sem (List (Str × Value))) (a : β), bindArgs fd ⟨u1 ++ u2, []⟩ = ((nsGet D k1 >>= f1) >>= f2) >>= f3 ∧ f1 (some v) = pure a ∧
      (f2 a >>= f3) = (newTuple u2 >>= fun t => pure ((ps ++ [k1]).zip (u1 ++ [v]) ++ [(pv, t)]))) : BindStar K fd ps [k1] [v] pv := fun u1 u2 hl M A Q E s X z => by
  obtain ⟨β, γ, f1, f2, f3, a, e1, e2, e3⟩ := h u1 u2 hl
  rw [e1, bind_assoc, bind_assoc]
  refine wpAny_bind ((PySem.W.looks_nsIn X hD).here ?_)
  rw [e2, pure_bind, e3]
  exact z
section
variable {CX : CXT} {P : Program} {w : World} {K : PySem.W.Frag} {mg : Str → Option Value} {base : Heap} {k : Nat} {f cc D : Addr} {name qual : Str} {params : Arguments} {body : List Stmt} {sc : Scope} {dV kV doc pm cdv ct oc kc : Value} {an od dc : Option Addr}
  {osl lc : Array (Option Value)} {N ps ks : List Str} {sp : Sp} {pv : Str} {kvV : List V} {kv : List Value}
theorem bnd_star {fd : FuncData} {A : Around} {outer : List Env} {s : Shared} {H : Hp} {E : XK} {ws rest : List V} {us : List Value} (hCX : StX.CXUp CX) (hb : BindStar K fd ps ks kv pv) (hkv : Vals kvV kv) (hks : kv.length = ks.length) (e0 : Env0 P w K mg base A outer s H)
    (r : Vals (ws ++ rest) us) (hl : ws.length = ps.length) (hz : rest.length ≤ sizeLine) :
    StX.Bnd CX P w K mg base fd ⟨us, []⟩ (ps ++ ks ++ [pv]) A outer s H E (fun xs H2 => ∃ p, H p = none ∧ xs = ws ++ kvV ++ [V.ref p] ∧ H2 = upd H p (.tup rest)) := by
  intro A2 Ex Q2 h
  obtain ⟨u1, u2, eu, r1, r2⟩ := StX.vals_split r
  subst eu
  have hl1 : u1.length = ps.length := r1.length ▸ hl
  have hl2 : u2.length ≤ sizeLine := r2.length ▸ hz
  have hn : H s.heap.objs.size = none := e0.hok.fresh (Nat.le_refl _)
  refine hb u1 u2 hl1 _ _ _ _ _ (e0.mod.kin.keeps fun b o e => (e0.bs b o e).1) (wpAny_bind (wpAny_newTuple (wpAny_pure ?_) hl2))
  have new : ObjOk P w (upd H s.heap.objs.size (.tup rest)) (s.heap.push ({ cls := .type "tuple", data := .seq u2.toArray } : Obj)) s.heap.objs.size (.tup rest) := ⟨hz, u2, r2, _, Heap.get?_push_size _ rfl, rfl, _, rfl⟩
  have un := StX.un_laid (fs := frs outer) (s := s) (o := ({ cls := .type "tuple", data := .seq u2.toArray } : Obj)) (u := .tup rest) hn
  have z := h _ _ (ws ++ kvV ++ [V.ref s.heap.objs.size]) (u1 ++ kv ++ [Value.ref s.heap.objs.size]) (StX.env0_laid e0 new) un rfl (fun e s2 => hCX outer s H _ _ E e s2 un (fun b o q => Heap.get?_push_of_some _ q) rfl)
    ((r1.append hkv).append (.cons rfl .nil)) (by simp only [List.length_append, hl, hkv.length, hks, List.length_cons, List.length_nil]) ⟨_, hn, rfl, rfl⟩
  have q : (ps ++ ks).length = (u1 ++ kv).length := by rw [List.length_append, List.length_append, hl1, hks]
  rw [List.zip_append q] at z
  exact z
/-- the rule: a def with *pv that says super() -/
theorem fn_starS (lk : K.lookup f = some ⟨oc, od, .func (PySem.W.fnX name qual params body sc [(cls_, cc)] dV kV doc pm an cdv ct), osl⟩) (hcd : PySem.W.codeIn K cdv qual = true)
    (hcc : K.lookup cc = some ⟨kc, dc, .cell (some (.ref D)), lc⟩) (S : CScope N (ps ++ ks ++ [pv]) sc) (hCX : StX.CXUp CX) (hb : BindStar K (PySem.W.fnX name qual params body sc [(cls_, cc)] dV kV doc pm an cdv ct) ps ks kv pv) (hkv : Vals kvV kv) (hks : kv.length = ks.length)
    (hbody : ∀ (A : Around) (outer : List Env) (s : Shared) (H : Hp) (vs : List V) (Q : VK) (E : XK), Room k (A.deeper (envS qual sc s.heap.objs.size f cdv cc)) → sp vs H Q E →
      ∃ t, PX (cxS CX P w K mg base N qual sc f cdv cc A outer s H E) (.func body (envS qual sc s.heap.objs.size f cdv cc)) body t ∧ t { nx := fun _ H' => Q .non H', rt := Q } (L2.start N vs) H) :
    FnR P w K mg base CX (k + 1) f (fun vs H Q E => ∃ ws rest, vs = ws ++ rest ∧ ws.length = ps.length ∧ rest.length ≤ sizeLine ∧ ∀ p, H p = none → sp (ws ++ kvV ++ [V.ref p]) (upd H p (.tup rest)) Q E) := by
  intro A outer s H us vs Q E hr e0 r hsp
  obtain ⟨ws, rest, ev, hl, hz, hq⟩ := hsp
  subst ev
  refine run_bndS lk hcd hcc S hr e0 (bnd_star hCX hb hkv hks e0 r hl hz) fun s2 H2 xs ⟨p, hp, ex, eH⟩ hr2 => ?_
  subst ex eH
  exact hbody A outer s2 _ _ Q E hr2 (hq p hp)
/-- the same without super() -/
theorem fn_starP (lk : K.lookup f = some ⟨oc, od, .func (PySem.W.fnOf name qual params body sc dV kV doc pm an cdv ct), osl⟩) (hcd : PySem.W.codeIn K cdv qual = true)
    (S : FnScope N (ps ++ ks ++ [pv]) sc) (hCX : StX.CXUp CX) (hb : BindStar K (PySem.W.fnOf name qual params body sc dV kV doc pm an cdv ct) ps ks kv pv) (hkv : Vals kvV kv) (hks : kv.length = ks.length)
    (hbody : ∀ (A : Around) (outer : List Env) (s : Shared) (H : Hp) (vs : List V) (Q : VK) (E : XK), Room k (A.deeper (envOfC qual sc s.heap.objs.size f cdv)) → sp vs H Q E →
      ∃ t, PSs (cxOf CX P w K mg base N qual sc f cdv A outer s H E) body t ∧ t { nx := fun _ H' => Q .non H', rt := Q } (L2.start N vs) H) :
    FnR P w K mg base CX (k + 1) f (fun vs H Q E => ∃ ws rest, vs = ws ++ rest ∧ ws.length = ps.length ∧ rest.length ≤ sizeLine ∧ ∀ p, H p = none → sp (ws ++ kvV ++ [V.ref p]) (upd H p (.tup rest)) Q E) := by
  intro A outer s H us vs Q E hr e0 r hsp
  obtain ⟨ws, rest, ev, hl, hz, hq⟩ := hsp
  subst ev
  refine StX.run_bnd lk hcd S hr e0 (bnd_star hCX hb hkv hks e0 r hl hz) fun s2 H2 xs ⟨p, hp, ex, eH⟩ hr2 => ?_
  subst ex eH
  exact hbody A outer s2 _ _ Q E hr2 (hq p hp)
end
end WC

set_option maxHeartbeats 4000000
namespace WC
open PySem PySem.Spec PyProof.Rows L2
/-! calls: a def of the module by its name; a class by its name, or held by a local name; a function kept in a class -/
/-- the def that the module's name x holds keeps sp -/
structure DefR (P : Program) (w : World) (K : PySem.W.Frag) (mg : Str → Option Value) (base : Heap) (x : Str) (k : Nat) (sp : Sp) : Prop where
  ex : ∃ f, mg x = some (.ref f) ∧ PySem.W.keepIn K (.ref f) = true ∧ FnR P w K mg base (L2.CX P w) k f sp
/-- the class that stands at C is made by sp -/
structure ClsR (P : Program) (w : World) (K : PySem.W.Frag) (mg : Str → Option Value) (base : Heap) (C : Addr) (k : Nat) (sp : Sp) : Prop where
  ex : ∃ f, Mk K C f ∧ FnR P w K mg base (L2.CX P w) k f sp
def tCallR (sp : Sp) (E : XK) (t : TA) : TE := fun σ H Q => t σ H fun vs H1 => sp vs H1 Q E
def tMakeL (i : Nat) (C : Addr) (sp : Sp) (E : XK) (t : TA) : TE := fun σ H Q => σ[i]? = some (some (.ref C)) ∧ StX.tMakeR C sp E t σ H Q
section
variable {X : Cx} {j k i : Nat} {C : Addr} {sp : Sp} {E : XK} {x m : Str} {e o : Expr} {es : List Expr} {t : TA} {ta : TE} {p pos apos : Pos}
theorem pe_cd (D : DefR X.prog X.w X.K X.mg X.base x k sp) (hr : Room j X.A) (hx : Passes (L2.CX X.prog X.w) X E) (ha : PA X (e :: es) t) (hle : k ≤ j := by decide) (hg : Gl X x := by rfl) (hdb : (x == ("__debug__" : Str)) = false := by decide)
    (he : starEach (e :: es) X.env = (false, eval e X.env) :: starEach es X.env := by rfl) (hpl : (backTo pos (starEach es X.env)).any (·.1) = false := by rfl) : PE X (.Call (.Name x p) (e :: es) [] pos) (tCallR sp E t) := by
  obtain ⟨f, hm, hk, F⟩ := D.ex
  refine ⟨fun pins s σ H Q I h => wpAny_Call_Name_kw (ld_glob I hg hm ?_ hdb)⟩
  exact PySem.W.callWith_K (h₀ := X.base) I.ok.mod.kin hk (thn (ha.run pos pins s σ H _ I h) fun us s1 ⟨vs, H1, I1, r, q⟩ => ⟨I1.kIn, wpAny_call (run_fnR F (hr.mono hle) hx I1 r q)⟩) he hpl
theorem pe_cc (D : ClsR X.prog X.w X.K X.mg X.base C k sp) (hm : X.mg x = some (.ref C)) (hr : Room j X.A) (hx : Passes (L2.CX X.prog X.w) X E) (ha : PA X (e :: es) t) (hle : k + 1 ≤ j := by decide) (hg : Gl X x := by rfl) (hdb : (x == ("__debug__" : Str)) = false := by decide)
    (he : starEach (e :: es) X.env = (false, eval e X.env) :: starEach es X.env := by rfl) (hpl : (backTo pos (starEach es X.env)).any (·.1) = false := by rfl) : PE X (.Call (.Name x p) (e :: es) [] pos) (StX.tMakeR C sp E t) := by
  obtain ⟨f, M, F⟩ := D.ex
  exact StX.pe_makeR M F (hr.mono hle) hg hm hx ha hdb he hpl
/-- .. with *e among the arguments -/
theorem pe_ccs (D : ClsR X.prog X.w X.K X.mg X.base C k sp) (hm : X.mg x = some (.ref C)) (hr : Room j X.A) (hx : Passes (L2.CX X.prog X.w) X E) (ha : PA X (e :: es) t) (hle : k + 1 ≤ j := by decide) (hg : Gl X x := by rfl) (hdb : (x == ("__debug__" : Str)) = false := by decide)
    (he : starEach (e :: es) X.env = (false, eval e X.env) :: starEach es X.env := by rfl) (hst : (backTo pos (starEach es X.env)).any (·.1) = true := by rfl) : PE X (.Call (.Name x p) (e :: es) [] pos) (StX.tMakeR C sp E t) := by
  obtain ⟨f, M, F⟩ := D.ex
  refine ⟨fun pins s σ H Q I h => wpAny_Call_Name_kw (ld_glob I hg hm ?_ hdb)⟩
  exact PySem.W.callWith_S2 (h₀ := X.base) I.ok.mod.kin M.kp (thn (ha.run pos pins s σ H _ I h) fun us s1 ⟨vs, H1, I1, r, q⟩ => ⟨I1.kIn, StX.run_makeR M F (hr.mono hle) hx I1 r q⟩) he hst
/-- .. the class held by a local name -/
theorem pe_cls (D : ClsR X.prog X.w X.K X.mg X.base C k sp) (hN : X.N[i]? = some x) (hv : Vis X.env.scope x) (hr : Room j X.A) (hx : Passes (L2.CX X.prog X.w) X E) (ha : PA X (e :: es) t) (hle : k + 1 ≤ j := by decide) (hdb : (x == ("__debug__" : Str)) = false := by decide)
    (hcd : (x == ("__classdict__" : Str)) = false := by decide)
    (he : starEach (e :: es) X.env = (false, eval e X.env) :: starEach es X.env := by rfl) (hst : (backTo pos (starEach es X.env)).any (·.1) = true := by rfl) : PE X (.Call (.Name x p) (e :: es) [] pos) (tMakeL i C sp E t) := by
  obtain ⟨f, M, F⟩ := D.ex
  refine ⟨fun pins s σ H Q I h => ?_⟩
  obtain ⟨hs, ht⟩ := h
  refine wpAny_Call_Name_kw (thn ((pe_var (pos := p) hN hv hdb hcd).run pins s σ H (fun v H1 => v = .ref C ∧ H1 = H) I ⟨_, hs, rfl, rfl⟩) fun u s1 ⟨v, H1, I1, r1, ev, eH⟩ => ?_)
  subst ev eH
  cases r1
  exact PySem.W.callWith_S2 (h₀ := X.base) I.ok.mod.kin M.kp (thn (ha.run pos pins s1 σ _ _ I1 ht) fun us s2 ⟨vs, H2, I2, r, q⟩ => ⟨I2.kIn, StX.run_makeR M F (hr.mono hle) hx I2 r q⟩) he hst
/-- C.m is a staticmethod: its record at p, its def at g -/
structure SMet (K : PySem.W.Frag) (C : Addr) (mc : Value) (m : Str) (p g : Addr) : Prop where
  rd : PySem.W.readsIn K C mc = true
  ga : PySem.W.specialIn K (.ref C) "__getattribute__" = some (some (.builtin "type.__getattribute__"))
  at_ : PySem.W.findCls K (.ref C) mc m = some (.get (.builtin "staticmethod.__get__") (.ref p) .none (.ref C))
  rc : ∃ l, PySem.W.recIn K p "staticmethod" = some (.ref g :: l)
  kp : PySem.W.keepIn K (.ref g) = true
/-- the function that is kept as C.m keeps sp -/
structure StaR (P : Program) (w : World) (K : PySem.W.Frag) (mg : Str → Option Value) (base : Heap) (C : Addr) (m : Str) (k : Nat) (sp : Sp) : Prop where
  ex : ∃ mc p g, SMet K C mc m p g ∧ FnR P w K mg base (L2.CX P w) k g sp
def tSta (C : Addr) (sp : Sp) (E : XK) (ta : TE) (t : TA) : TE := fun σ H Q => ta σ H fun y H1 => y = .ref C ∧ t σ H1 fun vs H2 => sp vs H2 Q E
theorem pe_sta {pl : Sem Bool} (D : StaR X.prog X.w X.K X.mg X.base C m k sp) (ho : PE X o ta) (hr : Room j X.A) (hx : Passes (L2.CX X.prog X.w) X E) (ha : PA X (e :: es) t) (hle : k ≤ j := by decide)
    (hst : starEach (e :: es) X.env = (false, eval e X.env) :: starEach es X.env := by rfl) (hpl : (backTo pos (starEach es X.env)).any (·.1) = false := by rfl)
    (ht : eval (.Call (.Attribute o m apos) (e :: es) [] pos) X.env = (do
      let ov ← eval o X.env
      standAt apos.atName
      let (f, first) ← holding [ov] (getMethod ov m pl)
      callWith pos f first (backTo pos (starEach (e :: es) X.env)) (backToKw pos (keywordEach [] X.env))) := by rfl) : PE X (.Call (.Attribute o m apos) (e :: es) [] pos) (tSta C sp E ta t) := by
  obtain ⟨mc, p, g, S, F⟩ := D.ex
  obtain ⟨l, hl⟩ := S.rc
  refine ⟨fun pins s σ H Q I h => PySem.W.methodCall_KW (pl := pl) (thn (ho.run pins s σ H _ I h) fun u s1 ⟨y, H1, I1, ry, ey, q⟩ => ?_) ht⟩
  subst ey
  obtain rfl : u = Value.ref C := ry
  refine PySem.W.method_cls I1.kIn S.ga (PySem.W.cls_bind I1.kIn S.rd S.at_ (wpAny_call (PySem.W.sm_get (s := { s1 with toks := s1.toks + 1 }) I1.kIn hl (PySem.W.handed_on rfl ?_))))
  have I2 := I1.tok (s1.toks + 1)
  exact PySem.W.callWith_K (h₀ := X.base) I.ok.mod.kin S.kp (thn (ha.run pos pins _ σ H1 _ I2 q) fun us s2 ⟨vs, H2, I3, r, q2⟩ => ⟨I3.kIn, wpAny_call (run_fnR F (hr.mono hle) hx I3 r q2)⟩) hst hpl
end
/-- what leaves a def's body is what the def lets out -/
theorem psE {P : Program} {w : World} {K : PySem.W.Frag} {mg : Str → Option Value} {base : Heap} {N : List Str} {qual : Str} {sc : Scope} {f : Addr} {cd : Value} {A : Around} {outer : List Env} {s : Shared} {H : Hp} {E : XK} :
    Passes (L2.CX P w) (cxOf (L2.CX P w) P w K mg base N qual sc f cd A outer s H E) E := passes_call (takes_of rfl rfl rfl rfl) fun _ _ _ _ z => z
theorem psS {P : Program} {w : World} {K : PySem.W.Frag} {mg : Str → Option Value} {base : Heap} {N : List Str} {qual : Str} {sc : Scope} {f cc : Addr} {cd : Value} {A : Around} {outer : List Env} {s : Shared} {H : Hp} {E : XK} :
    Passes (L2.CX P w) (cxS (L2.CX P w) P w K mg base N qual sc f cd cc A outer s H E) E := passes_call (takes_of rfl rfl rfl rfl) fun _ _ _ _ z => z
end WC

set_option maxHeartbeats 4000000
namespace WC
open PySem PySem.Spec PyProof.Rows L2
/-! own exceptions with fields -/
/-- what __init__ keeps: the fields fl of its arguments -/
def spX (C : Addr) (n : Nat) (fl : List V → List (Str × V)) : Sp := fun vs H Q _ => ∃ (a : Addr) (ws : List V), vs = .ref a :: ws ∧ ws.length = n ∧ H a = some (exo a C none) ∧
  ∀ d, H d = none → d ≠ a → Q .non (upd (upd H d (exd d (fl ws))) a (exo a C (some d)))
structure ExcR (P : Program) (w : World) (K : PySem.W.Frag) (mg : Str → Option Value) (base : Heap) (x : Str) (C : Addr) (k n : Nat) (fl : List V → List (Str × V)) : Prop where
  txt : OexC K C
  gC : mg x = some (.ref C)
  ini : ∃ f fd ps, PySem.W.findIn K (.ref C) "__init__" = some (some (.ref f)) ∧ PySem.W.typeIn K (.ref f) = some (.type "function") ∧ Binds K fd ps [] ∧ FnOk P w K mg base (L2.CX P w) k f fd ps (spX C n fl)
section
variable {X : Cx} {x : Str} {C : Addr} {k j n : Nat} {fl : List V → List (Str × V)} {e : Expr} {es : List Expr} {ta : TA} {p pos : Pos}
theorem pmk_x (T : ExcR X.prog X.w X.K X.mg X.base x C k n fl) (hr : Room j X.A) (ha : PA X (e :: es) ta) (hle : k + 1 ≤ j := by decide) (hg : Gl X x := by rfl) (hdb : (x == ("__debug__" : Str)) = false := by decide)
    (he : starEach (e :: es) X.env = (false, eval e X.env) :: starEach es X.env := by rfl) (hpl : (backTo pos (starEach es X.env)).any (·.1) = false := by rfl) : PMk X (.Call (.Name x p) (e :: es) [] pos) (tMkO C (spX C n fl) [] ta) := by
  obtain ⟨f, fd, ps, i1, i2, i3, F⟩ := T.ini
  exact pmk_oex (dvs := []) (ds := []) T.txt i1 i2 F (hr.mono hle) i3 .nil passL hg T.gC ha hdb he hpl
end
theorem heap_x {H : Hp} {a d : Addr} {u v w : HO} (ha : H a = none) (hd : d ≠ a) : upd (del (upd (upd (upd H a u) d v) a w) a) d v = upd H d v := by
  funext b
  by_cases e : b = d
  · rw [e, upd_same, upd_same]
  · rw [upd_ne e, upd_ne e]
    by_cases e2 : b = a
    · rw [e2, del_same, ha]
    · rw [del_ne e2, upd_ne e2, upd_ne e, upd_ne e2]
/-- the making: its arguments are as many as the fields want; d is the error's own dict, new -/
theorem x_use {H1 : Hp} {C : Addr} {n : Nat} {fl : List V → List (Str × V)} {vs : List V} {Q : XK} (hl : vs.length = n) (hn : n ≤ 1000) (h : ∀ d, H1 d = none → Q (.ref C) (some d) (upd H1 d (.xd (fl vs)))) :
    vs.length ≤ 1000 ∧ ∀ a, H1 a = none → spX C n fl (.ref a :: (vs ++ [])) (upd H1 a (exo a C none)) (fun v H2 => v = .non ∧ ∃ (d : Addr) (fs : List (Str × V)), H2 a = some (exo a C (some d)) ∧ H2 d = some (exd d fs) ∧ H1 d = none ∧ Q (.ref C) (some d) (upd (del H2 a) d (.xd fs))) (fun _ _ _ => False) := by
  refine ⟨by omega, fun a ha => ⟨a, vs, by rw [List.append_nil], hl, upd_same, fun d hd hne => ⟨rfl, d, fl vs, upd_same, by rw [upd_ne hne, upd_same], ?_, ?_⟩⟩⟩
  · rw [upd_ne hne] at hd
    exact hd
  · rw [upd_ne hne] at hd
    have q : upd (del (upd (upd (upd H1 a (exo a C none)) d (exd d (fl vs))) a (exo a C (some d))) a) d (.xd (fl vs)) = upd H1 d (.xd (fl vs)) := by
      funext b
      by_cases e : b = d
      · rw [e, upd_same, upd_same]
      · rw [upd_ne e, upd_ne e]
        by_cases e2 : b = a
        · rw [e2, del_same, ha]
        · rw [del_ne e2, upd_ne e2, upd_ne e, upd_ne e2]
    rw [q]
    exact h d hd
end WC

set_option maxHeartbeats 4000000
namespace WC
open PySem PySem.Spec PyProof.Rows L2
/-! enumerate(t), t a tuple -/
set_option maxHeartbeats 1000000 in
theorem new_enum {v : Value} {o : Obj} {Hh : Heap → Prop} (B : Begins v o Hh) :
    Meets (Builtin.«enumerate.__new__» ⟨[.type "enumerate", v], []⟩) (fun _ R s => Hh s.heap ∧
      R (.ok (.ret (.ref (s.heap.push o).objs.size))) { s with heap := (s.heap.push o).push { cls := .type "enumerate", data := .fields #[.none, .bool false, .ref s.heap.objs.size, rawInt 0, .none, .none] } }) :=
  .of_wp fun prog w A R s h => by
    obtain ⟨hp, g, d, tk, os⟩ := s
    obtain ⟨h1, h⟩ := h
    have hsub := sub_enumerate
    have q1 : ∀ {A2 : Around} {E : Value → Shared → Prop} {Q : Value → Shared → Prop}, Q (.ref hp.objs.size) ⟨hp.push o, g, d, tk, os⟩ → wpAny (model prog w) A2 (pyIter v) Q E ⟨hp, g, d, tk, os⟩ := fun q => B.iter prog w _ _ ⟨hp, g, d, tk, os⟩ _ h1 q
    wp_walk using q1
    refine wpAny_stack_any fun st => wpAny_pure ?_
    split
    · rename_i c _ _ _ _ _
      cases (c == Value.type "enumerate") <;> (wp_walk using q1; exact ⟨_, rfl, h⟩)
    · wp_walk using q1
      exact ⟨_, rfl, h⟩
section
variable {prog : Program} {w : World} {A : Around} {E : Value → Shared → Prop} {s : Shared}
theorem enum1_begins {v : Value} {o : Obj} {Hh : Heap → Prop} {Q : Value → Shared → Prop} (B : Begins v o Hh) (h1 : Hh s.heap)
    (h : ∀ h2, IsEnum h2 (s.heap.objs.size + 1) s.heap.objs.size 0 .none → h2.get? s.heap.objs.size = some o → (∀ b u, s.heap.get? b = some u → h2.get? b = some u) → Q (.ref (s.heap.objs.size + 1)) { s with heap := h2 }) :
    wpAny (model prog w) A (call (.type "enumerate") [v]) Q E s := by
  refine callType_new F.called_enumerate (by decide) (F.typeCall_enumerate_1 _) (F.newCall_enumerate_1 _) (fun obj => F.args_object_init_2 obj _) F.entry_enumerate_new (new_enum B) ⟨h1, ?_⟩
  have hz : (s.heap.push o).objs.size = s.heap.objs.size + 1 := Heap.size_push ..
  show _ ∧ _
  rw [hz]
  have he : IsEnum ((s.heap.push o).push { cls := .type "enumerate", data := .fields #[.none, .bool false, .ref s.heap.objs.size, rawInt 0, .none, .none] }) (s.heap.objs.size + 1) s.heap.objs.size 0 .none := by
    have z := Heap.get?_push_size (s.heap.push o) (o := { cls := .type "enumerate", data := .fields #[.none, .bool false, .ref s.heap.objs.size, rawInt 0, .none, .none] }) rfl
    rw [hz] at z
    exact z
  exact ⟨⟨_, he, rfl⟩, h _ he (Heap.get?_push_of_some _ (Heap.get?_push_size _ B.free)) fun b u x => Heap.get?_push_of_some _ (Heap.get?_push_of_some _ x)⟩
end
def ItT (K : PySem.W.Frag) (a : Addr) : It :=
  { go := fun i H => ∃ (xs : List V) (x : V), SqT K H a xs ∧ xs[i]? = some x
    yld := fun i H v H2 => ∃ T x, v = .ref T ∧ H T = none ∧ H2 = upd H T (.tup [.int (i : Nat), x]) ∧ ∀ xs, SqT K H a xs → xs[i]? = some x
    stop := fun i H => ∃ xs : List V, SqT K H a xs ∧ xs.length ≤ i }
theorem turn_et {P : Program} {w : World} {K : PySem.W.Frag} {elts : List Expr} {kk : Nat} {tpos : Pos} (a e it : Addr) :
    Turn P w K (.Tuple elts kk tpos) (ItT K a) [e, it] e (fun i h => (∃ old, IsEnum h e it ((i : Nat) : Int) old) ∧ h.IsTupleIter it a i ∧ e ≠ it) where
  mem := by simp
  obj := fun i h st b hb => by
    obtain ⟨⟨old, he⟩, ⟨o, ho, hc, hd⟩, _⟩ := st
    have q : b = e ∨ b = it := by simpa using hb
    rcases q with z | z
    · refine ⟨_, z ▸ he, fun v q => ?_⟩
      have q : Data.fields _ = Data.cell v := q
      cases q
    · exact ⟨o, z ▸ ho, fun v q => by rw [hd] at q; cases q⟩
  keep := fun i h h2 st k => by
    obtain ⟨⟨old, he⟩, st2, st3⟩ := st
    exact ⟨⟨old, k e (by simp) _ he⟩, st2.at fun o q => k it (by simp) o q, st3⟩
  item := by
    intro X hP hw hK hc i pins s σ H E I hf st hg
    subst hP hw hK
    obtain ⟨⟨old, he⟩, hit, hne⟩ := st
    obtain ⟨xs, x, hq, hx⟩ := hg
    obtain ⟨its, rv, pt, hz⟩ := I.tuple hq
    have pt : s.heap.IsTuple a its.toArray := pt
    have hel : e < s.heap.objs.size := Heap.lt_size he
    have hil : it < s.heap.objs.size := by obtain ⟨_, q, _⟩ := hit; exact Heap.lt_size q
    have nai : a ≠ it := fun z => by
      obtain ⟨o1, q1, c1, _⟩ := pt
      obtain ⟨o2, q2, c2, _⟩ := hit
      rw [z, q2] at q1
      cases q1
      rw [c1] at c2
      injection c2 with c2
      exact absurd c2 (by decide)
    have nae : e ≠ a := fun z => by
      obtain ⟨o1, q1, c1, _⟩ := pt
      have he : s.heap.get? e = some _ := he
      rw [← z, he] at q1
      cases q1
      injection c1 with c1
      exact absurd c1 (by decide)
    have hlt : i < its.toArray.size := by
      have := (List.getElem?_eq_some_iff.mp hx).1
      rw [rv.length] at this
      simpa using this
    refine wpAny_pyNext_enum_itemD (Draws.tuple (A := X.A.in1) (I.ok.hd hc) it a nai its.toArray) he ⟨hit, pt⟩ hlt hne (by simp [nae, hne]) fun u h2 tk hu ho hst hT hsz hk => ?_
    have hu2 : its[i]? = some u := by simpa using hu
    obtain ⟨u2, hu3, ru⟩ := rv.get hx
    rw [hu2] at hu3
    cases hu3
    refine ⟨_, rfl, wpAny_letOwnedTupleGo_enum (s := { s with heap := h2, toks := tk + 1 }) ho fun h3 he3 sb => ?_⟩
    have hT2 : h3.get? s.heap.objs.size = some { cls := .type "tuple", data := .seq #[.int i tk, u] } := (sb.2 _ (Nat.ne_of_gt hel)).trans hT
    have new : ObjOk X.prog X.w (upd H s.heap.objs.size (.tup [.int (i : Nat), x])) h3 s.heap.objs.size (.tup [.int (i : Nat), x]) := ⟨by show 2 ≤ sizeLine; decide, [.int i tk, u], .cons ⟨_, rfl⟩ (.cons ru .nil), ⟨_, hT2, rfl, _, rfl⟩⟩
    have I1 : Inv X pins σ (upd H s.heap.objs.size (.tup [.int (i : Nat), x])) { s with heap := h3, toks := tk + 1 } :=
      I.turnedNew (ch := [e, it]) (fun b ob hb q => (sb.2 b (fun z => hb (by simp [z]))).trans (hk b ob (fun z => hb (by simp [z])) (fun z => hb (by simp [z])) q)) hf (Nat.le_refl _) new
    refine ⟨.ref s.heap.objs.size, _, I1, rfl, ⟨_, x, rfl, I.hok.fresh (Nat.le_refl _), rfl, fun ys hy => by rw [I.tuple_inj hy hq]; exact hx⟩, ⟨⟨u, ?_⟩, hst.1.at fun o q => (sb.2 it (Ne.symm hne)).trans q, hne⟩, fun b hb => ?_⟩
    · have e1 : ((i + 1 : Nat) : Int) = (i : Int) + 1 := by omega
      rw [e1]
      exact he3
    · have q : b = e ∨ b = it := by simpa using hb
      have hb2 : b < s.heap.objs.size := by rcases q with z | z <;> rw [z] <;> assumption
      rw [upd_ne (Nat.ne_of_lt hb2)]
      exact (hf b hb).1
  done := by
    intro X hP hw hK hc i pins s σ H E I hf st hg
    subst hP hw hK
    obtain ⟨⟨old, he⟩, hit, hne⟩ := st
    obtain ⟨xs, hq, hx⟩ := hg
    obtain ⟨its, rv, pt, hz⟩ := I.tuple hq
    have pt : s.heap.IsTuple a its.toArray := pt
    obtain ⟨f0, f1, f2, f3, f4, f5⟩ := hf it (by simp)
    have nai : a ≠ it := fun z => by
      obtain ⟨o1, q1, c1, _⟩ := pt
      obtain ⟨o2, q2, c2, _⟩ := hit
      rw [z, q2] at q1
      cases q1
      rw [c1] at c2
      injection c2 with c2
      exact absurd c2 (by decide)
    have hl := rv.length
    have D := Draws.tuple (prog := X.prog) (w := X.w) (A := X.A.in1) (I.ok.hd hc) it a nai its.toArray
    have hn : its.toArray.size ≤ i := by simp; omega
    unfold pyNext
    refine wpAny_bind (wpAny_attempt (wpAny_callSpecial?_slot (name := Str.ofString "__next__") ⟨_, he, rfl⟩ F.slot_enumerate_next (wpAny_call_entry F.slot_enumerate_next ⟨_, he, rfl⟩ F.entry_enumerate_next ?_ (F.args_enumerate_next_1 _))))
    show wpAny _ _ (field (.ref e) 2 >>= _) _ _ _
    refine wpAny_bind (wpAny_field he rfl (x := .ref it) rfl ?_)
    refine wpAny_bind (wpAny_nextOf_tuple_end (show X.A.in1.handled = none from I.ok.hd hc) hit pt (by simp; omega) fun h2 x q1 q2 => ?_)
    obtain ⟨o, ho, hcl⟩ := q2
    refine wpAny_bind (wpAny_isInstance (T := "StopIteration") (b := true) ⟨o, ho, hcl⟩ isSubtype_stop ?_)
    exact wpAny_pure ⟨rfl, I.turned (t' := s.toks) (fun b o hb q => q1 b o hb q) f0 f1 f3 f4 f5⟩
  self := fun A i s Q E st h => let ⟨⟨_, he⟩, _⟩ := st; wpAny_pyIter_enum he h
def iET (K : PySem.W.Frag) (ta : TA) : TI := fun σ H R => ta σ H fun vs H1 => ∃ a xs, vs = [.ref a] ∧ SqT K H1 a xs ∧ R (ItT K a) H1
theorem pi_et {X : Cx} {e : Expr} {ta : TA} {p pos tpos : Pos} {elts : List Expr} {kk : Nat} (hm : X.mg "enumerate" = none) (ha : PA X [e] ta) (hg : Gl X "enumerate" := by rfl) (hs : starEach [e] X.env = [(false, eval e X.env)] := by rfl) :
    PI X (.Tuple elts kk tpos) (.Call (.Name "enumerate" p) [e] [] pos) (iET X.K ta) := by
  refine ⟨fun pins s σ H R I h => Call_ (ld_blt I hg hm boot_enumerate (PyProof.Rows.callWith_type1 (thn (ha.run pos pins s σ H _ I h) fun us s1 ⟨vs, H1, I1, r1, a, xs, ex, hq, q⟩ => ?_) hs rfl))⟩
  subst ex
  cases r1 with
  | cons r rr =>
    cases rr
    cases r
    obtain ⟨its, rv, pt, hz⟩ := I1.tuple hq
    have pt : s1.heap.IsTuple a its.toArray := pt
    refine enum1_begins (begins_tuple a its.toArray) pt fun h2 he hit hk => wpAny_pyIter_enum he ?_
    have I2 : Inv X pins σ H1 { s1 with heap := h2 } := I1.kept (t' := s1.toks) hk
    refine ⟨s1.heap.objs.size + 1, [s1.heap.objs.size + 1, s1.heap.objs.size], _, _, H1, rfl, I2, turn_et a (s1.heap.objs.size + 1) s1.heap.objs.size, ⟨⟨.none, he⟩, ⟨_, hit, rfl, rfl⟩, Nat.succ_ne_self _⟩, fun b hb => ?_, q⟩
    have q : b = s1.heap.objs.size + 1 ∨ b = s1.heap.objs.size := by simpa using hb
    have hle : s1.heap.objs.size ≤ b := by rcases q with z | z <;> rw [z] <;> first | exact Nat.le_add_right _ _ | exact Nat.le_refl _
    exact I1.fpOk hle (I1.hok.fresh hle)
theorem walk_et {K : PySem.W.Frag} {a : Addr} {xs : List V} : Walk (ItT K a) xs.length (fun H => SqT K H a xs) (YPair (fun i => some (.int (i : Nat))) (fun i => xs[i]?)) := by
  refine ⟨fun i _ hi q => ⟨xs, xs[i], q, by simp [hi]⟩, fun _ q => ⟨xs, q, Nat.le_refl _⟩, fun i H v H2 _ q y => ?_⟩
  obtain ⟨T, x, h1, h2, h3, h4⟩ := y
  exact ⟨T, .int (i : Nat), x, h1, h2, h3, rfl, h4 xs q⟩
end WC

set_option maxHeartbeats 4000000
namespace WC
open PySem PySem.Spec PyProof.Rows L2
/-! data -/
theorem pr_at {α β : Type} {F : α → β → Prop} : ∀ {l : List α} {r : List β}, Paired F l r → ∀ {i : Nat} {b : β}, r[i]? = some b → ∃ a, l[i]? = some a ∧ F a b
  | _, _, .nil, i, b, h => by simp at h
  | _, _, .cons p q, 0, b, h => by
    have e := Option.some.inj h
    subst e
    exact ⟨_, rfl, p⟩
  | _, _, .cons p q, i + 1, b, h => pr_at (i := i) q (by simpa using h)
theorem pr_to {α β : Type} {F : α → β → Prop} : ∀ {l : List α} {r : List β}, Paired F l r → ∀ {i : Nat} {a : α}, l[i]? = some a → ∃ b, r[i]? = some b ∧ F a b
  | _, _, .nil, i, b, h => by simp at h
  | _, _, .cons p q, 0, b, h => by
    have e := Option.some.inj h
    subst e
    exact ⟨_, rfl, p⟩
  | _, _, .cons p q, i + 1, b, h => pr_to (i := i) q (by simpa using h)
theorem pr_snoc {α β : Type} {F : α → β → Prop} : ∀ {l : List α} {r : List β} {a : α} {b : β}, Paired F l r → F a b → Paired F (l ++ [a]) (r ++ [b])
  | _, _, _, _, .nil, h => .cons h .nil
  | _, _, _, _, .cons p q, h => .cons p (pr_snoc q h)
theorem take_snoc {α : Type} : ∀ {l : List α} {i : Nat} {x : α}, l[i]? = some x → l.take (i + 1) = l.take i ++ [x]
  | [], _, _, h => by simp at h
  | a :: l, 0, x, h => by
    have e := Option.some.inj h
    subst e
    rfl
  | a :: l, i + 1, x, h => by
    have q := take_snoc (l := l) (i := i) (x := x) (by simpa using h)
    show a :: l.take (i + 1) = a :: l.take i ++ [x]
    rw [q]
    rfl
/-- a channel, a tuple of three ints -/
abbrev Tri := Int × Int × Int
def TriA (H : Hp) (c : Tri) (v : V) : Prop := ∃ t, v = .ref t ∧ H t = some (.tup [.int c.1, .int c.2.1, .int c.2.2])
theorem TriA.same {H H2 : Hp} {c : Tri} {v : V} (s : Same H H2) (h : TriA H c v) : TriA H2 c v := let ⟨t, e, q⟩ := h; ⟨t, e, s _ _ q⟩
theorem tris_same {H H2 : Hp} {cs : List Tri} {vs : List V} (s : Same H H2) (h : Paired (TriA H) cs vs) : Paired (TriA H2) cs vs := Paired.mapP h fun _ _ z => z.same s
/-- the places where es has j, below m -/
def occ (es : List Int) (j : Int) (m : Nat) : List Int := ((List.range m).filter fun k => decide (es[k]? = some j)).map fun (k : Nat) => (k : Int)
theorem occ_zero (es : List Int) (j : Int) : occ es j 0 = [] := rfl
theorem occ_hit {es : List Int} {j : Int} {m : Nat} (h : es[m]? = some j) : occ es j (m + 1) = occ es j m ++ [(m : Int)] := by
  unfold occ
  rw [List.range_succ, List.filter_append, List.map_append]
  congr 1
  simp [h]
theorem occ_miss {es : List Int} {j e : Int} {m : Nat} (h : es[m]? = some e) (ne : e ≠ j) : occ es j (m + 1) = occ es j m := by
  unfold occ
  rw [List.range_succ, List.filter_append, List.map_append]
  simp [h, ne]
theorem occ_len (es : List Int) (j : Int) (m : Nat) : (occ es j m).length ≤ m := by
  unfold occ
  rw [List.length_map]
  exact Nat.le_trans (List.length_filter_le _ _) (by simp)
/-- at r: a tuple of n tuples, the j-th one the places of j in es -/
def RowsA (H : Hp) (r : Addr) (n : Nat) (es : List Int) : Prop := ∃ ts : List V, H r = some (.tup ts) ∧ ts.length = n ∧ ∀ (j : Nat) v, ts[j]? = some v → ∃ t, v = .ref t ∧ H t = some (.tup ((occ es (j : Int) es.length).map V.int))
theorem RowsA.same {H H2 : Hp} {r : Addr} {n : Nat} {es : List Int} (s : Same H H2) (h : RowsA H r n es) : RowsA H2 r n es := by
  obtain ⟨ts, h1, h2, h3⟩ := h
  exact ⟨ts, s _ _ h1, h2, fun j v e => let ⟨t, e1, e2⟩ := h3 j v e; ⟨t, e1, s _ _ e2⟩⟩
theorem _root_.L2.Same.new {H : Hp} {p : Addr} {o : HO} (h : H p = none) : Same H (upd H p o) := fun a u e => by
  rw [upd_ne (ne_of_none e h)]
  exact e
theorem _root_.L2.Same.newer {H H1 : Hp} {p : Addr} {o : HO} (s : Same H H1) (h : H p = none) : Same H (upd H1 p o) := fun a u e => by
  rw [upd_ne (ne_of_none e h)]
  exact s _ _ e
theorem line_of {n : Nat} (h : n ≤ 100000) : n ≤ sizeLine := Nat.le_trans h (by decide)
theorem line_lt {n : Nat} (h : n < 100000) : n < sizeLine := Nat.lt_of_lt_of_le h (by decide)
end WC
namespace WC
open PySem PySem.Spec PyProof.Rows L2
theorem bt_tuple : bootBuiltins "tuple" = some (.type "tuple") := by decide +kernel
theorem bt_list : bootBuiltins "list" = some (.type "list") := by decide +kernel
theorem bt_int : bootBuiltins "int" = some (.type "int") := by decide +kernel
theorem bt_str : bootBuiltins "str" = some (.type "str") := by decide +kernel
theorem bt_isi : bootBuiltins "isinstance" = some (.builtin "isinstance") := by decide +kernel
theorem bt_len : bootBuiltins "len" = some (.builtin "len") := by decide +kernel
theorem bt_sorted : bootBuiltins "sorted" = some (.builtin "sorted") := by decide +kernel
theorem bt_sum : bootBuiltins "sum" = some (.builtin "sum") := by decide +kernel
theorem bt_all : bootBuiltins "all" = some (.builtin "all") := by decide +kernel
theorem bt_max : bootBuiltins "max" = some (.builtin "max") := by decide +kernel
theorem bt_min : bootBuiltins "min" = some (.builtin "min") := by decide +kernel
/-- readings that name the written part (within a comprehension's block) -/
def rTupOf (K : PySem.W.Frag) : List V → Hp → VK → Prop := fun xs H Q => ∃ p ys, xs = [.ref p] ∧ ((SqL K H p ys ∧ ∀ l, H l = none → Q (.ref l) (upd H l (.tup ys))) ∨ (SqT K H p ys ∧ Q (.ref p) H))
theorem c_tup {X : Cx} {K : PySem.W.Frag} (h : X.K = K := by rfl) : CallR X (.type "tuple") (rTupOf K) := by
  subst h
  exact call_tuple_of
theorem i_tup {X : Cx} {K : PySem.W.Frag} (h : X.K = K := by rfl) : IxR X (rIxT K) := by
  subst h
  exact ix_tup
theorem i_lst {X : Cx} {K : PySem.W.Frag} (h : X.K = K := by rfl) : IxR X (rIxL K) := by
  subst h
  exact ix_list
end WC
namespace WC
open PySem PySem.Spec PyProof.Rows L2
theorem yes {σ : L2.St} {H : Hp} {A B : Bool → Hp → Prop} (h : A true H) : tYes σ H (fun b H3 => if b = true then A b H3 else B b H3) := by
  show (if true = true then A true H else B true H)
  rw [if_pos rfl]
  exact h
end WC
namespace WC
open PySem PySem.Spec PyProof.Rows L2
/-- [c[j] for c in t], t a tuple of channels -/
theorem comp_sel {K : PySem.W.Frag} {wi : TI} {H : Hp} {σ : L2.St} {tc : Addr} {cs : List Tri} {vs : List V} {s : Nat} {j : Int} {Q : VK} (g : Tri → Int) (hg : ∀ c : Tri, atI [V.int c.1, V.int c.2.1, V.int c.2.2] j = some (V.int (g c))) (hw : ∀ R : It → Hp → Prop, R (Itt K tc) H → wi σ H R)
    (h1 : H tc = some (.tup vs)) (hp : Paired (TriA H) cs vs) (hlen : cs.length ≤ 1000) (hs1 : ∀ v, wipe ((wipe σ [s]).set s (some v)) [s] = wipe σ [s]) (hs2 : ∀ v, ((wipe σ [s]).set s (some v))[s]? = some (some v))
    (k : ∀ D H2, Same H H2 → H D = none → H2 D = some (.lst ((cs.map g).map V.int)) → Q (.ref D) H2) : tLc wi (gName s) tYes (tOp (rIxT K) (tVar s) (tC (.int j))) [s] σ H Q := by
  refine hw _ fun D hD => lc_tup (K := K) (a := tc) (xs := vs) (fun i H2 => Same H H2 ∧ H2 D = some (.lst (((cs.take i).map g).map V.int))) ⟨Same.new hD, by rw [upd_same]; rfl⟩ (fun i H2 _ q => SqT.of (q.1 _ _ h1)) ?_ ?_
  · rintro i x H2 hx ⟨s2, hd⟩
    obtain ⟨c, hc, t, rfl, ht⟩ := pr_at hp hx
    have hi : i < cs.length := (List.getElem?_eq_some_iff.mp hc).1
    refine ⟨hs1 _, yes ⟨_, hs2 _, t, _, _, _, rfl, rfl, SqT.of (s2 _ _ ht), hg c, _, hd, ?_, Same.newer s2 hD, ?_⟩⟩
    · rw [List.length_map, List.length_map, List.length_take]
      exact line_lt (by omega)
    · rw [upd_same, take_snoc hc, List.map_append, List.map_append]
      rfl
  · rintro H2 ⟨s2, hd⟩
    rw [← hp.length, List.take_length] at hd
    exact k D H2 s2 hD hd
end WC

set_option maxHeartbeats 4000000
namespace WC
open PySem PySem.Spec PyProof.Rows L2
/-- {k: v for .. in a list that stays} -/
theorem dc_lst {K : PySem.W.Frag} {a : Addr} {xs : List V} {g : TG} {tt : TT} {tk tv : TE} {vs : List Nat} {σ : L2.St} {H1 : Hp} {D : Addr} {Qd : Hp → Prop} (Pv : Nat → Hp → Prop) (h0 : Pv 0 (upd H1 D (.dK []))) (hl : ∀ i H, i ≤ xs.length → Pv i H → SqL K H a xs)
    (hs : ∀ i x H, xs[i]? = some x → Pv i H → g x (wipe σ vs) H fun s2 H2 => wipe s2 vs = wipe σ vs ∧ tt s2 H2 fun b H3 =>
      if b = true then tk s2 H3 fun y H4 => tv s2 H4 fun z H5 => ∃ kvs k, y = kV k ∧ H5 D = some (.dK kvs) ∧ kvs.length < sizeLine ∧ Pv (i + 1) (upd H5 D (.dK (putK kvs k z))) else Pv (i + 1) H3) (hd : ∀ H, Pv xs.length H → Qd H) :
    ∃ W : Nat → Nat → Hp → Prop, (∃ m, W 0 m (upd H1 D (.dK []))) ∧ ∀ i m H, W i m H →
      ((Itl K a).stop i H ∧ Qd H) ∨ ((Itl K a).go i H ∧ ∃ Nx : Hp → Prop, (∀ H2, Nx H2 → ∃ m2, m2 < m ∧ W (i + 1) m2 H2) ∧ ∀ x H2, (Itl K a).yld i H x H2 → g x (wipe σ vs) H2 fun s2 H3 => wipe s2 vs = wipe σ vs ∧ tt s2 H3 fun b H4 =>
        if b = true then tk s2 H4 fun y H5 => tv s2 H5 fun z H6 => ∃ kvs k, y = kV k ∧ H6 D = some (.dK kvs) ∧ kvs.length < sizeLine ∧ Nx (upd H6 D (.dK (putK kvs k z))) else Nx H4) := by
  have w : Walk (Itl K a) xs.length (fun H => SqL K H a xs) (YAt xs) := walk_list
  refine ⟨fun i m H => m = xs.length - i ∧ i ≤ xs.length ∧ Pv i H, ⟨_, rfl, Nat.zero_le _, h0⟩, fun i m H ⟨em, hi, p⟩ => ?_⟩
  have q := hl i H hi p
  rcases Nat.lt_or_ge i xs.length with hlt | hge
  · refine .inr ⟨w.goes i H hlt q, Pv (i + 1), fun H2 p2 => ⟨xs.length - (i + 1), by omega, rfl, hlt, p2⟩, fun x H2 y => ?_⟩
    obtain ⟨e, y2⟩ := w.yields i H x H2 hlt q y
    subst e
    exact hs i x _ y2 p
  · have e : i = xs.length := by omega
    subst e
    exact .inl ⟨w.stops H q, hd H p⟩
/-- (a, b, ..) as a target within a comprehension's block -/
theorem pg_tupK {X : Cx} {K : PySem.W.Frag} {es : List Expr} {k n : Nat} {pos : Pos} {t : TGs} (hc : X.calm = true) (h : PGs X es t) (hK : X.K = K := by rfl) (hn : (assignEach es X.env).length = n := by rfl) (hst : (assignEach es X.env).findIdx? (·.1) = none := by rfl) :
    PG X (.Tuple es k pos) (gTup K n t) := by
  subst hK
  exact pg_tup hc h hn hst
theorem pk_len {κ : Type} [DecidableEq κ] (c : List (κ × V)) (k : κ) (x : V) : (putK c k x).length ≤ c.length + 1 := by
  unfold putK
  split
  · rw [List.length_map]
    omega
  · rw [List.length_append]
    exact Nat.le_refl _
/-- no circle: the stages can be ranked -/
def Acyc (cs : List Tri) : Prop := ∃ r : Int → Nat, ∀ c ∈ cs, r c.1 < r c.2.1
theorem least_of {α : Type} (f : α → Nat) : ∀ {l : List α}, l ≠ [] → ∃ a ∈ l, ∀ b ∈ l, f a ≤ f b
  | [a], _ => ⟨a, by simp, fun b hb => by simp at hb; rw [hb]; exact Nat.le_refl _⟩
  | a :: b :: l, _ => by
    obtain ⟨c, hc, h⟩ := least_of f (l := b :: l) (by simp)
    by_cases q : f a ≤ f c
    · refine ⟨a, by simp, fun d hd => ?_⟩
      rcases List.mem_cons.mp hd with e | hd
      · rw [e]; exact Nat.le_refl _
      · exact Nat.le_trans q (h d hd)
    · refine ⟨c, List.mem_cons_of_mem _ hc, fun d hd => ?_⟩
      rcases List.mem_cons.mp hd with e | hd
      · rw [e]; omega
      · exact h d hd
theorem Acyc.first {cs : List Tri} (h : Acyc cs) (ne : cs ≠ []) : ∃ c ∈ cs, ∀ d ∈ cs, d.2.1 ≠ c.1 := by
  obtain ⟨r, hr⟩ := h
  obtain ⟨c, hc, hm⟩ := least_of (fun c : Tri => r c.1) ne
  refine ⟨c, hc, fun d hd e => ?_⟩
  have h1 := hr d hd
  have h2 := hm d hd
  have h2 : r c.1 ≤ r d.1 := h2
  rw [e] at h1
  omega
theorem Acyc.sub {cs ds : List Tri} (h : Acyc cs) (s : ∀ c ∈ ds, c ∈ cs) : Acyc ds := let ⟨r, hr⟩ := h; ⟨r, fun c hc => hr c (s c hc)⟩
end WC

set_option maxHeartbeats 4000000
namespace WC
open PySem PySem.Spec PyProof.Rows L2
/-- a method that says super(), as the written part has it: its cell at cc holds the class at D -/
structure SFun (P : Program) (K : PySem.W.Frag) (x qual : Str) (st : Stmt) (f cc D : Addr) (kV : Value) : Prop where
  ex : ∃ (oc : Value) (od : Option Addr) (doc pm : Value) (an : Option Addr) (cda : Addr) (ct : Value) (osl : Array (Option Value)) (kc : Value) (dc : Option Addr) (lc : Array (Option Value)) (oc1 : Value) (oc2 : Option Addr) (vs : Array Value) (oc3 : Array (Option Value)) (file : Str) (tf : Tok),
    K.lookup f = some ⟨oc, od, .func (PySem.W.fnX x qual (defArgs st) (defBody st) (defScope st) [(cls_, cc)] .none kV doc pm an (.ref cda) ct), osl⟩ ∧ PySem.W.codeIn K (.ref cda) qual = true ∧ K.lookup cc = some ⟨kc, dc, .cell (some (.ref D)), lc⟩ ∧
    K.lookup cda = some ⟨oc1, oc2, .fields vs, oc3⟩ ∧ vs[2]? = some (.str file tf) ∧ ((P.main.file : Str) == file) = true
theorem look_cls {N ps : List Str} {sc : Scope} (S : CScope N ps sc) (n : Nat) (cc : Addr) : (cellsFrom n sc.names [] ++ [(cls_, cc)]).lookup cls_ = some cc := by
  rw [List.lookup_append]
  cases e : (cellsFrom n sc.names []).lookup cls_ with
  | some c =>
    have z := S.once _ (cf_mem _ _ _ _ (mem_of_lookup e)) rfl
    cases z
  | none => show List.lookup cls_ [(cls_, cc)] = some cc; simp [List.lookup]
section
variable {P : Program} {w : World} {K : PySem.W.Frag} {mg : Str → Option Value} {base : Heap} {k : Nat} {f cc D : Addr} {x qual : Str} {st : Stmt} {kV : Value} {N ps ks : List Str} {sp : Sp} {pv : Str} {kvV : List V} {kv : List Value}
/-- the rule for such a def with *pv and keywords ks that are left out -/
theorem SFun.star (F : SFun P K x qual st f cc D kV) (S : CScope N (ps ++ ks ++ [pv]) (defScope st)) (hkv : Vals kvV kv) (hks : kv.length = ks.length)
    (hb : ∀ (doc pm : Value) (an : Option Addr) (cdv ct : Value), BindStar K (PySem.W.fnX x qual (defArgs st) (defBody st) (defScope st) [(cls_, cc)] .none kV doc pm an cdv ct) ps ks kv pv)
    (hp : ∃ ar : Arg, ((defArgs st).posonlyargs ++ (defArgs st).args).head? = some ar ∧ ar.arg = ("self" : Str)) (h1 : (defScope st).names.lookup ("super" : Str) = some .globalImplicit) (h2 : (defScope st).names.lookup ("self" : Str) = some .local)
    (hbody : ∀ (cdv : Value) (A : Around) (outer : List Env) (s : Shared) (H : Hp) (vs : List V) (Q : VK) (E : XK), Room k (A.deeper (envS qual (defScope st) s.heap.objs.size f cdv cc)) → SelfTxt P K (envS qual (defScope st) s.heap.objs.size f cdv cc) D "self" → sp vs H Q E →
      ∃ t, PX (cxS (L2.CX P w) P w K mg base N qual (defScope st) f cdv cc A outer s H E) (.func (defBody st) (envS qual (defScope st) s.heap.objs.size f cdv cc)) (defBody st) t ∧ t { nx := fun _ H' => Q .non H', rt := Q } (L2.start N vs) H) :
    FnR P w K mg base (L2.CX P w) (k + 1) f (fun vs H Q E => ∃ ws rest, vs = ws ++ rest ∧ ws.length = ps.length ∧ rest.length ≤ sizeLine ∧ ∀ p, H p = none → sp (ws ++ kvV ++ [V.ref p]) (upd H p (.tup rest)) Q E) := by
  obtain ⟨oc, od, doc, pm, an, cda, ct, osl, kc, dc, lc, oc1, oc2, cvs, oc3, file, tf, lk, hcd, hcc, hca, hvs, hfile⟩ := F.ex
  obtain ⟨ar, har, hs⟩ := hp
  refine fn_starS lk hcd hcc S StX.cxUp (hb doc pm an (.ref cda) ct) hkv hks fun A outer s H vs Q E hr hsp => hbody (.ref cda) A outer s H vs Q E hr ?_ hsp
  exact ⟨h1, S.frc, h2, ⟨cc, kc, dc, lc, look_cls S _ _, hcc⟩, ⟨f, oc, od, _, osl, ar, rfl, lk, har, hs⟩, ⟨cda, oc1, oc2, cvs, oc3, file, tf, rfl, hca, hvs, hfile⟩⟩
end
end WC

set_option maxHeartbeats 4000000
namespace WC
open PySem PySem.Spec PyProof.Rows L2
theorem sorted_one {α : Type} {f : α → Int} : ∀ {l r : List α}, l.Perm r → l.Pairwise (fun a b => f a ≤ f b) → r.Pairwise (fun a b => f a < f b) → l = r
  | [], r, p, _, _ => (List.nil_perm.mp p).symm
  | a :: l, [], p, _, _ => absurd (p.length_eq) (by simp)
  | a :: l, b :: r, p, h1, h2 => by
    have e : a = b := by
      rcases List.mem_cons.mp (p.mem_iff.mp (List.mem_cons_self (a := a))) with e | m
      · exact e
      · have q1 := (List.pairwise_cons.mp h2).1 a m
        rcases List.mem_cons.mp (p.mem_iff.mpr (List.mem_cons_self (a := b))) with e | m2
        · exact e.symm
        · have q2 := (List.pairwise_cons.mp h1).1 b m2
          omega
    subst e
    rw [sorted_one ((List.perm_cons a).mp p) (List.pairwise_cons.mp h1).2 (List.pairwise_cons.mp h2).2]
def rowOf (ns : List Int) : List Tri := ns.mapIdx fun k c => ((k : Int), (k : Int) + 1, c)
def ringOf (ns : List Int) : List Tri := ns.mapIdx fun k c => ((k : Int), ((k : Int) + 1) % (ns.length : Int), c)
theorem rowOf_at {ns : List Int} {i : Nat} {c : Int} (h : ns[i]? = some c) : (rowOf ns)[i]? = some ((i : Int), (i : Int) + 1, c) := by
  unfold rowOf
  rw [List.getElem?_mapIdx, h]
  rfl
theorem ringOf_at {ns : List Int} {i : Nat} {c : Int} (h : ns[i]? = some c) : (ringOf ns)[i]? = some ((i : Int), ((i : Int) + 1) % (ns.length : Int), c) := by
  unfold ringOf
  rw [List.getElem?_mapIdx, h]
  rfl
theorem rowOf_len (ns : List Int) : (rowOf ns).length = ns.length := List.length_mapIdx
theorem ringOf_len (ns : List Int) : (ringOf ns).length = ns.length := List.length_mapIdx
theorem rowOf_mem {ns : List Int} {t : Tri} (h : t ∈ rowOf ns) : ∃ (i : Nat) (c : Int), ns[i]? = some c ∧ t = ((i : Int), (i : Int) + 1, c) := by
  obtain ⟨i, hi⟩ := List.mem_iff_getElem?.mp h
  have hl := (List.getElem?_eq_some_iff.mp hi).1
  rw [rowOf_len] at hl
  have q : ns[i]? = some ns[i] := by simp [hl]
  rw [rowOf_at q] at hi
  exact ⟨i, _, q, (Option.some.inj hi).symm⟩
theorem ringOf_mem {ns : List Int} {t : Tri} (h : t ∈ ringOf ns) : ∃ (i : Nat) (c : Int), ns[i]? = some c ∧ t = ((i : Int), ((i : Int) + 1) % (ns.length : Int), c) := by
  obtain ⟨i, hi⟩ := List.mem_iff_getElem?.mp h
  have hl := (List.getElem?_eq_some_iff.mp hi).1
  rw [ringOf_len] at hl
  have q : ns[i]? = some ns[i] := by simp [hl]
  rw [ringOf_at q] at hi
  exact ⟨i, _, q, (Option.some.inj hi).symm⟩
/-- channels by rising producers -/
def Inc (cs : List Tri) : Prop := cs.Pairwise fun a b => a.1 < b.1
theorem rowOf_inc (ns : List Int) : Inc (rowOf ns) := by
  unfold Inc
  rw [List.pairwise_iff_getElem]
  intro i j hi hj hij
  simp only [rowOf, List.getElem_mapIdx]
  omega
theorem ringOf_inc (ns : List Int) : Inc (ringOf ns) := by
  unfold Inc
  rw [List.pairwise_iff_getElem]
  intro i j hi hj hij
  simp only [ringOf, List.getElem_mapIdx]
  omega
theorem nodup_of_inc {α : Type} {cs : List α} {f : α → Int} {g : α → Int × Int} (hg : ∀ a, (g a).1 = f a) (h : cs.Pairwise fun a b => f a < f b) : (cs.map g).Nodup := by
  rw [List.Nodup, List.pairwise_map]
  refine h.imp fun {a b} z e => ?_
  have q := congrArg Prod.fst e
  rw [hg, hg] at q
  omega
end WC

set_option maxHeartbeats 4000000
namespace WC
open PySem PySem.Spec PyProof.Rows L2
abbrev Lk := Int × Int
def PairA (H : Hp) (c : Lk) (v : V) : Prop := ∃ t, v = .ref t ∧ H t = some (.tup [.int c.1, .int c.2])
theorem pairs_same {H H2 : Hp} {cs : List Lk} {vs : List V} (s : Same H H2) (h : Paired (PairA H) cs vs) : Paired (PairA H2) cs vs := Paired.mapP h fun _ _ ⟨t, e, q⟩ => ⟨t, e, s _ _ q⟩
/-- b is a or lies behind links from a -/
inductive Reach (ls : List Lk) (a : Int) : Int → Prop
  | refl : Reach ls a a
  | step {y z : Int} : Reach ls a y → (y, z) ∈ ls → Reach ls a z
theorem nodup_le : ∀ (n : Nat) (l : List Int), l.Nodup → (∀ x ∈ l, 0 ≤ x ∧ x < n) → l.length ≤ n
  | 0, l, _, h => by
    cases l with
    | nil => exact Nat.le_refl _
    | cons a l =>
      have := h a List.mem_cons_self
      omega
  | n + 1, l, nd, h => by
    by_cases m : (n : Int) ∈ l
    · have q := nodup_le n (l.erase (n : Int)) (nd.erase _) fun x hx => by
        obtain ⟨h1, h2⟩ := (nd.mem_erase_iff).mp hx
        have := h x h2
        omega
      rw [List.length_erase_of_mem m] at q
      omega
    · have q := nodup_le n l nd fun x hx => by
        have := h x hx
        have : x ≠ n := fun e => m (e ▸ hx)
        omega
      omega
/-- the search: found so far, still waiting -/
structure Srch (ls : List Lk) (a : Int) (n : Nat) (F W : List Int) : Prop where
  nd : F.Nodup
  rng : ∀ x ∈ F, 0 ≤ x ∧ x < n
  fst : a ∈ F
  sub : ∀ x ∈ W, x ∈ F
  rch : ∀ x ∈ F, Reach ls a x
  clo : ∀ x ∈ F, x ∈ W ∨ ∀ z, (x, z) ∈ ls → z ∈ F
  wl : W.length ≤ F.length
theorem Srch.all {ls : List Lk} {a : Int} {n : Nat} {F : List Int} (h : Srch ls a n F []) : ∀ x, x ∈ F ↔ Reach ls a x := fun x => by
  constructor
  · exact h.rch x
  · intro r
    induction r with
    | refl => exact h.fst
    | step r m ih =>
      rcases h.clo _ ih with q | q
      · cases q
      · exact q _ m
/-- while the links of y are gone through: those of the first m links are seen -/
structure Mid (ls : List Lk) (a : Int) (n : Nat) (y : Int) (m : Nat) (F W : List Int) : Prop where
  nd : F.Nodup
  rng : ∀ x ∈ F, 0 ≤ x ∧ x < n
  fst : a ∈ F
  sub : ∀ x ∈ W, x ∈ F
  rch : ∀ x ∈ F, Reach ls a x
  yF : y ∈ F
  clo : ∀ x ∈ F, x ∈ W ∨ x = y ∨ ∀ z, (x, z) ∈ ls → z ∈ F
  sn : ∀ z, (y, z) ∈ ls.take m → z ∈ F
  wl : W.length ≤ F.length
theorem Srch.mid {ls : List Lk} {a : Int} {n : Nat} {F W : List Int} {y : Int} (h : Srch ls a n F (W ++ [y])) : Mid ls a n y 0 F W :=
  ⟨h.nd, h.rng, h.fst, fun x hx => h.sub x (List.mem_append_left _ hx), h.rch, h.sub y (by simp), fun x hx => by
    rcases h.clo x hx with q | q
    · rcases List.mem_append.mp q with q | q
      · exact .inl q
      · exact .inr (.inl (List.mem_singleton.mp q))
    · exact .inr (.inr q), fun z hz => by simp at hz, by have q := h.wl; rw [List.length_append] at q; omega⟩
theorem Mid.srch {ls : List Lk} {a : Int} {n : Nat} {F W : List Int} {y : Int} (h : Mid ls a n y ls.length F W) : Srch ls a n F W :=
  ⟨h.nd, h.rng, h.fst, h.sub, h.rch, fun x hx => by
    rcases h.clo x hx with q | q | q
    · exact .inl q
    · exact .inr fun z hz => h.sn z (by rw [List.take_length, ← q]; exact hz)
    · exact .inr q, h.wl⟩
theorem Mid.skip {ls : List Lk} {a : Int} {n : Nat} {F W : List Int} {y : Int} {m : Nat} {c : Lk} (h : Mid ls a n y m F W) (hc : ls[m]? = some c) (hz : c.1 = y → c.2 ∈ F) : Mid ls a n y (m + 1) F W :=
  ⟨h.nd, h.rng, h.fst, h.sub, h.rch, h.yF, h.clo, fun z hm => by
    rw [take_snoc hc] at hm
    rcases List.mem_append.mp hm with q | q
    · exact h.sn z q
    · have e := List.mem_singleton.mp q
      have e1 : c.1 = y := by rw [← e]
      have e2 : c.2 = z := by rw [← e]
      rw [← e2]
      exact hz e1, h.wl⟩
theorem Mid.add {ls : List Lk} {a : Int} {n : Nat} {F W : List Int} {y : Int} {m : Nat} {c : Lk} (h : Mid ls a n y m F W) (hc : ls[m]? = some c) (h1 : c.1 = y) (h2 : c.2 ∉ F) (h3 : 0 ≤ c.2 ∧ c.2 < n) : Mid ls a n y (m + 1) (F ++ [c.2]) (W ++ [c.2]) := by
  have hm : (y, c.2) ∈ ls := by
    have q := List.mem_of_getElem? hc
    rw [← h1]
    exact q
  refine ⟨?_, fun x hx => ?_, List.mem_append_left _ h.fst, fun x hx => ?_, fun x hx => ?_, List.mem_append_left _ h.yF, fun x hx => ?_, fun z hz => ?_, by have q := h.wl; rw [List.length_append, List.length_append]; simp only [List.length_cons, List.length_nil]; omega⟩
  · rw [List.nodup_append]
    exact ⟨h.nd, by simp, fun p hp q hq e => h2 (by rw [← List.mem_singleton.mp hq, ← e]; exact hp)⟩
  · rcases List.mem_append.mp hx with q | q
    · exact h.rng x q
    · rw [List.mem_singleton.mp q]; exact h3
  · rcases List.mem_append.mp hx with q | q
    · exact List.mem_append_left _ (h.sub x q)
    · exact List.mem_append_right _ q
  · rcases List.mem_append.mp hx with q | q
    · exact h.rch x q
    · rw [List.mem_singleton.mp q]; exact .step (h.rch y h.yF) hm
  · rcases List.mem_append.mp hx with q | q
    · rcases h.clo x q with r | r | r
      · exact .inl (List.mem_append_left _ r)
      · exact .inr (.inl r)
      · exact .inr (.inr fun z hz => List.mem_append_left _ (r z hz))
    · exact .inl (List.mem_append_right _ q)
  · rw [take_snoc hc] at hz
    rcases List.mem_append.mp hz with q | q
    · exact List.mem_append_left _ (h.sn z q)
    · have e := List.mem_singleton.mp q
      have e2 : c.2 = z := by rw [← e]
      rw [e2]
      exact List.mem_append_right _ (by simp)
end WC

set_option maxHeartbeats 4000000
namespace WC
open PySem PySem.Spec PyProof.Rows L2
/-- a value that has no address -/
def plainV : V → Bool
  | .int _ => true
  | .bl _ => true
  | .non => true
  | .str _ => true
  | _ => false
/-- x is True, x is False, x a plain value -/
theorem op_isB {X : Cx} : OpR X (compareOp .Is) (fun x y H Q => ∃ k : Bool, y = .bl k ∧ plainV x = true ∧ Q (.bl (decide (x = .bl k))) H) := by
  intro pins s σ H x y v u Q I rx ry h
  obtain ⟨k, rfl, hp, q⟩ := h
  obtain rfl : u = Value.bool k := ry
  have fin : ∀ b, decide (x = V.bl k) = b → EP X pins σ Q (.bool b) s := fun b e => ⟨.bl b, H, I, rfl, by rw [← e]; exact q⟩
  cases x with
  | int i =>
    obtain ⟨t, rfl⟩ := rx
    exact wpAny_pure (fin false (by simp))
  | bl b =>
    obtain rfl : v = Value.bool b := rx
    by_cases e : b = k
    · subst e
      exact wpAny_is_self rfl (fin true (by simp))
    · exact wpAny_is_other rfl (fun z => e (Value.bool.inj z)) (fin false (by simp [e]))
  | non =>
    obtain rfl : v = Value.none := rx
    exact wpAny_pure (fin false (by simp))
  | str z =>
    obtain ⟨t, rfl⟩ := rx
    exact wpAny_pure (fin false (by simp))
  | ref a => cases hp
  | byt b => cases hp
  | flt b => cases hp
  | ty n => cases hp
/-- all but what stands at b is as it was -/
def SameB (b : Addr) (H H2 : Hp) : Prop := ∀ c o, H c = some o → c ≠ b → H2 c = some o
theorem SameB.refl (b : Addr) (H : Hp) : SameB b H H := fun _ _ e _ => e
theorem SameB.trans {b : Addr} {H H1 H2 : Hp} (s : SameB b H H1) (t : SameB b H1 H2) : SameB b H H2 := fun c o e n => t c o (s c o e n) n
theorem SameB.of {b : Addr} {H H1 : Hp} (s : Same H H1) : SameB b H H1 := fun c o e _ => s c o e
theorem SameB.upd {b : Addr} {H H1 : Hp} {o : HO} (s : SameB b H H1) : SameB b H (upd H1 b o) := fun c u e n => by
  rw [upd_ne n]
  exact s c u e n
theorem SameB.put {b p : Addr} {H H1 : Hp} {o : HO} (s : SameB b H H1) (hp : H p = none) : SameB b H (L2.upd H1 p o) := fun c u e n => by
  rw [upd_ne (ne_of_none e hp)]
  exact s c u e n
/-- the bag of draws -/
def BagAt (H : Hp) (b : Addr) : Prop := ∃ x f : Int, H b = some (.lst [.int x, .int f])
theorem BagAt.same {H H2 : Hp} {b : Addr} (h : BagAt H b) (s : Same H H2) : BagAt H2 b := let ⟨x, f, e⟩ := h; ⟨x, f, s _ _ e⟩
theorem SameB.free {b p : Addr} {H H2 : Hp} (s : SameB b H H2) (hb : BagAt H2 b) (hp : H2 p = none) : H p = none := by
  cases e : H p with
  | none => rfl
  | some o =>
    by_cases n : p = b
    · obtain ⟨x, f, q⟩ := hb
      rw [n, q] at hp
      cases hp
    · rw [s p o e n] at hp
      cases hp
end WC

set_option maxHeartbeats 4000000
namespace WC
open PySem PySem.Spec PyProof.Rows L2
/-! a def that lets nothing out, called wherever: also while an exception is handled -/
def cxQ (CX : CXT) (P : Program) (w : World) (K : PySem.W.Frag) (mg : Str → Option Value) (base : Heap) (N : List Str) (qual : Str) (sc : Scope) (f : Addr) (cd : Value) (A : Around) (outer : List Env) (s : Shared) (H : Hp) : Cx :=
  { cxOf CX P w K mg base N qual sc f cd A outer s H E0 with calm := false, xe := fun _ _ => False }
structure FnQ (P : Program) (w : World) (K : PySem.W.Frag) (mg : Str → Option Value) (base : Heap) (k : Nat) (f : Addr) (fd : FuncData) (ps : List Str) (sp : Sp) : Prop where
  len : ∀ vs H Q E, sp vs H Q E → vs.length = ps.length
  run : ∀ (A : Around) (outer : List Env) (s : Shared) (H : Hp) (args : Args) (us : List Value) (vs : List V) (Q : VK), L2H.RoomH k A → Env0 P w K mg base A outer s H → BindsTo s fd args (ps.zip us) → Vals vs us → sp vs H Q E0 →
    codeAny (model P w) A (.call (.ref f) args) (fun r s' => match r with | .ok (.ret u) => CE outer P w H s Q u s' | _ => False) s
theorem inv_startQ {CX : CXT} {P : Program} {w : World} {K : PySem.W.Frag} {mg : Str → Option Value} {base : Heap} {N ps : List Str} {qual : Str} {scope : Scope} {f : Addr} {cd : Value} {A : Around} {outer : List Env} {s s1 : Shared} {H : Hp} {us : List Value} {vs : List V}
    (S : FnScope N ps scope) (e0 : Env0 P w K mg base A outer s H) (hl : vs.length = ps.length) (r : Vals vs us)
    (x : InCallC s s.heap.objs.size (bindL (envOfC qual scope s.heap.objs.size f cd).kindOf (ps.zip us) fun _ => none) (cellsFrom (s.heap.objs.size + 1) scope.names []) (bindC (envOfC qual scope s.heap.objs.size f cd).kindOf (ps.zip us) fun _ => none) s1) :
    Inv (cxQ CX P w K mg base N qual scope f cd A outer s H) [] (L2.start N vs) H s1 := by
  have hpl : ps.length ≤ N.length := by have := congrArg List.length S.pre; rw [List.length_take] at this; omega
  obtain ⟨h1, tk, rfl, hk⟩ := x.done
  have noA : ∀ b : Addr, b ∉ (cxQ CX P w K mg base N qual scope f cd A outer s H).ex := fun b z => absurd (show b ∈ ([] : List Addr) from z) (by simp)
  refine ⟨⟨e0.mod, S.kind, rfl, rfl, Nat.le_refl _, fun y z c h1 h2 => ?_, fun y hy => ?_, fun y c _ h => ?_, (fun z => Bool.noConfusion (show false = true from z)), Around.frames_deeper e0.frames, .inr ⟨rfl, rfl⟩, fun b z => absurd z (noA b), e0.bs, e0.bsz, fun b _ _ => noA b, fun b z => absurd z (noA b), e0.funs, e0.frf⟩,
    rfl, e0.bare, Un.kept hk, ⟨_, x.toInCall.ns, fun i y v h1 h2 h3 => ?_⟩, fun y c h => ⟨_, x.cell y c h⟩, e0.hok.fresh (Nat.le_refl _), fun y c h => ?_, fun q hq => ?_, e0.hok.kept hk, ?_⟩
  · exact name_of_addr x.apart (PySem.mem_of_lookup h1) (PySem.mem_of_lookup h2)
  · have hy : scope.names.lookup y = some .cell ∨ scope.names.lookup y = some .free := hy
    rcases hy with hy | hy
    · exact cell_has hy
    · exact absurd rfl (S.nofree _ (PySem.mem_of_lookup hy))
  · exact Nat.le_of_lt (x.above y c (PySem.mem_of_lookup h))
  · have hi : i < vs.length := by
      unfold L2.start at h2
      by_cases hi : i < vs.length
      · exact hi
      · rw [List.getElem?_append_right (by simpa using hi)] at h2
        rw [List.getElem?_replicate] at h2
        split at h2 <;> cases h2
    have ha : vs[i]? = some v := by
      unfold L2.start at h2
      rw [List.getElem?_append_left (by simpa using hi), List.getElem?_map] at h2
      cases e : vs[i]? with
      | none => rw [e] at h2; cases h2
      | some a => rw [e] at h2; cases h2; rfl
    obtain ⟨u, hu, rv⟩ := r.get ha
    have hp : ps[i]? = some y := by
      rw [← S.pre, List.getElem?_take_of_lt (by omega)]; exact h1
    have ndP : ps.Nodup := by rw [← S.pre]; exact S.nd.sublist (List.take_sublist _ _)
    refine ⟨u, rv, ?_⟩
    rcases S.par y (List.mem_of_getElem? hp) with k | k
    · exact .inl ⟨k, bindL_get ndP hp hu k⟩
    · obtain ⟨c, e⟩ := cell_has (n := s.heap.objs.size + 1) k
      refine .inr ⟨.inl k, c, e, ?_⟩
      have q := x.cell y c e
      rw [bindC_get ndP hp hu (by show scope.names.lookup y ≠ _; rw [k]; decide)] at q
      exact q
  · exact e0.hok.fresh (Nat.le_of_lt (x.above y c (PySem.mem_of_lookup h)))
  · exact absurd (show q ∈ ([] : List (Addr × Obj)) from hq) (by simp)
  · unfold L2.start
    show _ = N.length
    rw [List.length_append, List.length_map, List.length_replicate]
    omega
theorem fn_ofQ {CX : CXT} {P : Program} {w : World} {K : PySem.W.Frag} {mg : Str → Option Value} {base : Heap} {k : Nat} {f : Addr} {name qual : Str} {params : Arguments} {body : List Stmt} {scope : Scope} {dV kV doc pm cdv ct oc : Value} {an od : Option Addr}
    {osl : Array (Option Value)} {N ps : List Str} {sp : Sp} (lk : K.lookup f = some ⟨oc, od, .func (PySem.W.fnOf name qual params body scope dV kV doc pm an cdv ct), osl⟩) (hcd : PySem.W.codeIn K cdv qual = true) (S : FnScope N ps scope)
    (len : ∀ vs H Q E, sp vs H Q E → vs.length = ps.length)
    (hbody : ∀ (A : Around) (outer : List Env) (s : Shared) (H : Hp) (vs : List V) (Q : VK), L2H.RoomH k (A.deeper (envOfC qual scope s.heap.objs.size f cdv)) → sp vs H Q E0 →
      ∃ t, PSs (cxQ CX P w K mg base N qual scope f cdv A outer s H) body t ∧ t { nx := fun _ H' => Q .non H', rt := Q } (L2.start N vs) H) :
    FnQ P w K mg base (k + 1) f (PySem.W.fnOf name qual params body scope dV kV doc pm an cdv ct) ps sp := by
  refine ⟨len, fun A outer s H args us vs Q hr e0 hb r hsp => ?_⟩
  have hl := len _ _ _ _ hsp
  have KX : K.In s.heap := e0.mod.kin.keeps fun b o e => (e0.bs b o e).1
  have lim : s.heap.NoLimit := e0.mod.nolimit.keeps fun b o e => (e0.bs b o e).1
  have hkind : ∀ y ∈ ps.zip us, scope.names.lookup y.1 = some .local ∨ (scope.names.lookup y.1 = some .cell ∧ ((cellsFrom (s.heap.objs.size + 1) scope.names []).lookup y.1).isSome = true) := fun ⟨n, v⟩ hy => by
    rcases S.par n (List.of_mem_zip hy).1 with q | q
    · exact .inl q
    · exact .inr ⟨q, PySem.W.cellsFrom_some _ _ _ (.inl q)⟩
  refine codeAny_call_function hr.depth (KX _ _ lk) rfl S.co S.gen rfl (PySem.W.codeRec_of KX hcd) (hb _ _ _ _ ?_)
  refine wpAny_newFunctionEnv_cells S.kind hkind fun env he s1 x => ?_
  subst he
  refine ⟨lim.keeps x.toInCall.keep, codeAny_func ?_⟩
  obtain ⟨t, ht, hq⟩ := hbody A outer s H vs Q (hr.deeper _) hsp
  have I : Inv (cxQ CX P w K mg base N qual scope f cdv A outer s H) [] (L2.start N vs) H s1 := inv_startQ S e0 hl r x
  refine wpAny_mono (ht.run [] s1 (L2.start N vs) H _ I hq) (fun fl s' hs => ?_) fun e s' hs => False.elim hs
  have fin : ∀ {σ' : L2.St} {H' : Hp} {v : V} {u : Value}, Inv (cxQ CX P w K mg base N qual scope f cdv A outer s H) [] σ' H' s' → RelV v u → Q v H' → CE outer P w H s Q u s' :=
    fun {σ' H' v u} J rv q => ⟨v, H', J.os, J.bare, J.base, J.hok, rv, q⟩
  cases fl with
  | ret u =>
    obtain ⟨v, σ', H', J, rv, q⟩ := hs
    exact fin J rv q
  | next =>
    obtain ⟨σ', H', J, q⟩ := hs
    exact fin (v := V.non) (u := Value.none) J rfl q
  | brk =>
    obtain ⟨_, _, _, q⟩ := hs
    exact False.elim q
  | cont =>
    obtain ⟨_, _, _, q⟩ := hs
    exact False.elim q
section
variable {X : Cx} {CX : CXT} {k : Nat} {f C : Addr} {fd : FuncData} {ps : List Str} {sp : Sp} {x m : Str} {q pos apos : Pos} {e o : Expr} {es : List Expr} {ta : TE} {t : TA}
theorem run_fnQ {pins : List (Addr × Obj)} {σ : L2.St} {H : Hp} {s : Shared} {Q : VK} {us : List Value} {vs : List V} (F : FnQ X.prog X.w X.K X.mg X.base k f fd ps sp) (hr : L2H.RoomH k X.A) (hb : Binds X.K fd ps [])
    (I : Inv X pins σ H s) (r : Vals vs us) (h : sp vs H Q E0) : wpAny (model X.prog X.w) X.A (call (.ref f) us) (EP X pins σ Q) X.xe s := by
  have hl : us.length = ps.length := by rw [← r.length]; exact F.len _ _ _ _ h
  have b := hb s us I.kIn (by rw [List.append_nil]; exact hl)
  rw [List.append_nil] at b
  refine wpAny_call (codeAny_mono (F.run X.A X.stack s H ⟨us, []⟩ us vs Q hr I.env0 b r h) fun r s' hq => ?_)
  cases r with
  | error e => exact False.elim hq
  | ok fl =>
    cases fl with
    | ret u => exact I.after hq
    | next => exact False.elim hq
    | brk => exact False.elim hq
    | cont => exact False.elim hq
end
/-- the def that the module's name x holds keeps sp, wherever it is called -/
structure DefQ (P : Program) (w : World) (K : PySem.W.Frag) (mg : Str → Option Value) (base : Heap) (x : Str) (k : Nat) (sp : Sp) : Prop where
  ex : ∃ f fd ps, mg x = some (.ref f) ∧ PySem.W.keepIn K (.ref f) = true ∧ Binds K fd ps [] ∧ FnQ P w K mg base k f fd ps sp
def tCallQ (sp : Sp) (t : TA) : TE := fun σ H Q => t σ H fun vs H1 => sp vs H1 Q E0
theorem pe_cq {X : Cx} {j k : Nat} {sp : Sp} {x : Str} {e : Expr} {es : List Expr} {t : TA} {p pos : Pos} (D : DefQ X.prog X.w X.K X.mg X.base x k sp) (hr : L2H.RoomH j X.A) (ha : PA X (e :: es) t) (hle : k ≤ j := by decide) (hg : Gl X x := by rfl) (hdb : (x == ("__debug__" : Str)) = false := by decide)
    (he : starEach (e :: es) X.env = (false, eval e X.env) :: starEach es X.env := by rfl) (hpl : (backTo pos (starEach es X.env)).any (·.1) = false := by rfl) : PE X (.Call (.Name x p) (e :: es) [] pos) (tCallQ sp t) := by
  obtain ⟨f, fd, ps, hm, hk, hb, F⟩ := D.ex
  refine ⟨fun pins s σ H Q I h => wpAny_Call_Name_kw (ld_glob I hg hm ?_ hdb)⟩
  exact PySem.W.callWith_K (h₀ := X.base) I.ok.mod.kin hk (thn (ha.run pos pins s σ H _ I h) fun us s1 ⟨vs, H1, I1, r, q⟩ => ⟨I1.kIn, run_fnQ F (hr.mono hle) hb I1 r q⟩) he hpl
end WC

set_option maxHeartbeats 4000000
namespace WC
open PySem PySem.Spec PyProof.Rows L2
/-! channels kept in a dict by their pair -/
abbrev pairOf2 (c : Tri) : Int × Int := (c.1, c.2.1)
def entK (c : Tri) : List Key := [Sum.inl c.1, Sum.inl c.2.1]
def ent (c : Tri) : List Key × V := (entK c, .int c.2.2)
theorem entK_inj {a c : Tri} : entK a = entK c ↔ pairOf2 a = pairOf2 c := by
  unfold entK pairOf2
  simp
theorem put_ent (ms : List Tri) (c : Tri) : ∃ ms2 : List Tri, putK (ms.map ent) (entK c) (.int c.2.2) = ms2.map ent ∧ (∀ p : Tri → Prop, (∀ m ∈ ms, p m) → p c → ∀ m ∈ ms2, p m) ∧ ((ms.map pairOf2).Nodup → (ms2.map pairOf2).Nodup) ∧ ms2.length ≤ ms.length + 1 := by
  unfold putK
  by_cases h : ((ms.map ent).any fun kv => decide (kv.1 = entK c)) = true
  · rw [if_pos h]
    refine ⟨ms.map fun m => if entK m = entK c then c else m, ?_, fun p h1 h2 m hm => ?_, fun nd => ?_, by rw [List.length_map]; omega⟩
    · rw [List.map_map, List.map_map]
      refine List.map_congr_left fun m _ => ?_
      show (if entK m = entK c then (entK m, V.int c.2.2) else ent m) = ent (if entK m = entK c then c else m)
      by_cases e : entK m = entK c
      · rw [if_pos e, if_pos e, e]
        rfl
      · rw [if_neg e, if_neg e]
    · obtain ⟨m0, hm0, e⟩ := List.mem_map.mp hm
      by_cases e2 : entK m0 = entK c
      · rw [if_pos e2] at e
        rw [← e]; exact h2
      · rw [if_neg e2] at e
        rw [← e]; exact h1 m0 hm0
    · have q : (ms.map fun m => if entK m = entK c then c else m).map pairOf2 = ms.map pairOf2 := by
        rw [List.map_map]
        refine List.map_congr_left fun m _ => ?_
        show pairOf2 (if entK m = entK c then c else m) = pairOf2 m
        by_cases e : entK m = entK c
        · rw [if_pos e]
          exact (entK_inj.mp e).symm
        · rw [if_neg e]
      rw [q]
      exact nd
  · rw [if_neg h]
    refine ⟨ms ++ [c], by rw [List.map_append]; rfl, fun p h1 h2 m hm => ?_, fun nd => ?_, by rw [List.length_append]; exact Nat.le_refl _⟩
    · rcases List.mem_append.mp hm with q | q
      · exact h1 m q
      · rw [List.mem_singleton.mp q]; exact h2
    · rw [List.map_append, List.nodup_append]
      refine ⟨nd, by simp, fun x hx y hy e => h ?_⟩
      obtain ⟨m, hm, e1⟩ := List.mem_map.mp hx
      have e2 : y = pairOf2 c := by simpa using hy
      rw [List.any_eq_true]
      exact ⟨ent m, List.mem_map_of_mem hm, decide_eq_true (entK_inj.mpr (e1.trans (e.trans e2)))⟩
theorem val_ent : ∀ {ms : List Tri} {c : Tri}, (ms.map pairOf2).Nodup → c ∈ ms → valV (ms.map ent) (entK c) = some (.int c.2.2)
  | [], _, _, h => by cases h
  | m :: ms, c, nd, h => by
    rw [List.map_cons, List.nodup_cons] at nd
    rw [List.map_cons]
    by_cases e : entK m = entK c
    · rw [valV_pos (p := ent m) e]
      rcases List.mem_cons.mp h with q | q
      · rw [q]; rfl
      · exact absurd (List.mem_map.mpr ⟨c, q, (entK_inj.mp e).symm⟩) nd.1
    · rw [valV_neg (p := ent m) e]
      rcases List.mem_cons.mp h with q | q
      · rw [q] at e; exact absurd rfl e
      · exact val_ent nd.2 q
theorem seq_mid {a b : TS} {D : Ends} {σ : L2.St} {H : Hp} (Pv : L2.St → Hp → Prop) (h1 : ∀ N : L2.St → Hp → Prop, (∀ σ H, Pv σ H → N σ H) → a { D with nx := N } σ H) (h2 : ∀ σ H, Pv σ H → b D σ H) : tSeq a b D σ H := h1 _ h2
/-- a channel from an earlier stage of ts to a later one -/
def LkOk (ts : List Int) (c : Tri) : Prop := (∃ i j : Nat, i < j ∧ ts[i]? = some c.1 ∧ ts[j]? = some c.2.1) ∧ 1 ≤ c.2.2 ∧ c.2.2 ≤ 999
theorem acyc_of {ts : List Int} {ms : List Tri} (nd : ts.Nodup) (h : ∀ c ∈ ms, LkOk ts c) : Acyc ms := by
  refine ⟨fun x => ts.idxOf x, fun c hc => ?_⟩
  obtain ⟨⟨i, j, hij, h1, h2⟩, _⟩ := h c hc
  have at_ : ∀ {k : Nat} {x : Int}, ts[k]? = some x → ts.idxOf x = k := fun {k x} e => by
    obtain ⟨hk, e2⟩ := List.getElem?_eq_some_iff.mp e
    have hx : ts.idxOf x < ts.length := List.idxOf_lt_length_of_mem (e2 ▸ List.getElem_mem hk)
    have e3 : ts[ts.idxOf x]? = some x := by rw [List.getElem?_eq_getElem hx, List.getElem_idxOf hx]
    exact (List.getElem?_inj hx nd).mp (e3.trans e.symm)
  show ts.idxOf c.1 < ts.idxOf c.2.1
  rw [at_ h1, at_ h2]
  exact hij
end WC

set_option maxHeartbeats 4000000
namespace WC
open PySem PySem.Spec PyProof.Rows L2
/-! all that lies behind a, by going over the links n times -/
abbrev On (bs : List Bool) (k : Int) : Prop := bs[k.toNat]? = some true
def Shut (ls : List Lk) (a : Int) (bs : List Bool) : Prop := ∀ y z, (y, z) ∈ ls → y = a ∨ On bs y → On bs z
structure Wlk (ls : List Lk) (a : Int) (n : Nat) (bs : List Bool) : Prop where
  len : bs.length = n
  snd : ∀ k : Nat, bs[k]? = some true → Reach ls a k
theorem set_same {bs : List Bool} {k : Nat} (h : bs[k]? = some true) : bs.set k true = bs := by
  apply List.ext_getElem?
  intro i
  rw [List.getElem?_set]
  by_cases e : k = i
  · subst e
    rw [if_pos rfl, if_pos (List.getElem?_eq_some_iff.mp h).1, h]
  · rw [if_neg e]
theorem count_set : ∀ {bs : List Bool} {k : Nat}, bs[k]? = some false → (bs.set k true).count true = bs.count true + 1
  | [], k, h => by simp at h
  | a :: bs, 0, h => by
    have e : a = false := by simpa using h
    subst e
    simp
  | a :: bs, k + 1, h => by
    have h : bs[k]? = some false := by simpa using h
    rw [List.set_cons_succ, List.count_cons, List.count_cons, count_set h]
    omega
structure WMid (ls : List Lk) (a : Int) (n : Nat) (m : Nat) (bs0 bs : List Bool) : Prop where
  w : Wlk ls a n bs
  up : ∀ k : Int, On bs0 k → On bs k
  dn : ∀ y z, (y, z) ∈ ls.take m → y = a ∨ On bs0 y → On bs z
  sh : Shut ls a bs0 → bs = bs0
  ct : bs = bs0 ∨ bs0.count true < bs.count true
theorem WMid.start {ls : List Lk} {a : Int} {n : Nat} {bs : List Bool} (w : Wlk ls a n bs) : WMid ls a n 0 bs bs := ⟨w, fun _ h => h, fun y z h => by simp at h, fun _ => rfl, .inl rfl⟩
theorem WMid.hit {ls : List Lk} {a : Int} {n m : Nat} {bs0 bs : List Bool} {y z : Int} (h : WMid ls a n m bs0 bs) (hc : ls[m]? = some (y, z)) (hy : 0 ≤ y) (hz : 0 ≤ z ∧ z < n) (c : y = a ∨ On bs y) : WMid ls a n (m + 1) bs0 (bs.set z.toNat true) := by
  have hm : (y, z) ∈ ls := List.mem_of_getElem? hc
  have zl : z.toNat < bs.length := by rw [h.w.len]; omega
  have at1 : ∀ {k : Int}, On bs k → On (bs.set z.toNat true) k := fun {k} e => by
    show (bs.set z.toNat true)[k.toNat]? = some true
    rw [List.getElem?_set]
    by_cases q : z.toNat = k.toNat
    · rw [if_pos q, if_pos zl]
    · rw [if_neg q]; exact e
  have atz : On (bs.set z.toNat true) z := by
    show (bs.set z.toNat true)[z.toNat]? = some true
    rw [List.getElem?_set, if_pos rfl, if_pos zl]
  refine ⟨⟨by rw [List.length_set]; exact h.w.len, fun k e => ?_⟩, fun k e => at1 (h.up k e), fun y2 z2 e c2 => ?_, fun s => ?_, ?_⟩
  · rw [List.getElem?_set] at e
    by_cases q : z.toNat = k
    · have ek : (k : Int) = z := by omega
      rw [ek]
      refine .step ?_ hm
      rcases c with c | c
      · rw [c]; exact .refl
      · have := h.w.snd y.toNat c
        have e3 : ((y.toNat : Nat) : Int) = y := by omega
        rw [e3] at this
        exact this
    · rw [if_neg q] at e
      exact h.w.snd k e
  · rw [take_snoc hc] at e
    rcases List.mem_append.mp e with e | e
    · exact at1 (h.dn y2 z2 e c2)
    · have e := List.mem_singleton.mp e
      cases e
      exact atz
  · have e0 := h.sh s
    rw [e0] at c
    have z0 : On bs0 z := s y z hm c
    rw [e0]
    exact set_same z0
  · cases hb : bs[z.toNat]? with
    | none => rw [List.getElem?_eq_none_iff] at hb; omega
    | some v =>
      cases v with
      | true => rw [set_same hb]; exact h.ct
      | false =>
        refine .inr ?_
        rw [count_set hb]
        rcases h.ct with e | e
        · rw [e]; omega
        · omega
theorem WMid.miss {ls : List Lk} {a : Int} {n m : Nat} {bs0 bs : List Bool} {y z : Int} (h : WMid ls a n m bs0 bs) (hc : ls[m]? = some (y, z)) (c : ¬ (y = a ∨ On bs y)) : WMid ls a n (m + 1) bs0 bs :=
  ⟨h.w, h.up, fun y2 z2 e c2 => by
    rw [take_snoc hc] at e
    rcases List.mem_append.mp e with e | e
    · exact h.dn y2 z2 e c2
    · have e := List.mem_singleton.mp e
      cases e
      exact absurd (c2.imp id (h.up _)) c, h.sh, h.ct⟩
theorem WMid.fin {ls : List Lk} {a : Int} {n t : Nat} {bs0 bs : List Bool} (h : WMid ls a n ls.length bs0 bs) (q : Shut ls a bs0 ∨ t ≤ bs0.count true) : Shut ls a bs ∨ t + 1 ≤ bs.count true := by
  rcases h.ct with e | e
  · refine .inl fun y z hm c => ?_
    rw [e] at c
    exact h.dn y z (by rw [List.take_length]; exact hm) c
  · rcases q with q | q
    · have := h.sh q
      rw [this] at e
      omega
    · exact .inr (by omega)
theorem all_on {bs : List Bool} {n : Nat} (hl : bs.length = n) (h : n ≤ bs.count true) {k : Nat} (hk : k < n) : bs[k]? = some true := by
  have e : bs.count true = bs.length := Nat.le_antisymm List.count_le_length (by omega)
  have q := List.count_eq_length.mp e
  have hk2 : k < bs.length := by omega
  have := q (bs[k]) (List.getElem_mem hk2)
  rw [List.getElem?_eq_getElem hk2, ← this]
theorem Wlk.shut {ls : List Lk} {a : Int} {n : Nat} {bs : List Bool} (h : Wlk ls a n bs) (r : ∀ y z, (y, z) ∈ ls → 0 ≤ z ∧ z < n) (q : Shut ls a bs ∨ n ≤ bs.count true) : Shut ls a bs := by
  rcases q with q | q
  · exact q
  · intro y z hm _
    obtain ⟨z0, z1⟩ := r y z hm
    exact all_on h.len q (by omega)
theorem Wlk.all {ls : List Lk} {a : Int} {n : Nat} {bs : List Bool} (h : Wlk ls a n bs) (r : ∀ y z, (y, z) ∈ ls → 0 ≤ z ∧ z < n) (q : Shut ls a bs ∨ n ≤ bs.count true) : ∀ z, Reach ls a z → z = a ∨ On bs z := by
  have s := h.shut r q
  intro z hr
  induction hr with
  | refl => exact .inl rfl
  | step r m ih => exact .inr (s _ _ m ih)
end WC

set_option maxHeartbeats 4000000
namespace WC
open PySem PySem.Spec PyProof.Rows L2
/-! a caught exception with fields: its classes; a method called in a try -/
theorem inst_x {X : Cx} {a D dd : Addr} {oe : Obj} {cls : Value} {d : Option Addr} {pn pins : List (Addr × Obj)} {σ : L2.St} {H : Hp} {s : Shared} {fs : List (Str × V)} (hz : Zc cls d oe) (hf : ∃ vs, oe.data = .fields vs) (I : Inv (X.suite a ((a, oe) :: pn)) pins σ H s) (ec : cls = .ref D) (ed : d = some dd) (ea : H dd = some (.xd fs)) :
    ∃ od, PySem.W.InstAt s.heap a oe D (some od) := by
  subst ec ed
  obtain ⟨ha, _⟩ := I.pin (a, oe) (List.mem_append_left _ List.mem_cons_self)
  obtain ⟨vs, hd⟩ := hf
  have hx : ObjOk X.prog X.w H s.heap dd (.xd fs) := I.hok dd _ ea
  obtain ⟨mA, hns, hr⟩ := hx
  obtain ⟨od, ho, hl⟩ := lookIn_ns hns
  exact ⟨od, ha, hz.1, by unfold PySem.W.notCls; rw [hd] <;> rfl, by rw [hz.2]; exact ho⟩
theorem exc_is {K : PySem.W.Frag} {D : Addr} (C : ExcC K D) : (PySem.W.clsIn K D).isSome = true := by
  obtain ⟨cd, hc, _⟩ := PySem.W.any_some C.hd
  rw [hc]
  rfl
def rIsX (K : PySem.W.Frag) (D a : Addr) (cls : Value) (d : Option Addr) : List V → Hp → VK → Prop := fun xs H Q => ∃ (c : V) (cv : Value) (b : Bool) (dd : Addr) (fs : List (Str × V)), xs = [.ref a, c] ∧ ClsV c cv ∧ PySem.W.kitOne K (.ref D) cv = some b ∧ cls = .ref D ∧ d = some dd ∧ H dd = some (.xd fs) ∧ Q (.bl b) H
def rIsXT (K : PySem.W.Frag) (D a : Addr) (cls : Value) (d : Option Addr) : List V → Hp → VK → Prop := fun xs H Q => ∃ (tp : Addr) (cs : List V) (cvs : List Value) (b : Bool) (dd : Addr) (fs : List (Str × V)), xs = [.ref a, .ref tp] ∧ H tp = some (.tup cs) ∧ Paired ClsV cs cvs ∧ PySem.W.kitAny K (.ref D) cvs = some b ∧ cls = .ref D ∧ d = some dd ∧ H dd = some (.xd fs) ∧ Q (.bl b) H
section
variable {X : Cx} {a D : Addr} {oe : Obj} {cls : Value} {d : Option Addr} {pn : List (Addr × Obj)}
theorem call_isX (C : ExcC X.K D) (hz : Zc cls d oe) (hf : ∃ vs, oe.data = .fields vs) : CallR (X.suite a ((a, oe) :: pn)) (.builtin "isinstance") (rIsX X.K D a cls d) := by
  intro pins s σ H xs us Q I r h
  obtain ⟨c, cv, b, dd, fs, rfl, hcv, e, ec, ed, ea, q⟩ := h
  obtain ⟨u1, u2, rfl, r1, r2⟩ := vals2 r
  have e2 := hcv.eq r2
  subst e2
  obtain rfl : u1 = Value.ref a := r1
  obtain ⟨od, J⟩ := inst_x hz hf I ec ed ea
  exact PySem.W.kia_one (PySem.W.kitx_exc (exc_is C) C.hg C.hk C.hs C.ha C.hn C.ht C.hm) I.kIn J e (fun z => nomatch z) fun tk => ⟨.bl b, H, I.kept (t' := tk) fun _ _ z => z, rfl, q⟩
theorem call_isXT (C : ExcC X.K D) (hz : Zc cls d oe) (hf : ∃ vs, oe.data = .fields vs) : CallR (X.suite a ((a, oe) :: pn)) (.builtin "isinstance") (rIsXT X.K D a cls d) := by
  intro pins s σ H xs us Q I r h
  obtain ⟨tp, cs, cvs, b, dd, fs, rfl, hT, k, e, ec, ed, ea, q⟩ := h
  obtain ⟨u1, u2, rfl, r1, r2⟩ := vals2 r
  obtain rfl : u1 = Value.ref a := r1
  cases (show u2 = Value.ref tp from r2)
  obtain ⟨od, J⟩ := inst_x hz hf I ec ed ea
  obtain ⟨_, its, rv, o, h1, h2, n, h3⟩ := (show ObjOk X.prog X.w H s.heap tp (.tup cs) from I.hok tp _ hT)
  have e3 := ClsV.all k rv
  subst e3
  obtain ⟨oc, od2, dt, sl⟩ := o
  simp only at h2 h3
  subst h2 h3
  exact PySem.W.kia_tup (PySem.W.kitx_exc (exc_is C) C.hg C.hk C.hs C.ha C.hn C.ht C.hm) I.kIn J h1 e (fun z => nomatch z) fun tk => ⟨.bl b, H, I.kept (t' := tk) fun _ _ z => z, rfl, q⟩
end
/-- the method m that is found at C keeps sp -/
structure MetR (P : Program) (w : World) (K : PySem.W.Frag) (mg : Str → Option Value) (base : Heap) (C : Addr) (m : Str) (k : Nat) (sp : Sp) : Prop where
  ex : ∃ f fd ps, Cls K C ∧ Meth K C m f ∧ Binds K fd ps [] ∧ FnOk P w K mg base (L2.CX P w) k f fd ps sp
def tMtS (C : Addr) (m : Str) (sp : Sp) (E : L2.St → XK) (ta : TE) (t : TA) : TE := fun σ H Q => ta σ H fun x H1 => ∃ a dx fs, x = .ref a ∧ H1 a = some (.ins C dx fs) ∧ fs.lookup m = none ∧ t σ H1 fun vs H2 => sp (x :: vs) H2 Q (E σ)
theorem pe_mtS {X : Cx} {C : Addr} {m : Str} {j k : Nat} {sp : Sp} {W : WX} {o e : Expr} {es : List Expr} {ta : TE} {t : TA} {pos apos : Pos} {pl : Sem Bool} (D : MetR X.prog X.w X.K X.mg X.base C m k sp) (ho : PE X o ta) (hr : Room j X.A) (tk : Takes X W) (ha : PA X (e :: es) t) (hle : k ≤ j := by decide)
    (hst : starEach (e :: es) X.env = (false, eval e X.env) :: starEach es X.env := by rfl) (hpl : (backTo pos (starEach es X.env)).any (·.1) = false := by rfl)
    (ht : eval (.Call (.Attribute o m apos) (e :: es) [] pos) X.env = (do
      let ov ← eval o X.env
      standAt apos.atName
      let (f, first) ← holding [ov] (getMethod ov m pl)
      callWith pos f first (backTo pos (starEach (e :: es) X.env)) (backToKw pos (keywordEach [] X.env))) := by rfl) : PE X (.Call (.Attribute o m apos) (e :: es) [] pos) (tMtS C m sp (WE W) ta t) := by
  obtain ⟨f, fd, ps, c, hm, hb, F⟩ := D.ex
  refine ⟨fun pins s σ H Q I h => ?_⟩
  refine PySem.W.methodCall_KW (pl := pl) (thn (ho.run pins s σ H _ I h) fun u s1 ⟨x, H1, I1, rx, a, dx, fs, ex, ea, l, q⟩ => ?_) ht
  subst ex
  obtain rfl : u = Value.ref a := rx
  refine getmeth_ok I1 ea c hm l ?_
  refine PySem.W.callWith_K (first := [.ref a]) (h₀ := X.base) I.ok.mod.kin hm.kp (thn (ha.run pos pins s1 σ H1 _ I1 q) fun us s2 ⟨vs, H2, I2, r, q2⟩ => ⟨I2.kIn, ?_⟩) hst hpl
  exact run_fnS (E := WE W) (us := .ref a :: us) (vs := .ref a :: vs) F (hr.mono hle) hb (passAt tk σ) I2 (.cons rfl r) q2
end WC

set_option maxHeartbeats 4000000
namespace WC
open PySem PySem.Spec PyProof.Rows L2 ClX
/-! a classmethod called with thirty arguments or more -/
section
variable {X : Cx} {CX : CXT} {k : Nat} {C p g : Addr} {mc : Value} {sp : Sp} {E : XK} {o e : Expr} {es : List Expr} {f m : Str} {pos apos : Pos} {ta : TE} {t : TA}
theorem pe_cmethL (he : PE X o ta) (r : CRead X.K C mc) (c : CMet X.K C mc m p g) (F : FnR X.prog X.w X.K X.mg X.base CX k g sp) (hr : Room k X.A) (hx : Passes CX X E) (ha : PA X (e :: es) t)
    (hst : starEach (e :: es) X.env = (false, eval e X.env) :: starEach es X.env := by rfl) (hpl : (backTo pos (starEach es X.env)).any (·.1) = false := by rfl)
    (ht : eval (.Call (.Attribute o m apos) (e :: es) [] pos) X.env = (do
      let ov ← eval o X.env
      standAt apos.atName
      let (f, first) ← holding [ov] (do pure (← getAttr ov m true, ([] : List Value)))
      callWith pos f first (backTo pos (starEach (e :: es) X.env)) (backToKw pos (keywordEach [] X.env))) := by rfl) :
    PE X (.Call (.Attribute o m apos) (e :: es) [] pos) (tCMeth C sp E ta t) := by
  refine ⟨fun pins s σ H Q I h => ?_⟩
  show wpAny _ _ (eval (.Call (.Attribute o m apos) (e :: es) [] pos) X.env) _ _ _
  rw [ht]
  refine wpAny_bind (thn (he.run pins s σ H _ I h) fun u s1 ⟨x, H1, I1, rx, ex, q⟩ => ?_)
  subst ex
  obtain rfl : u = Value.ref C := rx
  refine wpAny_bind (wpAny_standAt (wpAny_bind (wpAny_holding (wpAny_bind (getcmet_ok I1 r c fun s2 I2 => wpAny_pure ?_)))))
  show wpAny _ _ (callWith pos (.ref s1.heap.objs.size) [] (backTo pos (starEach (e :: es) X.env)) []) _ _ _
  refine callwith_cm I2 (base_none I1 (Nat.le_refl _)) c.fi (thn (ha.run pos _ s2 σ H1 _ I2 q) fun us s3 ⟨vs, H2, I3, rv, q2⟩ => ⟨⟨pin_at I3, I3.kIn⟩, ?_⟩) hst hpl
  exact run_cm F hr hx I3 rv q2
end
end WC

set_option maxHeartbeats 4000000
namespace WC
open PySem PySem.Spec PyProof.Rows L2
/-! an own exception made outside a raise, and its field -/
def tNewO (C : Addr) (sp : Sp) (ta : TA) : TE := fun σ H Q => ta σ H fun vs H1 => vs.length ≤ 1000 ∧ ∀ a, H1 a = none → sp (.ref a :: vs) (upd H1 a (exo a C none)) (fun v H2 => v = .non ∧ Q (.ref a) H2) (fun _ _ _ => False)
section
variable {X : Cx} {x : Str} {C : Addr} {k j n : Nat} {fl : List V → List (Str × V)} {e : Expr} {es : List Expr} {ta : TA} {p pos : Pos}
theorem pe_oex {CX : CXT} {fI : Addr} {fd : FuncData} {ps : List Str} {sp : Sp} (T : OexC X.K C) (iC : PySem.W.findIn X.K (.ref C) "__init__" = some (some (.ref fI))) (tI : PySem.W.typeIn X.K (.ref fI) = some (.type "function"))
    (F1 : FnOk X.prog X.w X.K X.mg X.base CX k fI fd ps sp) (hr : Room (k + 1) X.A) (hb : Binds X.K fd ps []) (hx : Passes CX X (fun _ _ _ => False)) (hg : Gl X x) (hm : X.mg x = some (.ref C)) (ha : PA X (e :: es) ta)
    (hdb : (x == ("__debug__" : Str)) = false := by decide) (he : starEach (e :: es) X.env = (false, eval e X.env) :: starEach es X.env := by rfl) (hpl : (backTo pos (starEach es X.env)).any (·.1) = false := by rfl) :
    PE X (.Call (.Name x p) (e :: es) [] pos) (tNewO C sp ta) := by
  refine ⟨fun pins s σ H Q I h => ?_⟩
  obtain ⟨nm, q, N, bs, bm, sn, sub, ab, col, dd, k0, k1, k2, k3, k5, hC, hbm⟩ := T.cls
  refine wpAny_Call_Name_kw (ld_glob I hg hm ?_ hdb)
  refine PySem.W.callWith_K (h₀ := X.base) I.ok.mod.kin T.kC (thn (ha.run pos pins s σ H _ I h) fun us s1 ⟨vs, H1, I1, r1, hz, q1⟩ => ⟨I1.kIn, ?_⟩) he hpl
  show wpAny _ _ (call (.ref C) us) _ _ _
  obtain ⟨hp, g, dr, tk, os⟩ := s1
  have hsz : hp.objs.size ≤ hp.objs.size + 1 := Nat.le_succ _
  have hn : H1 (hp.objs.size + 1) = none := I1.hok.fresh hsz
  have hq := q1 (hp.objs.size + 1) hn
  have kk : ∀ b o, hp.get? b = some o → ((hp.push (PySem.W.kdv_tup us)).push (PySem.HandSPX.excO C hp.objs.size)).get? b = some o := fun b o e => Heap.get?_push_of_some _ (Heap.get?_push_of_some _ e)
  have hget : ((hp.push (PySem.W.kdv_tup us)).push (PySem.HandSPX.excO C hp.objs.size)).get? (hp.objs.size + 1) = some (PySem.HandSPX.excO C hp.objs.size) := by heap_get
  have I2 : Inv X pins σ (upd H1 (hp.objs.size + 1) (exo (hp.objs.size + 1) C none)) ⟨(hp.push (PySem.W.kdv_tup us)).push (PySem.HandSPX.excO C hp.objs.size), g, dr, tk, os⟩ :=
    I1.laid (t' := tk) (a := hp.objs.size + 1) (o := exo (hp.objs.size + 1) C none) (h' := (hp.push (PySem.W.kdv_tup us)).push (PySem.HandSPX.excO C hp.objs.size)) kk hsz (exo_ok hget)
  have r2 : Vals (V.ref (hp.objs.size + 1) :: vs) (Value.ref (hp.objs.size + 1) :: us) := .cons rfl r1
  have hl : (Value.ref (hp.objs.size + 1) :: us).length = ps.length := by
    have e := r2.length
    rw [F1.len _ _ _ _ hq] at e
    exact e.symm
  have hus : us.length ≤ sizeLine := by
    rw [← Paired.length r1, sizeLine_eq]
    omega
  have bnd := hb _ (Value.ref (hp.objs.size + 1) :: us) I2.kIn (by rw [List.append_nil]; exact hl)
  rw [List.append_nil] at bnd
  refine wpAny_call (PySem.HandSPX.call_own F.excBase_ValueError (fun Y => PySem.HandSPX.refsVE_contains Y bm hbm) (I1.kIn _ _ hC) (PySem.W.looks_findIn I1.kIn iC) (fun self => PySem.W.bind_fn I1.kIn self tI) hus
    (codeAny_mono (F1.run _ X.stack _ _ ⟨Value.ref (hp.objs.size + 1) :: us, []⟩ (Value.ref (hp.objs.size + 1) :: us) _ _ (fun _ _ _ => False) (hr.make C us []) (I2.env0.make C us []) bnd r2 hq) fun r s' hq' => ?_))
  cases r with
  | error er => exact hx pins σ _ _ er s' I2 hq'
  | ok fl =>
    cases fl with
    | ret u =>
      obtain ⟨v, H2, J, rv, ev, q2⟩ := I2.after hq'
      subst ev
      exact ⟨rv, .ref (hp.objs.size + 1), H2, J, rfl, q2⟩
    | next => exact False.elim hq'
    | brk => exact False.elim hq'
    | cont => exact False.elim hq'
theorem pe_newx (T : ExcR X.prog X.w X.K X.mg X.base x C k n fl) (hr : Room j X.A) (ha : PA X (e :: es) ta) (hle : k + 1 ≤ j := by decide) (hg : Gl X x := by rfl) (hdb : (x == ("__debug__" : Str)) = false := by decide)
    (he : starEach (e :: es) X.env = (false, eval e X.env) :: starEach es X.env := by rfl) (hpl : (backTo pos (starEach es X.env)).any (·.1) = false := by rfl) : PE X (.Call (.Name x p) (e :: es) [] pos) (tNewO C (spX C n fl) ta) := by
  obtain ⟨f, fd, ps, i1, i2, i3, F⟩ := T.ini
  exact pe_oex T.txt i1 i2 F (hr.mono hle) i3 passL hg T.gC ha hdb he hpl
def tXo (C : Addr) (f : Str) (te : TE) : TE := fun σ H Q => te σ H fun x H1 => ∃ (a d : Addr) (fs : List (Str × V)) (v : V), x = .ref a ∧ H1 a = some (exo a C (some d)) ∧ H1 d = some (exd d fs) ∧ fs.lookup f = some v ∧ Q v H1
theorem pe_xo {te : TE} {f : Str} (T : XfC X.K C) (hno : PySem.W.findIn X.K (.ref C) f = some none) (he : PE X e te) (hb : attributeBase e f X.env (eval e X.env) = eval e X.env := by rfl) : PE X (.Attribute e f pos) (tXo C f te) := by
  refine ⟨fun pins s σ H Q I h => ?_⟩
  refine attr_of hb (thn (he.run pins s σ H _ I h) fun u s1 hh => ?_)
  obtain ⟨x, H1, I1, rx, a, d, fs, v, ex, ea, ed, l, q⟩ := hh
  subst ex
  obtain rfl : u = Value.ref a := rx
  obtain ⟨⟨t1, ho⟩, _⟩ := (show ObjOk X.prog X.w H1 s1.heap a (exo a C (some d)) from I1.hok a _ ea)
  obtain ⟨⟨mA, hns, hr⟩, _⟩ := (show ObjOk X.prog X.w H1 s1.heap d (exd d fs) from I1.hok d _ ed)
  obtain ⟨od, hd, hl⟩ := lookIn_ns hns
  obtain ⟨u, hu, ru⟩ := RelO.some_of (v := v) (o := mA f) (by rw [← l]; exact hr f)
  have J : PySem.W.InstAt s1.heap a _ C (some od) := ⟨ho, rfl, rfl, hd⟩
  exact PySem.HandSPX.exc_get I1.kIn J T.ga T.gg T.exC (PySem.W.findObj_own T.hdC hno rfl (by rw [hl, hu])) (handed_of ru) ⟨v, H1, I1.tok _, ru, q⟩
end
end WC

set_option maxHeartbeats 4000000
namespace WC
open PySem PySem.Spec PyProof.Rows L2
/-! zip(x, y), each a list or a tuple -/
def SqX (K : PySem.W.Frag) (H : Hp) (k : Bool) (a : Addr) (xs : List V) : Prop := match k with
  | true => SqT K H a xs
  | false => SqL K H a xs
def IsX (h : Heap) (k : Bool) (l : Addr) (items : Array Value) : Prop := match k with
  | true => h.IsTuple l items
  | false => h.IsList l items
def ItX (h : Heap) (k : Bool) (it l : Addr) (i : Nat) : Prop := match k with
  | true => h.IsTupleIter it l i
  | false => h.IsListIter it l i
theorem begX (k : Bool) (l : Addr) (items : Array Value) : ∃ o, Begins (.ref l) o (fun h => IsX h k l items) ∧ ∀ h it, h.get? it = some o → ItX h k it l 0 := by
  cases k with
  | true => exact ⟨_, begins_tuple l items, fun h it e => ⟨_, e, rfl, rfl⟩⟩
  | false => exact ⟨_, begins_list l items, fun h it e => ⟨_, e, rfl, rfl⟩⟩
theorem drX {prog : Program} {w : World} {A : Around} (hh : A.handled = none) (k : Bool) (it l : Addr) (hne : l ≠ it) (items : Array Value) : Draws prog w A it [it, l] items.size (fun i v => items[i]? = some v) (fun i h => ItX h k it l i ∧ IsX h k l items) := by
  cases k with
  | true => exact Draws.tuple hh it l hne items
  | false => exact Draws.list hh it l hne items
theorem itx_at {h h2 : Heap} {k : Bool} {it l : Addr} {i : Nat} (x : ItX h k it l i) (e : ∀ o, h.get? it = some o → h2.get? it = some o) : ItX h2 k it l i := by
  cases k with
  | true => exact Heap.IsTupleIter.at x e
  | false => exact Heap.IsListIter.at x e
theorem itx_obj {h : Heap} {k : Bool} {it l : Addr} {i : Nat} (x : ItX h k it l i) : ∃ o, h.get? it = some o ∧ (∀ v, o.data ≠ .cell v) ∧ ∃ vs, o.data = .fields vs := by
  cases k with
  | true =>
    obtain ⟨o, e, _, d⟩ := x
    refine ⟨o, e, ?_, _, d⟩
    intro v q
    rw [d] at q
    cases q
  | false =>
    obtain ⟨o, e, _, d⟩ := x
    refine ⟨o, e, ?_, _, d⟩
    intro v q
    rw [d] at q
    cases q
theorem isx_ne {h : Heap} {k k2 : Bool} {a b it : Addr} {i : Nat} {items : Array Value} (x : IsX h k a items) (y : ItX h k2 it b i) : a ≠ it := fun z => by
  obtain ⟨o2, e2, _, vs, d2⟩ := itx_obj y
  cases k with
  | true =>
    obtain ⟨o1, q1, c1, _, d1⟩ := x
    rw [z, e2] at q1
    cases q1
    rw [d1] at d2
    cases d2
  | false =>
    obtain ⟨o1, q1, c1, _, d1⟩ := x
    rw [z, e2] at q1
    cases q1
    rw [d1] at d2
    cases d2
theorem sqx_is {X : Cx} {pins : List (Addr × Obj)} {σ : L2.St} {H : Hp} {s : Shared} {k : Bool} {a : Addr} {xs : List V} (I : Inv X pins σ H s) (q : SqX X.K H k a xs) : ∃ its : List Value, Vals xs its ∧ IsX s.heap k a its.toArray := by
  cases k with
  | true =>
    obtain ⟨its, rv, p, _⟩ := I.tuple q
    exact ⟨its, rv, p⟩
  | false =>
    obtain ⟨its, rv, p, _⟩ := I.list q
    exact ⟨its, rv, p.isList⟩
theorem sqx_inj {X : Cx} {pins : List (Addr × Obj)} {σ : L2.St} {H : Hp} {s : Shared} {k : Bool} {a : Addr} {xs ys : List V} (I : Inv X pins σ H s) (q : SqX X.K H k a xs) (r : SqX X.K H k a ys) : xs = ys := by
  cases k with
  | true => exact I.tuple_inj q r
  | false => exact I.list_inj q r
def ItzM (K : PySem.W.Frag) (k1 k2 : Bool) (a b : Addr) : It :=
  ⟨fun i H => ∃ (xs ys : List V) (x y : V), SqX K H k1 a xs ∧ SqX K H k2 b ys ∧ xs[i]? = some x ∧ ys[i]? = some y,
    fun i H v H' => ∃ T x y, v = .ref T ∧ H T = none ∧ H' = upd H T (.tup [x, y]) ∧ (∀ xs, SqX K H k1 a xs → xs[i]? = some x) ∧ ∀ ys, SqX K H k2 b ys → ys[i]? = some y,
    fun i H => ∃ xs ys : List V, SqX K H k1 a xs ∧ SqX K H k2 b ys ∧ i ≤ xs.length ∧ i ≤ ys.length ∧ (xs.length = i ∨ ys.length = i)⟩
structure ZpM (z TI TO i1 i2 a b : Addr) : Prop where
  s : ZipSep2 z TI TO i1 i2 [i1, a] [i2, b]
  n1 : a ≠ i1
  n2 : b ≠ i2
theorem turn_zipM {P : Program} {w : World} {K : PySem.W.Frag} {elts : List Expr} {kk : Nat} {tpos : Pos} {k1 k2 : Bool} {a b z TI TO i1 i2 : Addr} (D : ZpM z TI TO i1 i2 a b) :
    Turn P w K (.Tuple elts kk tpos) (ItzM K k1 k2 a b) [z, TI, TO, i1, i2] z (fun i h => IsZip h z TI TO .none ∧ IsTupOf2 h TI (.ref i1) (.ref i2) ∧ (∃ x y, IsTupOf2 h TO x y) ∧ ItX h k1 i1 a i ∧ ItX h k2 i2 b i) where
  mem := by simp
  obj := fun i h st c hc => by
    obtain ⟨hz, hTI, ⟨x, y, hTO⟩, h1, h2⟩ := st
    obtain ⟨o1, e1, d1, _⟩ := itx_obj h1
    obtain ⟨o2, e2, d2, _⟩ := itx_obj h2
    have e' : c = z ∨ c = TI ∨ c = TO ∨ c = i1 ∨ c = i2 := by simpa using hc
    rcases e' with q | q | q | q | q
    · rw [q]; exact ⟨_, hz, fun v q => nomatch q⟩
    · rw [q]; exact ⟨_, hTI, fun v q => nomatch q⟩
    · rw [q]; exact ⟨_, hTO, fun v q => nomatch q⟩
    · rw [q]; exact ⟨o1, e1, d1⟩
    · rw [q]; exact ⟨o2, e2, d2⟩
  keep := fun i h h' st k => by
    obtain ⟨hz, hTI, ⟨x, y, hTO⟩, h1, h2⟩ := st
    exact ⟨k z (by simp) _ hz, k TI (by simp) _ hTI, ⟨x, y, k TO (by simp) _ hTO⟩, itx_at h1 fun o q => k i1 (by simp) o q, itx_at h2 fun o q => k i2 (by simp) o q⟩
  item := by
    intro X hP hw hK hc i pins s σ H E I hf st hg
    subst hP hw hK
    obtain ⟨hz, hTI, ⟨x0, y0, hTO⟩, h1, h2⟩ := st
    obtain ⟨xs, ys, x, y, hqx, hqy, hx, hy⟩ := hg
    obtain ⟨its, rv, p⟩ := sqx_is I hqx
    obtain ⟨its2, rv2, p2⟩ := sqx_is I hqy
    obtain ⟨u, hu, ru⟩ := rv.get hx
    obtain ⟨u2, hu2, ru2⟩ := rv2.get hy
    have hzl : z < s.heap.objs.size := Heap.lt_size hz
    have S := D.s
    have hl1 : i < its.toArray.size := by have := (List.getElem?_eq_some_iff.mp hu).1; simpa using this
    have hl2 : i < its2.toArray.size := by have := (List.getElem?_eq_some_iff.mp hu2).1; simpa using this
    refine wpAny_pyNext_zipD2_item S (drX (A := X.A.in1) (I.ok.hd hc) k1 i1 a D.n1 its.toArray) (drX (A := X.A.in1) (I.ok.hd hc) k2 i2 b D.n2 its2.toArray) hz hTI hTO ⟨h1, p⟩ ⟨h2, p2⟩ hl1 hl2 fun v1 v2 h' tk e1 e2 z' TO' h1' h2' hT hsz hk => ?_
    have e1 : its[i]? = some v1 := by simpa using e1
    have e2 : its2[i]? = some v2 := by simpa using e2
    rw [hu] at e1
    rw [hu2] at e2
    cases e1
    cases e2
    refine ⟨_, rfl, wpAny_letOwnedTupleGo_zip (s := { s with heap := h', toks := tk }) z' fun h'' z'' sb => ?_⟩
    have hT2 : h''.get? s.heap.objs.size = some { cls := .type "tuple", data := .seq #[u, u2] } := (sb.2 _ (Nat.ne_of_gt hzl)).trans hT
    have new : ObjOk X.prog X.w (upd H s.heap.objs.size (.tup [x, y])) h'' s.heap.objs.size (.tup [x, y]) :=
      ⟨by show 2 ≤ sizeLine; decide, [u, u2], .cons ru (.cons ru2 .nil), ⟨_, hT2, rfl, _, rfl⟩⟩
    have I1 : Inv X pins σ (upd H s.heap.objs.size (.tup [x, y])) { s with heap := h'', toks := tk } :=
      I.turnedNew (t' := tk) (ch := [z, TI, TO, i1, i2]) (fun c o hb q => (sb.2 c (fun q' => hb (by simp [q']))).trans (hk c o (fun q' => hb (by simp [q'])) (fun q' => hb (by simp [q'])) (fun q' => hb (by simp [q'])) (fun q' => hb (by simp [q'])) q)) hf (Nat.le_refl _) new
    refine ⟨.ref s.heap.objs.size, _, I1, rfl, ⟨_, x, y, rfl, I.hok.fresh (Nat.le_refl _), rfl, fun l hl => by rw [sqx_inj I hl hqx]; exact hx, fun l hl => by rw [sqx_inj I hl hqy]; exact hy⟩, ⟨z'', ?_, ⟨u, u2, ?_⟩, ?_, ?_⟩, fun c hcm => ?_⟩
    · exact (sb.2 _ S.TIz).trans (hk _ _ S.TIz S.TITO S.TIi1 S.TIi2 hTI)
    · exact (sb.2 _ S.TOz).trans TO'
    · exact itx_at h1'.1 fun o q => (sb.2 _ (Ne.symm S.zi1)).trans q
    · exact itx_at h2'.1 fun o q => (sb.2 _ (Ne.symm S.zi2)).trans q
    · have hlt : c < s.heap.objs.size := by
        have e' : c = z ∨ c = TI ∨ c = TO ∨ c = i1 ∨ c = i2 := by simpa using hcm
        rcases e' with q | q | q | q | q
        · rw [q]; exact hzl
        · rw [q]; exact Heap.lt_size hTI
        · rw [q]; exact Heap.lt_size hTO
        · rw [q]; obtain ⟨_, e1, _⟩ := itx_obj h1; exact Heap.lt_size e1
        · rw [q]; obtain ⟨_, e2, _⟩ := itx_obj h2; exact Heap.lt_size e2
      rw [upd_ne (Nat.ne_of_lt hlt)]
      exact (hf c hcm).1
  done := by
    intro X hP hw hK hc i pins s σ H E I hf st hg
    subst hP hw hK
    obtain ⟨hz, hTI, ⟨x0, y0, hTO⟩, h1, h2⟩ := st
    obtain ⟨xs, ys, hqx, hqy, g1, g2, hend⟩ := hg
    obtain ⟨its, rv, p⟩ := sqx_is I hqx
    obtain ⟨its2, rv2, p2⟩ := sqx_is I hqy
    have l1 := rv.length
    have l2 := rv2.length
    refine wpAny_pyNext_zipD2_end D.s (drX (A := X.A.in1) (I.ok.hd hc) k1 i1 a D.n1 its.toArray) (drX (A := X.A.in1) (I.ok.hd hc) k2 i2 b D.n2 its2.toArray) hz hTI hTO ⟨h1, p⟩ ⟨h2, p2⟩ (by simp; omega) (by simp; omega) (by simp; omega) fun h' tk hk => ⟨rfl, I.turnedL (t' := tk) (ch := [z, TI, TO, i1, i2]) (fun c o hb q =>
      hk c o (fun q' => hb (by simp [q'])) (fun q' => hb (by simp [q'])) (fun q' => hb (by simp [q'])) (fun q' => hb (by simp [q'])) q) hf⟩
  self := fun A i s Q E st h => wpAny_pyIter_zip st.1 h
def iZipM (K : PySem.W.Frag) (ta : TA) : TI := fun σ H R => ta σ H fun vs H1 => ∃ a b xs ys k1 k2, vs = [.ref a, .ref b] ∧ SqX K H1 k1 a xs ∧ SqX K H1 k2 b ys ∧ R (ItzM K k1 k2 a b) H1
theorem isx_lt {h : Heap} {k : Bool} {a : Addr} {items : Array Value} (x : IsX h k a items) : a < h.objs.size := by
  cases k with
  | true => obtain ⟨o, e, _⟩ := x; exact Heap.lt_size e
  | false => obtain ⟨o, e, _⟩ := x; exact Heap.lt_size e
theorem pi_zipM {X : Cx} {e e2 : Expr} {ta : TA} {p pos tpos : Pos} {elts : List Expr} {kk : Nat} (hm : X.mg "zip" = none) (ha : PA X [e, e2] ta) (hg : Gl X "zip" := by rfl)
    (hs : starEach [e, e2] X.env = (false, eval e X.env) :: starEach [e2] X.env := by rfl) (hpl : (backTo pos (starEach [e2] X.env)).any (·.1) = false := by rfl) :
    PI X (.Tuple elts kk tpos) (.Call (.Name "zip" p) [e, e2] [] pos) (iZipM X.K ta) := by
  refine ⟨fun pins s σ H R I h => ?_⟩
  refine Call_ (ld_blt I hg hm PyProof.Rows.boot_zip (PyProof.Rows.callWith_type1 (thn (ha.run pos pins s σ H _ I h) fun us s1 ⟨vs, H1, I1, r1, q1⟩ => ?_) hs hpl))
  obtain ⟨a, b, xs, ys, k1, k2, ex, hqx, hqy, q⟩ := q1
  subst ex
  cases r1 with
  | cons r rr =>
    cases rr with
    | cons r' rr =>
      cases rr
      cases r
      cases r'
      obtain ⟨its, rv, p1⟩ := sqx_is I1 hqx
      obtain ⟨its2, rv2, p2⟩ := sqx_is I1 hqy
      obtain ⟨o1, B1, g1⟩ := begX k1 a its.toArray
      obtain ⟨o2, B2, g2⟩ := begX k2 b its2.toArray
      have l1 := isx_lt p1
      have l2 := isx_lt p2
      refine zip_begins2 B1 B2 p1 p2 fun h' hz hTI hTO ho1 ho2 hsz hk => wpAny_pyIter_zip hz ?_
      have I2 : Inv X pins σ H1 { s1 with heap := h' } := I1.kept (t' := s1.toks) hk
      have D : ZpM (s1.heap.objs.size + 4) (s1.heap.objs.size + 2) (s1.heap.objs.size + 3) s1.heap.objs.size (s1.heap.objs.size + 1) a b :=
        ⟨zip_sep2 (fun c hc => by rw [List.mem_singleton.mp hc]; exact l1) (fun c hc => by rw [List.mem_singleton.mp hc]; exact l2), Nat.ne_of_lt l1, Nat.ne_of_lt (Nat.lt_succ_of_lt l2)⟩
      refine ⟨s1.heap.objs.size + 4, [s1.heap.objs.size + 4, s1.heap.objs.size + 2, s1.heap.objs.size + 3, s1.heap.objs.size, s1.heap.objs.size + 1], _, _, H1, rfl, I2, turn_zipM D, ⟨hz, hTI, ⟨_, _, hTO⟩, g1 _ _ ho1, g2 _ _ ho2⟩, fun c hcm => ?_, q⟩
      have e' : c = s1.heap.objs.size + 4 ∨ c = s1.heap.objs.size + 2 ∨ c = s1.heap.objs.size + 3 ∨ c = s1.heap.objs.size ∨ c = s1.heap.objs.size + 1 := by simpa using hcm
      have hle : s1.heap.objs.size ≤ c := by
        rcases e' with z | z | z | z | z
        · rw [z]; exact Nat.le_add_right _ _
        · rw [z]; exact Nat.le_add_right _ _
        · rw [z]; exact Nat.le_add_right _ _
        · rw [z]; exact Nat.le_refl _
        · rw [z]; exact Nat.le_add_right _ _
      exact I1.fpOk hle (I1.hok.fresh hle)
theorem walk_zipM {K : PySem.W.Frag} {k1 k2 : Bool} {a b : Addr} {xs ys : List V} (hl : xs.length = ys.length) : Walk (ItzM K k1 k2 a b) xs.length (fun H => SqX K H k1 a xs ∧ SqX K H k2 b ys) (YPair (fun i => xs[i]?) (fun i => ys[i]?)) := by
  refine ⟨fun i _ hi q => ⟨xs, ys, xs[i], ys[i], q.1, q.2, by simp [hi], by simp [hl ▸ hi]⟩, fun _ q => ⟨xs, ys, q.1, q.2, Nat.le_refl _, by omega, .inl rfl⟩, fun i H v H2 _ q y => ?_⟩
  obtain ⟨T, x, z, h1, h2, h3, h4, h5⟩ := y
  exact ⟨T, x, z, h1, h2, h3, h4 xs q.1, h5 ys q.2⟩
/-- readings that name the written part -/
theorem c_isi {X : Cx} {K : PySem.W.Frag} (h : X.K = K := by rfl) : CallR X (.builtin "isinstance") (rIsi K) := by
  subst h
  exact call_isi
theorem c_lenS {X : Cx} {K : PySem.W.Frag} (h : X.K = K := by rfl) : CallR X (.builtin "len") (fun xs H Q => ∃ p ys, xs = [.ref p] ∧ (SqL K H p ys ∨ SqT K H p ys) ∧ Q (.int ys.length) H) := by
  subst h
  exact call_len_seq
end WC

set_option maxHeartbeats 4000000
namespace WC
open PySem PySem.Spec PyProof.Rows L2
/-! small rules -/
theorem pe_mtr {X : Cx} {C : Addr} {m : Str} {j k : Nat} {sp : Sp} {E : XK} {o e : Expr} {es : List Expr} {ta : TE} {t : TA} {pos apos : Pos} {pl : Sem Bool} (D : MetR X.prog X.w X.K X.mg X.base C m k sp) (ho : PE X o ta) (hr : Room j X.A) (hx : Passes (L2.CX X.prog X.w) X E) (ha : PA X (e :: es) t) (hle : k ≤ j := by decide)
    (hst : starEach (e :: es) X.env = (false, eval e X.env) :: starEach es X.env := by rfl) (hpl : (backTo pos (starEach es X.env)).any (·.1) = false := by rfl)
    (ht : eval (.Call (.Attribute o m apos) (e :: es) [] pos) X.env = (do
      let ov ← eval o X.env
      standAt apos.atName
      let (f, first) ← holding [ov] (getMethod ov m pl)
      callWith pos f first (backTo pos (starEach (e :: es) X.env)) (backToKw pos (keywordEach [] X.env))) := by rfl) : PE X (.Call (.Attribute o m apos) (e :: es) [] pos) (tMeth C m sp [] E ta t) := by
  obtain ⟨f, fd, ps, c, hm, hb, F⟩ := D.ex
  exact pe_meth (pl := pl) ho c hm F (hr.mono hle) hb .nil hx ha hst hpl ht
theorem pe_mtr0 {X : Cx} {C : Addr} {m : Str} {j k : Nat} {sp : Sp} {E : XK} {o : Expr} {ta : TE} {pos apos : Pos} {pl : Sem Bool} (D : MetR X.prog X.w X.K X.mg X.base C m k sp) (ho : PE X o ta) (hr : Room j X.A) (hx : Passes (L2.CX X.prog X.w) X E) (hle : k ≤ j := by decide)
    (ht : eval (.Call (.Attribute o m apos) [] [] pos) X.env = (do
      let ov ← eval o X.env
      standAt apos.atName
      let (f, first) ← holding [ov] (getMethod ov m pl)
      callWith pos f first (backTo pos (starEach [] X.env)) (backToKw pos (keywordEach [] X.env))) := by rfl) : PE X (.Call (.Attribute o m apos) [] [] pos) (tMeth C m sp [] E ta tNil) := by
  obtain ⟨f, fd, ps, c, hm, hb, F⟩ := D.ex
  exact pe_meth0 (pl := pl) ho c hm F (hr.mono hle) hb .nil hx ht
/-- C(*e) -/
def tMake1 (K : PySem.W.Frag) (C : Addr) (sp : Sp) (E : XK) (te : TE) : TE := fun σ H Q => te σ H fun y H1 => ∃ a xs, y = V.ref a ∧ (SqT K H1 a xs ∨ SqL K H1 a xs) ∧ ∀ x dx, H1 x = none → H1 dx = none → dx ≠ x →
  sp (V.ref x :: xs) (upd (upd H1 dx (.own x)) x (.ins C dx [])) (fun v H2 => v = .non ∧ Q (.ref x) H2) E
theorem pe_ccs1 {X : Cx} {j k : Nat} {C : Addr} {sp : Sp} {E : XK} {x : Str} {e : Expr} {te : TE} {p sp_ pos : Pos} (D : ClsR X.prog X.w X.K X.mg X.base C k sp) (hm : X.mg x = some (.ref C)) (hr : Room j X.A) (hx : Passes (L2.CX X.prog X.w) X E) (he : PE X e te) (hle : k + 1 ≤ j := by decide) (hg : Gl X x := by rfl) (hdb : (x == ("__debug__" : Str)) = false := by decide)
    (hst : starEach [.Starred e sp_] X.env = [(true, eval e X.env)] := by rfl) : PE X (.Call (.Name x p) [.Starred e sp_] [] pos) (tMake1 X.K C sp E te) := by
  obtain ⟨f, M, F⟩ := D.ex
  refine ⟨fun pins s σ H Q I h => ?_⟩
  refine wpAny_Call_Name_kw (ld_glob I hg hm ?_ hdb)
  refine PySem.W.callWith_S (h₀ := X.base) I.ok.mod.kin M.kp (thn (he.run pins s σ H _ I h) fun v s1 ⟨y, H1, I1, ry, a, xs, ey, hxs, q⟩ => ?_) hst
  subst ey
  obtain rfl : v = Value.ref a := ry
  exact StX.star_any I1 hxs fun us s2 I2 rv => ⟨I2.kIn, StX.run_makeR M F (hr.mono hle) hx I2 rv q⟩
theorem pe_cvalK {X : Cx} {K : PySem.W.Frag} {e : Expr} {ta : TE} {f : Str} {pos : Pos} (he : PE X e ta) (hb : attributeBase e f X.env (eval e X.env) = eval e X.env := by rfl) (h : X.K = K := by rfl) : PE X (.Attribute e f pos) (ClX.tCVal K ta f) := by
  subst h
  exact ClX.pe_cval he hb
theorem pi_revK {X : Cx} {K : PySem.W.Frag} {tg e : Expr} {te : TE} {p pos : Pos} (hm : X.mg "reversed" = none) (he : PE X e te) (hg : Gl X "reversed" := by rfl) (hs : starEach [e] X.env = (false, eval e X.env) :: starEach [] X.env := by rfl) (h : X.K = K := by rfl) : PI X tg (.Call (.Name "reversed" p) [e] [] pos) (RT.iRevA K te) := by
  subst h
  exact RT.pi_revA hg hm he hs
theorem i_seq {X : Cx} {K : PySem.W.Frag} (h : X.K = K := by rfl) : IxR X (rIx K) := by
  subst h
  exact ix_seq
theorem walk_revT {K : PySem.W.Frag} {a : Addr} {xs : List V} : Walk (RT.ItvT K a xs.length) xs.length (fun H => SqT K H a xs) (fun i H x H' => H' = H ∧ xs[xs.length - 1 - i]? = some x) := by
  refine ⟨fun i _ hi q => ⟨hi, xs, xs[xs.length - 1 - i]'(by omega), q, by rw [List.getElem?_eq_getElem]⟩, fun _ q => Nat.le_refl _, fun i H v H2 _ q y => ⟨y.1, y.2 xs q⟩⟩
/-- an own error leaves: its dict is new, all else stands -/
def ErrX (E : XK) (C : Addr) (H : Hp) (fs : List (Str × V)) : Prop := ∀ H2 d, Same H H2 → H d = none → H2 d = some (.xd fs) → E (.ref C) (some d) H2
theorem ErrX.on {E : XK} {C : Addr} {H H1 : Hp} {fs : List (Str × V)} (h : ErrX E C H fs) (s : Same H H1) : ErrX E C H1 fs := fun H2 d s2 hd e => h H2 d (s.trans s2) (s.free hd) e
theorem ErrX.new {E : XK} {C : Addr} {H : Hp} {fs : List (Str × V)} (h : ErrX E C H fs) : ∀ d, H d = none → E (.ref C) (some d) (upd H d (.xd fs)) := fun d hd => h _ d (Same.new hd) hd upd_same
theorem fld4_none {m : Str} {a b c d : V} (h1 : m ≠ "stages") (h2 : m ≠ "channels") (h3 : m ≠ "_incoming") (h4 : m ≠ "_outgoing") : List.lookup m [(("stages" : Str), a), (("channels" : Str), b), (("_incoming" : Str), c), (("_outgoing" : Str), d)] = none := by
  simp only [List.lookup_cons, beq_eq_false_iff_ne.mpr h1, beq_eq_false_iff_ne.mpr h2, beq_eq_false_iff_ne.mpr h3, beq_eq_false_iff_ne.mpr h4, List.lookup_nil]
theorem bt_bool : bootBuiltins "bool" = some (.type "bool") := by decide +kernel
theorem bt_reversed : bootBuiltins "reversed" = some (.type "reversed") := by decide +kernel
end WC

set_option maxHeartbeats 4000000
namespace WC
open PySem PySem.Spec PyProof.Rows L2
/-! an own exception without fields: X(), and isinstance of it -/
structure ExcN (K : PySem.W.Frag) (mg : Str → Option Value) (x : Str) (C : Addr) : Prop where
  ex : ∃ B newId initId bmB, ExcBaseFacts B newId initId bmB ∧ PySem.W.excIn K C bmB newId = true
  gC : mg x = some (.ref C)
  kC : PySem.W.keepIn K (.ref C) = true
  sub : PySem.W.subIn K (.ref C) (.type "BaseException") = some true
  ty : PySem.W.typeIn K (.ref C) = some (.type "type")
def ErrN (E : XK) (C : Addr) (H : Hp) : Prop := ∀ H2, Same H H2 → E (.ref C) none H2
theorem ErrN.on {E : XK} {C : Addr} {H H1 : Hp} (h : ErrN E C H) (s : Same H H1) : ErrN E C H1 := fun H2 s2 => h H2 (s.trans s2)
section
variable {X : Cx} {x : Str} {C : Addr} {p pos : Pos}
theorem pmk_n (T : ExcN X.K X.mg x C) (hg : Gl X x := by rfl) (hdb : (x == ("__debug__" : Str)) = false := by decide) : PMk X (.Call (.Name x p) [] [] pos) (fun _ H Q => Q (.ref C) none H) := by
  obtain ⟨B, newId, initId, bmB, F, q⟩ := T.ex
  intro pins s σ H Q I h
  refine wpAny_Call_Name_kw (ld_glob I hg T.gC ?_ hdb)
  refine PySem.W.callWith_K0 I.kIn T.kC ?_
  show wpAny _ _ (call (.ref C) []) _ _ _
  obtain ⟨bm, N, nm, qn, bs, hdct, sn, sub, ab, col, dd, k0, k1, k2, k3, k5, mN, hC, hN, hni, Z⟩ := exc_obj I.kIn q
  refine wpAny_call_exc_subT F Z hC hN hni (fun h' e hm => ?_) (Nat.zero_le _)
  exact mk_of I hm (raises_own T.sub T.ty) h (I.hok.gone hm.new)
end
def rIsN (K : PySem.W.Frag) (D a : Addr) (cls : Value) (d : Option Addr) : List V → Hp → VK → Prop := fun xs H Q => ∃ (c : V) (cv : Value) (b : Bool), xs = [.ref a, c] ∧ ClsV c cv ∧ PySem.W.kitOne K (.ref D) cv = some b ∧ cls = .ref D ∧ d = none ∧ Q (.bl b) H
def rIsNT (K : PySem.W.Frag) (D a : Addr) (cls : Value) (d : Option Addr) : List V → Hp → VK → Prop := fun xs H Q => ∃ (tp : Addr) (cs : List V) (cvs : List Value) (b : Bool), xs = [.ref a, .ref tp] ∧ H tp = some (.tup cs) ∧ Paired ClsV cs cvs ∧ PySem.W.kitAny K (.ref D) cvs = some b ∧ cls = .ref D ∧ d = none ∧ Q (.bl b) H
section
variable {X : Cx} {a D : Addr} {oe : Obj} {cls : Value} {d : Option Addr} {pn : List (Addr × Obj)}
theorem inst_n {pins : List (Addr × Obj)} {σ : L2.St} {H : Hp} {s : Shared} (hz : Zc cls d oe) (hf : ∃ vs, oe.data = .fields vs) (I : Inv (X.suite a ((a, oe) :: pn)) pins σ H s) (ec : cls = .ref D) (ed : d = none) : PySem.W.InstAt s.heap a oe D none := by
  subst ec ed
  obtain ⟨hget, _⟩ := I.pin (a, oe) (List.mem_append_left _ List.mem_cons_self)
  obtain ⟨vs, hv⟩ := hf
  obtain ⟨oc, od, oda, osl⟩ := oe
  obtain ⟨h1, h2⟩ := hz
  dsimp only at h1 h2 hv
  subst h1 h2 hv
  exact ⟨hget, rfl, rfl, trivial⟩
theorem call_isN (C : ExcC X.K D) (hz : Zc cls d oe) (hf : ∃ vs, oe.data = .fields vs) : CallR (X.suite a ((a, oe) :: pn)) (.builtin "isinstance") (rIsN X.K D a cls d) := by
  intro pins s σ H xs us Q I r h
  obtain ⟨c, cv, b, rfl, hcv, e, ec, ed, q⟩ := h
  obtain ⟨u1, u2, rfl, r1, r2⟩ := vals2 r
  have e2 := hcv.eq r2
  subst e2
  obtain rfl : u1 = Value.ref a := r1
  exact PySem.W.kia_one (PySem.W.kitx_exc (exc_is C) C.hg C.hk C.hs C.ha C.hn C.ht C.hm) I.kIn (inst_n hz hf I ec ed) e (fun z => nomatch z) fun tk => ⟨.bl b, H, I.kept (t' := tk) fun _ _ z => z, rfl, q⟩
theorem call_isNT (C : ExcC X.K D) (hz : Zc cls d oe) (hf : ∃ vs, oe.data = .fields vs) : CallR (X.suite a ((a, oe) :: pn)) (.builtin "isinstance") (rIsNT X.K D a cls d) := by
  intro pins s σ H xs us Q I r h
  obtain ⟨tp, cs, cvs, b, rfl, hT, k, e, ec, ed, q⟩ := h
  obtain ⟨u1, u2, rfl, r1, r2⟩ := vals2 r
  obtain rfl : u1 = Value.ref a := r1
  cases (show u2 = Value.ref tp from r2)
  obtain ⟨_, its, rv, o, h1, h2, n, h3⟩ := (show ObjOk X.prog X.w H s.heap tp (.tup cs) from I.hok tp _ hT)
  have e3 := ClsV.all k rv
  subst e3
  obtain ⟨oc, od2, dt, sl⟩ := o
  simp only at h2 h3
  subst h2 h3
  exact PySem.W.kia_tup (PySem.W.kitx_exc (exc_is C) C.hg C.hk C.hs C.ha C.hn C.ht C.hm) I.kIn (inst_n hz hf I ec ed) h1 e (fun z => nomatch z) fun tk => ⟨.bl b, H, I.kept (t' := tk) fun _ _ z => z, rfl, q⟩
end
/-- a tuple of texts at the top -/
structure TupG (K : PySem.W.Frag) (mg : Str → Option Value) (x : Str) (xs : List V) : Prop where
  ex : ∃ a, mg x = some (.ref a) ∧ ∀ H : Hp, SqT K H a xs
end WC

set_option maxHeartbeats 4000000
namespace WC
open PySem PySem.Spec PyProof.Rows L2 L2H HotX
/-! lists gone over, and comprehensions, while an exception is handled -/
section
variable {prog : Program} {w : World} {A : Around} {E : Value → Shared → Prop} {s : Shared}
/-- a list iterator's end there: its StopIteration gets the handled one as its context -/
theorem list_out_hot {it l x1 : Addr} {i : Nat} {items : Array Value} {Q : Option Value → Shared → Prop} (hot : HotAt A x1 s.heap) (hi : s.heap.IsListIter it l i) (hl : s.heap.IsList l items) (ho : items[i]? = none)
    (q : ∀ g : Heap, (∀ b o, b ≠ it → s.heap.get? b = some o → g.get? b = some o) → Q none { s with heap := g }) : wpAny (model prog w) A (pyNext (.ref it)) Q E s := by
  obtain ⟨hh, oH, vH, gH, dH, cH⟩ := hot
  obtain ⟨oi, gi_, ci, di⟩ := id hi
  obtain ⟨ol, gl, _, nl, dl⟩ := hl
  have x1it : x1 ≠ it := fun z => by
    rw [z, gi_] at gH
    cases gH
    rw [di] at dH
    cases dH
    cases cH
  unfold pyNext
  refine wpAny_bind (wpAny_attempt (wpAny_callSpecial?_slot (name := Str.ofString "__next__") hi.typeIs slot_listiter_next (wpAny_call_entry slot_listiter_next hi.typeIs entry_listiter_next ?_ (args_listiter_next _))))
  show wpAny _ _ (field (.ref it) 0 >>= _) _ _ _
  refine wpAny_bind (wpAny_field gi_ di (x := .ref l) rfl ?_)
  show wpAny _ _ (if (Value.ref l == Value.none) = true then _ else _) _ _ _
  rw [if_neg (by simp : ¬ (Value.ref l == Value.none) = true)]
  show wpAny _ _ (field (.ref it) 1 >>= _) _ _ _
  refine wpAny_bind (wpAny_field gi_ di (x := .int i 0) rfl ?_)
  show wpAny _ _ (seqItems? (.ref l) >>= _) _ _ _
  refine wpAny_bind (wpAny_seqItems gl dl ?_)
  simp only [Int.toNat_natCast, ho]
  refine wpAny_bind (wpAny_rule (wpAny_bind (wpAny_setField gi_ di (by simp) ?_)))
  show wpAny _ _ (newExc (.type "StopIteration") [] >>= _) _ _ _
  simp only [newExc, newTuple]
  refine wpAny_bind (wpAny_bind (wpAny_newObj_type ?_ (by size_fits)))
  refine wpAny_bind (m := firstArgMember _ _) (wpAny_of_eq (a := Value.none) (by first | rfl | (simp only [firstArgMember]; rfl)) ?_)
  refine wpAny_newObj_type ?_ (by size_fits)
  have st : ∀ {b : Addr} {o : Obj} {f : Obj → Obj} {u1 u2 : Obj}, b ≠ it → s.heap.get? b = some o → (((s.heap.update it f).push u1).push u2).get? b = some o := fun {b o f u1 u2} n e => Heap.get?_push_of_some _ (Heap.get?_push_of_some _ (by rw [Heap.get?_update_other _ _ (Ne.symm n)]; exact e))
  refine raiseNew_hot ⟨hh, oH, vH, st x1it gH, dH, cH⟩ (Nat.ne_of_lt (Heap.lt_size (Heap.get?_push_of_some _ (by rw [Heap.get?_update_other _ _ (Ne.symm x1it)]; exact gH)))) (Heap.get?_push_size _ rfl) rfl (by first | (simp; done) | (simp; omega)) ?_
  refine wpAny_bind (wpAny_isInstance (T := "StopIteration") (b := true) ⟨_, Heap.get?_update_self _ (Heap.get?_push_size _ rfl) rfl, rfl⟩ isSubtype_stop ?_)
  refine wpAny_pure (q _ fun b o n e => ?_)
  rw [Heap.get?_update_other _ _ (Nat.ne_of_gt (Heap.lt_size (Heap.get?_push_of_some _ (by rw [Heap.get?_update_other _ _ (Ne.symm n)]; exact e))))]
  exact st n e
end
theorem turn_listH {P : Program} {w : World} {K : PySem.W.Frag} {tg : Expr} (a it : Addr) : TurnH P w K tg (Itl K a) [it] it (fun i h => h.IsListIter it a i) where
  mem := (turn_list (P := P) (w := w) (K := K) (tg := tg) a it).mem
  obj := (turn_list (P := P) (w := w) (K := K) (tg := tg) a it).obj
  keep := (turn_list (P := P) (w := w) (K := K) (tg := tg) a it).keep
  item := by
    rintro X rfl rfl rfl hc i pins s σ H E I hf st ⟨xs, x, hq, hx⟩
    obtain ⟨its, rv, p, _⟩ := I.list hq
    obtain ⟨u, hu, ru⟩ := rv.get hx
    obtain ⟨f0, f1, f2, f3, f4, f5⟩ := hf it (List.mem_singleton.mpr rfl)
    refine wpAny_pyNext_list_item st p.isList (x := u) (by simpa using hu) fun g sg sb => ?_
    have J : Inv X pins σ H { s with heap := g } := I.turned (t' := s.toks) (fun b o nb eb => (sb.2 b nb).trans eb) f0 f1 f3 f4 f5
    obtain ⟨o, e, c, d⟩ := id sg
    exact ⟨u, rfl, go_of (s := { s with heap := g }) e c d (by decide) ⟨x, H, J, ru, ⟨rfl, fun ys hy => by rw [I.list_inj hy hq]; exact hx⟩, sg, fun b hb => (hf b hb).1⟩⟩
  done := by
    rintro X rfl rfl rfl hc i pins s σ H E I hf st ⟨xs, hq, hx⟩
    obtain ⟨its, rv, p, _⟩ := I.list hq
    obtain ⟨f0, f1, f2, f3, f4, f5⟩ := hf it (List.mem_singleton.mpr rfl)
    have hl := rv.length
    obtain ⟨x1, hot⟩ := hc.at I
    exact list_out_hot hot st p.isList (by simp; omega) fun g eg => ⟨rfl, I.turned (t' := s.toks) (fun b o nb eb => eg b o nb eb) f0 f1 f3 f4 f5⟩
  self := (turn_list (P := P) (w := w) (K := K) (tg := tg) a it).self
theorem pi_listH {X : Cx} {tg l : Expr} {tl : TE} (hl : PE X l tl) : PIH X tg l (iList X.K tl) := by
  refine ⟨fun pins s σ H R I h => thn (hl.run pins s σ H _ I h) fun v s1 ⟨x, H1, I1, r1, a, ex, ⟨xs, hq⟩, q⟩ => ?_⟩
  subst ex
  cases r1
  obtain ⟨its, rv, p, _⟩ := I1.list hq
  refine wpAny_pyIter_list p.isList ⟨s1.heap.objs.size, [s1.heap.objs.size], _, _, H1, rfl, I1.kept (t' := s1.toks) fun b o e => Heap.get?_push_of_some _ e, turn_listH a _, ⟨_, Heap.get?_push_size _ rfl, rfl, rfl⟩, fun b hb => ?_, q⟩
  rw [List.mem_singleton.mp hb]
  exact I1.fpOk (Nat.le_refl _) (I1.hok.fresh (Nat.le_refl _))
end WC

set_option maxHeartbeats 4000000
namespace WC
open PySem PySem.Spec PyProof.Rows L2 L2H HotX
/-- a comprehension while an exception is handled: its block keeps the handled one among the pins -/
theorem pe_lcH {X : Cx} {elt tg iter : Expr} {ifs : List Expr} {scope : Scope} {own : List (Str × Nat)} {pos : Pos} {wi : TI} {g : TG} {tt : TT} {te : TE} (hc : HotC X) (hN : X.N.Nodup) (hi : PIH X tg iter wi) (ok : BlkOk X.N X.env.scope scope own)
    (hg : ∀ (s0 : Shared) (G : Hp) (C : Addr) (cl : List (Str × Addr)) (ip : List Addr), PG (X.blk s0 G scope (compEnvC scope cl C X.env) ip) tg g) (ht : ∀ (s0 : Shared) (G : Hp) (C : Addr) (cl : List (Str × Addr)) (ip : List Addr), PTs (X.blk s0 G scope (compEnvC scope cl C X.env) ip) ifs tt)
    (he : ∀ (s0 : Shared) (G : Hp) (C : Addr) (cl : List (Str × Addr)) (ip : List Addr), PE (X.blk s0 G scope (compEnvC scope cl C X.env) ip) elt te) (hs : ∀ x, foldedSetIterable iter X.env x = pure x := by intro _; rfl) :
    PE X (.ListComp elt [⟨tg, iter, ifs, 0⟩] scope pos) (tLc wi g tt te (own.map (·.2))) := by
  refine ⟨fun pins s σ H Q I h => ?_⟩
  rw [eval_ListComp]
  obtain ⟨p, hot, hp⟩ := hc
  have fr : ∀ y ∈ scope.names, y.2 = .free → ∃ c, X.env.cells.lookup y.1 = some c := fun y hy e => (ok.free y hy e).elim (fun k => I.ok.has _ (.inl k)) (fun k => I.ok.has _ (.inr k))
  refine wpAny_comprehension_free (use := none) rfl hs (closure_ok fr) ok.kind (fun y hy e => by rw [ok.uniq y hy, e]) (thn (hi.run pins s σ H _ I h) fun _ sA hx => thn hx fun _ sB hB => ?_)
  obtain ⟨it, ip, tn, J, HB, rfl, IB, T, tB, fB, q⟩ := hB
  refine wpAny_newObj_type (newEnv_comp ?_) (Nat.zero_le _)
  obtain ⟨D, eD⟩ : ∃ D, D = sB.heap.objs.size := ⟨_, rfl⟩
  rw [← eD]
  obtain ⟨W, ⟨m0, w0⟩, turn⟩ := q D (IB.hok.fresh (Nat.le_of_eq eD.symm))
  obtain ⟨sC, eC⟩ : ∃ sC : Shared, sC = { sB with heap := sB.heap.push { cls := .type "list", data := .seq ([] : List Value).toArray } } := ⟨_, rfl⟩
  have pC : sC.heap = sB.heap.push { cls := .type "list", data := .seq ([] : List Value).toArray } := by rw [eC]
  have IC : Inv X pins σ (upd HB D (.lst [])) sC := by
    rw [eC]
    exact IB.laid (t' := sB.toks) (fun b o e => Heap.get?_push_of_some _ e) (Nat.le_of_eq eD.symm) ⟨Nat.zero_le _, [], 0, .nil, by rw [eD]; exact Heap.get?_push_size _ rfl⟩
  have low : ∀ b ∈ ip, b < D := fun b hb => by
    obtain ⟨o, e, _⟩ := T.obj _ _ tB b hb
    rw [eD]
    exact Heap.lt_size e
  have fC : ∀ b ∈ ip, FpOk X pins (upd HB D (.lst [])) b ∧ b < sC.heap.objs.size := fun b hb => by
    refine ⟨⟨by rw [upd_ne (Nat.ne_of_lt (low b hb))]; exact (fB b hb).1, (fB b hb).2⟩, ?_⟩
    rw [pC, Heap.size_push, ← eD]
    exact Nat.lt_succ_of_lt (low b hb)
  have tC : tn 0 sC.heap := T.keep _ _ _ tB fun b _ o e => by rw [pC]; exact Heap.get?_push_of_some _ e
  have ID := block_start IC ok hN fC
  have kg := hg sC (upd HB D (.lst [])) sC.heap.objs.size (cellsFrom (sC.heap.objs.size + 1) scope.names (cloFrom X.env.cells scope.names [])) ip
  have kt := ht sC (upd HB D (.lst [])) sC.heap.objs.size (cellsFrom (sC.heap.objs.size + 1) scope.names (cloFrom X.env.cells scope.names [])) ip
  have ke := he sC (upd HB D (.lst [])) sC.heap.objs.size (cellsFrom (sC.heap.objs.size + 1) scope.names (cloFrom X.env.cells scope.names [])) ip
  -- the handled exception's object
  have hpC := IC.pin p (List.mem_append_left _ hp)
  have pFs : p.1 ∉ frs X.stack := fun hm => (List.mem_cons.mp (IC.stkSub p.1 hm)).elim hpC.2.2.1 hpC.2.2.2.1
  have pIp : ∀ b ∈ ip, p.1 ≠ b := fun b hb => (fC b hb).1.2.2.2.2.2 p (List.mem_append_left _ hp)
  rw [← eC]
  show codeAny _ _ (.compStart (.ListComp elt [⟨tg, iter, ifs, 0⟩] scope pos) 0 (.ref it) (.ref D) (compEnvC scope (cellsFrom (sC.heap.objs.size + 1) scope.names (cloFrom X.env.cells scope.names [])) sC.heap.objs.size X.env)) (compPost (model X.prog X.w) X.A X.xe none (EP X pins σ Q) (.ref D) sC.heap.objs.size) { sC with heap := pushCells (sC.heap.push { cls := .type "dict", data := .dict #[] }) scope.names }
  obtain ⟨ce, ece⟩ : ∃ ce, ce = compEnvC scope (cellsFrom (sC.heap.objs.size + 1) scope.names (cloFrom X.env.cells scope.names [])) sC.heap.objs.size X.env := ⟨_, rfl⟩
  have ceL : ce.locals = sC.heap.objs.size := by rw [ece]; rfl
  obtain ⟨HC, eHC⟩ : ∃ HC, HC = upd HB D (.lst []) := ⟨_, rfl⟩
  obtain ⟨sD, eSD⟩ : ∃ sD : Shared, sD = { sC with heap := pushCells (sC.heap.push { cls := .type "dict", data := .dict #[] }) scope.names } := ⟨_, rfl⟩
  rw [← ece, ← eHC] at kg kt ke
  rw [← ece, ← eHC, ← eSD] at ID
  rw [← eHC] at IC fC w0 hpC
  rw [← ece, ← eSD]
  have kp : ∀ {b : Addr} {o : Obj}, sC.heap.get? b = some o → sD.heap.get? b = some o := fun {b o} e => by rw [eSD]; exact pushCells_keeps _ _ _ _ (Heap.get?_push_of_some _ e)
  have tD : tn 0 sD.heap := T.keep _ _ _ tC fun b _ o e => kp e
  -- the block with the handled exception among its own pins
  obtain ⟨Y, eY⟩ : ∃ Y : Cx, Y = { X.blk sC HC scope ce ip with pn := [p] } := ⟨_, rfl⟩
  have toY : ∀ {ps : List (Addr × Obj)} {τ : L2.St} {G : Hp} {s' : Shared}, Inv (X.blk sC HC scope ce ip) (p :: ps) τ G s' → Inv Y ps τ G s' := fun {ps τ G s'} Z => by
    rw [eY]
    exact ⟨⟨Z.ok.mod, Z.ok.kind, Z.ok.glob, Z.ok.blt, Z.ok.above, Z.ok.inj, Z.ok.has, Z.ok.cab, Z.ok.hd, Z.ok.frames, Z.ok.stk, Z.ok.exf, Z.ok.bs, Z.ok.bsz, Z.ok.noex, Z.ok.exfs, Z.ok.funs, Z.ok.frf⟩, Z.os, Z.bare, Z.base, Z.loc, Z.cell, Z.free, Z.freeC, Z.pin, Z.hok, Z.len⟩
  have ofY : ∀ {ps : List (Addr × Obj)} {τ : L2.St} {G : Hp} {s' : Shared}, Inv Y ps τ G s' → Inv (X.blk sC HC scope ce ip) (p :: ps) τ G s' := fun {ps τ G s'} Z => by
    rw [eY] at Z
    exact ⟨⟨Z.ok.mod, Z.ok.kind, Z.ok.glob, Z.ok.blt, Z.ok.above, Z.ok.inj, Z.ok.has, Z.ok.cab, Z.ok.hd, Z.ok.frames, Z.ok.stk, Z.ok.exf, Z.ok.bs, Z.ok.bsz, Z.ok.noex, Z.ok.exfs, Z.ok.funs, Z.ok.frf⟩, Z.os, Z.bare, Z.base, Z.loc, Z.cell, Z.free, Z.freeC, Z.pin, Z.hok, Z.len⟩
  have hotY : HotC Y := by
    rw [eY]
    exact ⟨p, hot, List.mem_singleton.mpr rfl⟩
  have I0 : Inv (X.blk sC HC scope ce ip) [p] (wipe σ (own.map (·.2))) HC sD := ⟨ID.ok, ID.os, ID.bare, ID.base, ID.loc, ID.cell, ID.free, ID.freeC, fun z hz => by
    have ez : z = p := by
      rcases List.mem_append.mp hz with m | m
      · cases m
      · exact List.mem_singleton.mp m
    subst ez
    refine ⟨kp hpC.1, hpC.2.1, ?_, pFs, hpC.2.2.2.2⟩
    show z.1 ≠ ce.locals
    rw [ceL]
    exact Nat.ne_of_lt (Heap.lt_size hpC.1), ID.hok, ID.len⟩
  have okF : ∀ {τ : L2.St} {G : Hp} {s' : Shared}, Inv (X.blk sC HC scope ce ip) [p] τ G s' → (∀ b ∈ ip, G b = none) → ∀ b ∈ ip, FpOk Y [] G b := fun {τ G s'} Z zn b hb => by
    rw [eY]
    exact ⟨zn b hb, (Z.ok.exf b hb).1, Z.ok.exfs b hb, .inl hb, fun x c e => (Z.ok.exf b hb).2 x c e, fun z hz => by
      rcases List.mem_append.mp hz with m | m
      · rw [List.mem_singleton.mp m]; exact pIp b hb
      · cases m⟩
  have TY : TurnH Y.prog Y.w Y.K tg J ip it tn := by
    rw [eY]
    exact T
  have YA : Y.A = X.A := by rw [eY]
  have Ym : Y.prog = X.prog ∧ Y.w = X.w ∧ Y.K = X.K := by rw [eY]; exact ⟨rfl, rfl, rfl⟩
  have loop : codeAny (model X.prog X.w) X.A (.compLoop (.ListComp elt [⟨tg, iter, ifs, 0⟩] scope pos) 0 (.ref it) (.ref D) ce) (compPost (model X.prog X.w) X.A X.xe none (EP X pins σ Q) (.ref D) sC.heap.objs.size) sD := by
    refine compLoop_any (fun m s' => ∃ i G, Inv (X.blk sC HC scope ce ip) [p] (wipe σ (own.map (·.2))) G s' ∧ tn i s'.heap ∧ (∀ b ∈ ip, G b = none) ∧ W i m G) ?_ m0 ⟨0, HC, I0, tD, fun b hb => (fC b hb).1.1, w0⟩
    rintro m s5 ⟨i, G5, I5, t5, n5, w5⟩
    rcases turn i m G5 w5 with ⟨stop, qq⟩ | ⟨go, Nx, hNx, step⟩
    · have td := T.done Y Ym.1 Ym.2.1 Ym.2.2 hotY i [] s5 _ G5 (fun _ _ => False) (toY I5) (okF I5 n5) t5 stop
      rw [YA] at td
      refine thnF td fun r s6 ⟨er, J6⟩ => ?_
      subst er
      have I6 := ofY J6
      have I7 : Inv X pins σ G5 s6 := IC.call' (ch := ip) I6.os I6.base I6.hok I6.bare fun b hb => ⟨(fC b hb).1.2.2.2.1, (fC b hb).1.2.1, (fC b hb).1.2.2.2.2.1, (fC b hb).1.2.2.2.2.2⟩
      have nC : G5 sC.heap.objs.size = none := by
        rw [← ceL]
        exact I6.free
      obtain ⟨mm, hn, _⟩ := I6.loc
      have hn : s6.heap.Ns sC.heap.objs.size mm := by rw [← ceL]; exact hn
      obtain ⟨f0, f1, f2, f3, f4, f5⟩ := IC.fpOk (Nat.le_refl _) nC
      exact ⟨mm, hn, fun h'' sb => ⟨.ref D, G5, I7.turned (t' := s6.toks) (fun b o hb e => (sb.2 b hb).trans e) f0 f1 f3 f4 f5, rfl, qq⟩⟩
    · have tv := T.item Y Ym.1 Ym.2.1 Ym.2.2 hotY i [] s5 _ G5 (fun _ _ => False) (toY I5) (okF I5 n5) t5 go
      rw [YA] at tv
      refine thnF tv fun r s6 ⟨u, er, h6⟩ => ?_
      subst er
      refine thnF h6 fun _ s7 ⟨x, G7, J7, r7, y7, t7, n7⟩ => ?_
      have I7 := ofY ((J7).pinned (okF (ofY J7) n7) (T.obj _ _ t7))
      refine thnF (kg.run _ s7 _ G7 x u _ I7 r7 (step x G7 y7)) fun _ s8 ⟨τ8, G8, I8, hw8, q8⟩ => ?_
      refine thnF (kt.run _ s8 τ8 G8 _ I8 q8) fun b s9 ⟨G9, I9, q9⟩ => ?_
      have close : ∀ {s' : Shared} {G' : Hp}, Inv (X.blk sC HC scope ce ip) (p :: ([] ++ pinsAt ip s7.heap)) τ8 G' s' → Nx G' → ∃ m', m' < m ∧ ∃ i G, Inv (X.blk sC HC scope ce ip) [p] (wipe σ (own.map (·.2))) G s' ∧ tn i s'.heap ∧ (∀ b ∈ ip, G b = none) ∧ W i m' G := fun {s' G'} Z nx => by
        obtain ⟨m', lt, w'⟩ := hNx G' nx
        have at_ : ∀ b ∈ ip, ∀ o, s7.heap.get? b = some o → s'.heap.get? b = some o ∧ G' b = none := fun b hb o e =>
          ⟨(Z.pin (b, o) (List.mem_append_right _ (List.mem_cons_of_mem _ (List.mem_append_right _ (mem_pinsAt hb e))))).1, (Z.pin (b, o) (List.mem_append_right _ (List.mem_cons_of_mem _ (List.mem_append_right _ (mem_pinsAt hb e))))).2.1⟩
        have Z1 : Inv (X.blk sC HC scope ce ip) ([p] ++ pinsAt ip s7.heap) τ8 G' s' := Z
        refine ⟨m', lt, i + 1, G', (Z1.unpinned (pins := [p])).weak (by rw [← hw8, wipe_length]) (fun j v e => ?_), T.keep _ _ _ t7 fun b hb o e => (at_ b hb o e).1, fun b hb => ?_, w'⟩
        · rw [← hw8] at e
          exact (wipe_some e).1
        · obtain ⟨o, e, _⟩ := T.obj _ _ t7 b hb
          exact (at_ b hb o e).2
      cases b with
      | false => exact close I9 q9
      | true =>
        simp only [if_true] at q9 ⊢
        refine thnF (ke.run _ s9 τ8 G9 _ I9 q9) fun z sX ⟨yv, GX, IX, rX, acc, dX, lX, nx⟩ => ?_
        exact app_ok (X := X.blk sC HC scope ce ip) IX dX lX rX fun sY IY => close IY nx
  exact codeAny_compStart_list loop (T.self X.A 0 _ _ _ tD loop)
end WC

set_option maxHeartbeats 4000000
namespace WC
open PySem PySem.Spec PyProof.Rows L2 L2H HotX
/-! errors that are known to have no context (L2N), and defs called while one of them is handled -/
theorem okN {P : Program} {w : World} {K : PySem.W.Frag} {mg : Str → Option Value} {base : Heap} {x qual : Str} {st : Stmt} {f : Addr} {fd : FuncData} {N ps : List Str} {k : Nat} {sp : Sp} (F : Fun K x qual st f fd) (S : FnScope N ps (defScope st)) (len : ∀ vs H Q E, sp vs H Q E → vs.length = ps.length)
    (body : ∀ (cdv : Value) (A : Around) (outer : List Env) (s : Shared) (H : Hp) (vs : List V) (Q : VK) (E : XK), Room k (A.deeper (envOfC qual (defScope st) s.heap.objs.size f cdv)) → sp vs H Q E →
      ∃ t, PSs (cxOf (L2N.CX P w) P w K mg base N qual (defScope st) f cdv A outer s H E) (defBody st) t ∧ t { nx := fun _ H' => Q .non H', rt := Q } (start N vs) H) : FnOk P w K mg base (L2N.CX P w) (k + 1) f fd ps sp := by
  obtain ⟨oc, od, kV, doc, pm, an, cdv, ct, osl, rfl, lk, hcd⟩ := F.ex
  exact fn_of lk hcd S len fun A outer s H vs Q E hr hsp => body cdv A outer s H vs Q E hr hsp
theorem okH {P : Program} {w : World} {K : PySem.W.Frag} {mg : Str → Option Value} {base : Heap} {x qual : Str} {st : Stmt} {f : Addr} {fd : FuncData} {N ps : List Str} {k : Nat} {sp : Sp} (F : Fun K x qual st f fd) (S : FnScope N ps (defScope st)) (len : ∀ vs H Q E, sp vs H Q E → vs.length = ps.length)
    (body : ∀ (cdv : Value) (A : Around) (outer : List Env) (s : Shared) (H : Hp) (vs : List V) (Q : VK) (E : XK) (p : Addr × Obj), RoomH k (A.deeper (envOfC qual (defScope st) s.heap.objs.size f cdv)) → HotC (cxH (L2.CX P w) P w K mg base N qual (defScope st) f cdv A outer s H E p) → sp vs H Q E →
      ∃ t, PSs (cxH (L2.CX P w) P w K mg base N qual (defScope st) f cdv A outer s H E p) (defBody st) t ∧ t { nx := fun _ H' => Q .non H', rt := Q } (start N vs) H) : FnH P w K mg base (L2.CX P w) (k + 1) f fd ps sp := by
  obtain ⟨oc, od, kV, doc, pm, an, cdv, ct, osl, rfl, lk, hcd⟩ := F.ex
  exact fn_ofH lk hcd S len fun A outer s H vs Q E p hot hr hsp => body cdv A outer s H vs Q E p hr ⟨p, hot, List.mem_singleton.mpr rfl⟩ hsp
/-- a def of the module that lets out errors without context -/
structure DefN (P : Program) (w : World) (K : PySem.W.Frag) (mg : Str → Option Value) (base : Heap) (x : Str) (k : Nat) (sp : Sp) : Prop where
  ex : ∃ f, mg x = some (.ref f) ∧ PySem.W.keepIn K (.ref f) = true ∧ FnR P w K mg base (L2N.CX P w) k f sp
/-- a def of the module as it runs while an error is handled -/
structure DefH (P : Program) (w : World) (K : PySem.W.Frag) (mg : Str → Option Value) (base : Heap) (x : Str) (k : Nat) (sp : Sp) : Prop where
  ex : ∃ f fd ps, mg x = some (.ref f) ∧ PySem.W.keepIn K (.ref f) = true ∧ Binds K fd ps [] ∧ FnH P w K mg base (L2.CX P w) k f fd ps sp
section
variable {X : Cx} {j k n : Nat} {sp : Sp} {W : WX} {C : Addr} {x : Str} {e : Expr} {es : List Expr} {t ta : TA} {p pos : Pos} {fl : List V → List (Str × V)}
theorem pe_cdN (D : DefN X.prog X.w X.K X.mg X.base x k sp) (hr : Room j X.A) (tk : L2N.Takes X W) (ha : PA X (e :: es) t) (hle : k ≤ j := by decide) (hg : Gl X x := by rfl) (hdb : (x == ("__debug__" : Str)) = false := by decide)
    (he : starEach (e :: es) X.env = (false, eval e X.env) :: starEach es X.env := by rfl) (hpl : (backTo pos (starEach es X.env)).any (·.1) = false := by rfl) : PE X (.Call (.Name x p) (e :: es) [] pos) (fun σ H Q => t σ H fun vs H1 => sp vs H1 Q (WE W σ)) := by
  obtain ⟨f, hm, hk, F⟩ := D.ex
  refine ⟨fun pins s σ H Q I h => wpAny_Call_Name_kw (ld_glob I hg hm ?_ hdb)⟩
  refine PySem.W.callWith_K (h₀ := X.base) I.ok.mod.kin hk (thn (ha.run pos pins s σ H _ I h) fun us s1 ⟨vs, H1, I1, r, q⟩ => ⟨I1.kIn, wpAny_call ?_⟩) he hpl
  refine codeAny_mono (F X.A X.stack s1 H1 us vs Q (WE W σ) (hr.mono hle) I1.env0 r q) fun rr s' hq => ?_
  match rr, hq with
  | .error er, hq => exact tk er s' (L2N.XE.of_call I1 (fun _ _ _ z => z) hq)
  | .ok (.ret u), hq => exact I1.after hq
  | .ok .next, hq => exact False.elim hq
  | .ok .brk, hq => exact False.elim hq
  | .ok .cont, hq => exact False.elim hq
theorem pe_cdH (D : DefH X.prog X.w X.K X.mg X.base x k sp) (hr : RoomH j X.A) (hc : HotC X) (ha : PA X (e :: es) t) (hle : k ≤ j := by decide) (hg : Gl X x := by rfl) (hdb : (x == ("__debug__" : Str)) = false := by decide)
    (he : starEach (e :: es) X.env = (false, eval e X.env) :: starEach es X.env := by rfl) (hpl : (backTo pos (starEach es X.env)).any (·.1) = false := by rfl) : PE X (.Call (.Name x p) (e :: es) [] pos) (tCallS sp (fun _ => E0) t) := by
  obtain ⟨f, fd, ps, hm, hk, hb, F⟩ := D.ex
  exact pe_callH F (hr.mono hle) hc hg hm hk hb (fun σ pins H s er s' I c => passL pins σ H s er s' I c) ha hdb he hpl
/-- an own exception with fields, raised where none is handled: it has no context -/
theorem pmk_xN (T : ExcR X.prog X.w X.K X.mg X.base x C k n fl) (hr : Room j X.A) (ha : PA X (e :: es) ta) (hle : k + 1 ≤ j := by decide) (hg : Gl X x := by rfl) (hdb : (x == ("__debug__" : Str)) = false := by decide)
    (he : starEach (e :: es) X.env = (false, eval e X.env) :: starEach es X.env := by rfl) (hpl : (backTo pos (starEach es X.env)).any (·.1) = false := by rfl) : L2N.PMk X (.Call (.Name x p) (e :: es) [] pos) (tMkO C (spX C n fl) [] ta) := by
  obtain ⟨fI, fd, ps, iC, tI, hb, F1⟩ := T.ini
  have Z := T.txt
  have hr := hr.mono hle
  intro pins s σ H Q I h
  obtain ⟨nm, qn, N, bs, bm, sn, sub, ab, col, dd, k0, k1, k2, k3, k5, hC, hbm⟩ := Z.cls
  refine wpAny_Call_Name_kw (ld_glob I hg T.gC ?_ hdb)
  refine PySem.W.callWith_K (h₀ := X.base) I.ok.mod.kin Z.kC (thn (ha.run pos pins s σ H _ I h) fun us ⟨hp, g, dr, tk, os⟩ ⟨vs, H1, I1, r1, hz, q1⟩ => ⟨I1.kIn, ?_⟩) he hpl
  show wpAny _ _ (call (.ref C) us) _ _ _
  have up : hp.objs.size ≤ hp.objs.size + 1 := Nat.le_succ _
  have hn : H1 (hp.objs.size + 1) = none := I1.hok.fresh up
  have hq := q1 (hp.objs.size + 1) hn
  rw [List.append_nil] at hq
  obtain ⟨g2, eg2⟩ : ∃ g2 : Heap, g2 = (hp.push (PySem.W.kdv_tup us)).push (PySem.HandSPX.excO C hp.objs.size) := ⟨_, rfl⟩
  have kk : ∀ b o, hp.get? b = some o → g2.get? b = some o := fun b o e => by rw [eg2]; exact Heap.get?_push_of_some _ (Heap.get?_push_of_some _ e)
  have at_ : g2.get? (hp.objs.size + 1) = some (PySem.HandSPX.excO C hp.objs.size) := by
    rw [eg2]
    heap_get
  have I2 : Inv X pins σ (upd H1 (hp.objs.size + 1) (exo (hp.objs.size + 1) C none)) ⟨g2, g, dr, tk, os⟩ := I1.laid (t' := tk) (a := hp.objs.size + 1) (o := exo (hp.objs.size + 1) C none) (h' := g2) kk up (exo_ok at_)
  have r2 : Vals (V.ref (hp.objs.size + 1) :: vs) (Value.ref (hp.objs.size + 1) :: us) := .cons rfl r1
  have hl : ((Value.ref (hp.objs.size + 1) :: us) ++ []).length = ps.length := by
    rw [List.append_nil, ← F1.len _ _ _ _ hq]
    exact r2.length.symm
  have hus : us.length ≤ sizeLine := by
    rw [← Paired.length r1, sizeLine_eq]
    omega
  have bnd := hb _ (Value.ref (hp.objs.size + 1) :: us) I2.kIn hl
  rw [List.append_nil] at bnd
  rw [eg2] at I2 bnd
  refine wpAny_call (PySem.HandSPX.call_own F.excBase_ValueError (fun Y => PySem.HandSPX.refsVE_contains Y bm hbm) (I1.kIn _ _ hC) (PySem.W.looks_findIn I1.kIn iC) (fun self => PySem.W.bind_fn I1.kIn self tI) hus
    (codeAny_mono (F1.run _ X.stack _ _ ⟨Value.ref (hp.objs.size + 1) :: us, []⟩ (Value.ref (hp.objs.size + 1) :: us) _ _ (fun _ _ _ => False) (hr.make C us []) (I2.env0.make C us []) bnd r2 hq) fun rr s' hq' => ?_))
  match rr, s', hq' with
  | .error er, s', hq' => exact passL pins σ _ _ er s' I2 hq'
  | .ok (.ret u), ⟨h2, gg, d2, t2, os2⟩, hq' =>
    obtain ⟨v, H2, osE, bare, un, hok, rv, ev, d, fs, ea, ed, hd1, q2⟩ := hq'
    subst ev
    obtain ⟨t0, G, J, kG, ge, hoe, na⟩ := mk_end0 (d2 := d2) (t2 := t2) I1 up (by rw [← eg2]; exact kk) un hok osE bare ea ed hd1
    exact ⟨rv, hp.objs.size + 1, _, _, ⟨G, gg, d2, t2, os2⟩, _, .ref C, some d, rfl, J, kG, ge, hoe, ⟨rfl, rfl, fun ws e => by cases e; rfl⟩, rfl, rfl, na, rfl, bare, raises_own Z.exC Z.tyC, q2⟩
  | .ok .next, s', hq' => exact False.elim hq'
  | .ok .brk, s', hq' => exact False.elim hq'
  | .ok .cont, s', hq' => exact False.elim hq'
end
/-- what never raises may stand in either book -/
theorem off_N {P : Program} {w : World} {K : PySem.W.Frag} {mg : Str → Option Value} {base : Heap} {k : Nat} {f : Addr} {fd : FuncData} {ps : List Str} {sp : Sp} (F : FnOk P w K mg base (L2N.CX P w) k f fd ps sp) (h : ∀ vs H Q E, sp vs H Q E → sp vs H Q E0) : FnOk P w K mg base (L2.CX P w) k f fd ps sp := by
  refine ⟨F.len, fun A outer s H args us vs Q E hr e0 hb r q => codeAny_mono (F.run A outer s H args us vs Q E0 hr e0 hb r (h _ _ _ _ q)) fun rr s' hq => ?_⟩
  match rr, hq with
  | .error er, hq =>
    obtain ⟨_, _, _, _, _, _, _, _, _, _, _, _, z⟩ := hq
    exact z.elim
  | .ok (.ret u), hq => exact hq
  | .ok .next, hq => exact False.elim hq
  | .ok .brk, hq => exact False.elim hq
  | .ok .cont, hq => exact False.elim hq
/-- the handled error of a suite -/
theorem hot_suite {X : Cx} {a : Addr} {oe : Obj} {cls : Value} {d : Option Addr} {pn : List (Addr × Obj)} (hz : L2N.Zn cls d oe) (hf : ∃ vs, oe.data = .fields vs) : HotC (X.suite a ((a, oe) :: pn)) := by
  obtain ⟨vs, e⟩ := hf
  exact ⟨(a, oe), ⟨rfl, vs, e, hz.2.2 vs e⟩, List.mem_cons_self⟩
end WC

set_option maxHeartbeats 4000000
namespace WC
open PySem PySem.Spec PyProof.Rows L2 L2H HotX
/-! a tuple unpacked while an error is handled -/
section
variable {prog : Program} {w : World} {A : Around} {E : Value → Shared → Prop} {s : Shared}
theorem tup_out_hot {it t x1 : Addr} {i : Nat} {items : Array Value} {Q : Option Value → Shared → Prop} (hot : HotAt A x1 s.heap) (hi : IsTupIter s.heap it t i) (ht : IsTup s.heap t items) (ho : items[i]? = none)
    (q : ∀ g : Heap, (∀ b o, b ≠ it → s.heap.get? b = some o → g.get? b = some o) → Q none { s with heap := g }) : wpAny (model prog w) A (pyNext (.ref it)) Q E s := by
  obtain ⟨hh, oH, vH, gH, dH, cH⟩ := hot
  obtain ⟨oi, gi_, ci, di⟩ := id hi
  obtain ⟨ol, gl, _, nl, dl⟩ := ht
  have x1it : x1 ≠ it := fun z => by
    rw [z, gi_] at gH
    cases gH
    rw [di] at dH
    cases dH
    cases cH
  unfold pyNext
  refine wpAny_bind (wpAny_attempt (wpAny_callSpecial?_slot (name := Str.ofString "__next__") hi.typeIs slot_tupleiter_next (wpAny_call_entry slot_tupleiter_next hi.typeIs entry_tupleiter_next ?_ (args_tupleiter_next _))))
  show wpAny _ _ (field (.ref it) 0 >>= _) _ _ _
  refine wpAny_bind (wpAny_field gi_ di (x := .ref t) rfl ?_)
  show wpAny _ _ (if (Value.ref t == Value.none) = true then _ else _) _ _ _
  rw [if_neg (by simp : ¬ (Value.ref t == Value.none) = true)]
  show wpAny _ _ (field (.ref it) 1 >>= _) _ _ _
  refine wpAny_bind (wpAny_field gi_ di (x := .int i 0) rfl ?_)
  show wpAny _ _ (seqItems? (.ref t) >>= _) _ _ _
  refine wpAny_bind (wpAny_seqItems gl dl ?_)
  simp only [Int.toNat_natCast, ho]
  refine wpAny_bind (wpAny_rule (wpAny_bind (wpAny_setField gi_ di (by simp) ?_)))
  show wpAny _ _ (newExc (.type "StopIteration") [] >>= _) _ _ _
  simp only [newExc, newTuple]
  refine wpAny_bind (wpAny_bind (wpAny_newObj_type ?_ (by size_fits)))
  refine wpAny_bind (m := firstArgMember _ _) (wpAny_of_eq (a := Value.none) (by first | rfl | (simp only [firstArgMember]; rfl)) ?_)
  refine wpAny_newObj_type ?_ (by size_fits)
  have st : ∀ {b : Addr} {o : Obj} {f : Obj → Obj} {u1 u2 : Obj}, b ≠ it → s.heap.get? b = some o → (((s.heap.update it f).push u1).push u2).get? b = some o := fun {b o f u1 u2} n e => Heap.get?_push_of_some _ (Heap.get?_push_of_some _ (by rw [Heap.get?_update_other _ _ (Ne.symm n)]; exact e))
  refine raiseNew_hot ⟨hh, oH, vH, st x1it gH, dH, cH⟩ (Nat.ne_of_lt (Heap.lt_size (Heap.get?_push_of_some _ (by rw [Heap.get?_update_other _ _ (Ne.symm x1it)]; exact gH)))) (Heap.get?_push_size _ rfl) rfl (by first | (simp; done) | (simp; omega)) ?_
  refine wpAny_bind (wpAny_isInstance (T := "StopIteration") (b := true) ⟨_, Heap.get?_update_self _ (Heap.get?_push_size _ rfl) rfl, rfl⟩ isSubtype_stop ?_)
  refine wpAny_pure (q _ fun b o n e => ?_)
  rw [Heap.get?_update_other _ _ (Nat.ne_of_gt (Heap.lt_size (Heap.get?_push_of_some _ (by rw [Heap.get?_update_other _ _ (Ne.symm n)]; exact e))))]
  exact st n e
theorem unpack_hot {t x1 : Addr} {items : Array Value} {targets : List (Bool × (Value → Sem Unit))} {Q : Unit → Shared → Prop} (hot : HotAt A x1 s.heap) (ht : IsTup s.heap t items) (hn : targets.length = items.size) (hs : targets.findIdx? (·.1) = none)
    (h : ∀ g : Heap, (∀ b o, s.heap.get? b = some o → g.get? b = some o) → wpAny (model prog w) A (assignInOrder (targets.map (·.2)) items.toList) Q E { s with heap := g }) : wpAny (model prog w) A (unpack (.ref t) targets) Q E s := by
  have low : t ≠ s.heap.objs.size := by
    obtain ⟨o, e, _⟩ := ht
    exact Nat.ne_of_lt (Heap.lt_size e)
  unfold unpack
  rw [hn, hs]
  refine wpAny_bind (wpAny_holding ?_)
  unfold unpackItems notIterableAtAll
  refine wpAny_bind (wpAny_bind (wpAny_specialOf ht.typeIs slot_tuple_iter.lookup (wpAny_pure ?_)))
  simp only [Bool.false_eq_true, if_false]
  refine wpAny_bind (wpAny_holding (iter_tuple ht (wpAny_bind (wpAny_holding (draw_tuple low items.size 0 _ _ ⟨_, Heap.get?_push_size _ rfl, rfl, rfl⟩ (ht.push _) (by omega) fun g1 i1 b1 => ?_)))))
  rw [List.drop_zero, List.take_of_length_le (by simp), if_neg (by simp)]
  have keep1 : ∀ b o, s.heap.get? b = some o → g1.get? b = some o := fun b o e => b1.extBut b o (Nat.ne_of_lt (Heap.lt_size e)) (Heap.get?_push_of_some _ e)
  obtain ⟨hh, oH, vH, gH, dH, cH⟩ := hot
  refine wpAny_bind (wpAny_holding (tup_out_hot (x1 := x1) ⟨hh, oH, vH, keep1 _ _ gH, dH, cH⟩ i1 ((ht.push _).extBut b1.extBut low) (by simp) fun g2 e2 => ?_))
  simp only [Option.isSome_none, Bool.false_eq_true, if_false]
  exact wpAny_pure (h g2 fun b o e => e2 b o (Nat.ne_of_lt (Heap.lt_size e)) (keep1 b o e))
end
theorem pg_tupH {X : Cx} {es : List Expr} {k n : Nat} {t : TGs} {pos : Pos} (hc : HotC X) (h : PGs X es t) (hn : (assignEach es X.env).length = n := by rfl) (hs : (assignEach es X.env).findIdx? (·.1) = none := by rfl) : PG X (.Tuple es k pos) (gTup X.K n t) := by
  refine ⟨fun pins s σ H v u Q I r ⟨a, xs, e1, hq, hl, hw⟩ => ?_⟩
  subst e1
  cases r
  obtain ⟨its, rv, ht, _⟩ := I.tuple hq
  obtain ⟨x1, hot⟩ := hc.at I
  rw [assign_Tuple]
  refine wpAny_bind (wpAny_standAt (unpack_hot hot ht (by simp [hn, ← hl, rv.length]) hs fun g kg => ?_))
  exact h.run pins _ σ H xs _ Q (I.kept (t' := s.toks) fun b o e => kg b o e) (by simpa using rv) hw
end WC

set_option maxHeartbeats 4000000
namespace WC
open PySem PySem.Spec PyProof.Rows L2
/-! return e + super().m(); == by an own __eq__; a method kept raw -/
def tSup0 (C : Addr) (i : Nat) (sp : Sp) (E : XK) : TE := fun σ H Q => ∃ x dx fs, σ[i]? = some (some (.ref x)) ∧ H x = some (.ins C dx fs) ∧ sp [.ref x] H Q E
section
variable {X : Cx} {CX : CXT} {k i : Nat} {C D g : Addr} {sp : Sp} {E : XK} {e : Expr} {es : List Expr} {m slf : Str} {p0 p1 p2 p3 p4 p5 : Pos} {ta : TA} {te : TE} {body : List Stmt} {pl : Sem Bool}
theorem at_sup0 {pins : List (Addr × Obj)} {s : Shared} {σ : L2.St} {H : Hp} {Q : VK} (T : SupTxt X.prog X.K X.mg D C g m) (Z : SelfTxt X.prog X.K X.env D slf) (F : FnR X.prog X.w X.K X.mg X.base CX k g sp) (hr : Room k X.A) (hx : Passes CX X E) (hN : X.N[i]? = some slf) 
    (he : eval (.Call (.Attribute (.Call (.Name "super" p0) [] [] p1) m p2) [] [] p3) X.env = (do
      let ov ← attributeBase (.Call (.Name "super" p0) [] [] p1) m X.env (eval (.Call (.Name "super" p0) [] [] p1) X.env)
      standAt p2.atName
      let (f, first) ← holding [ov] (getMethod ov m pl)
      callWith p3 f first (backTo p3 (starEach [] X.env)) [])) 
    (I : Inv X pins σ H s) (h : tSup0 C i sp E σ H Q) : PySem.wpAt (model X.prog X.w) X.A (.func body X.env) (eval (.Call (.Attribute (.Call (.Name "super" p0) [] [] p1) m p2) [] [] p3) X.env) (EP X pins σ Q) X.xe s := by
  obtain ⟨x, dx, fs, hs, hH, ht⟩ := h
  obtain ⟨f, of1, of2, fd, of3, ar, ef, kf, hd, har⟩ := Z.fn
  obtain ⟨c, oc1, oc2, vs, oc3, file, tf, ec, kc, hvs, hfile⟩ := Z.cod
  obtain ⟨cc, k1, k2, k3, lcc, kcc⟩ := Z.lc
  obtain ⟨cdD, hD⟩ := T.dCls
  have K1 := I.kIn
  obtain ⟨oD, hD1, hD2⟩ : ∃ oD, s.heap.get? D = some oD ∧ oD.data = .cls cdD := by
    unfold PySem.W.clsIn at hD
    split at hD
    · rename_i a b cd' d ho
      cases hD
      exact ⟨_, K1 _ _ ho, rfl⟩
    · cases hD
  obtain ⟨_, O, _, _, _⟩ := ins_get I.hok hH
  have hob := O.1
  refine ks_wpAt_MethodCall ?_ he
  refine ks_wpAt_super_base Z.kS Z.kC T.nat ef (K1 _ _ kf) rfl hd ec (K1 _ _ kc) rfl hvs hfile T.top ?_
  obtain ⟨mb, hb1, hb2⟩ := I.mod.blt
  refine PySem.W.ks_loadName_global I.ok.kind Z.kS (Calls.loadGlobal_builtin (by rw [I.ok.glob]; exact I.mod.glob.keeps I.bk) T.sup (by rw [I.ok.blt]; exact hb1.keeps I.bk) ((hb2 _ (by decide)).trans (show bootBuiltins "super" = some (.type "super") by decide +kernel)) ⟨rfl, ?_⟩)
  refine wpAny_loadName_free I.ok.kind Z.kC lcc ⟨_, K1 _ _ kcc, rfl⟩ ?_
  obtain ⟨mL, hn, hl⟩ := id I.loc
  obtain ⟨u, ru, lu⟩ := hl i slf _ hN hs (.inl Z.kL)
  obtain rfl : u = Value.ref x := ru
  have hm : mL slf = some (.ref x) := by
    rcases lu with ⟨_, q⟩ | ⟨q, _⟩
    · exact q
    · rw [Z.kL] at q
      rcases q with q | q <;> cases q
  rw [har]
  refine wpAny_loadName_local I.ok.kind Z.kL hn hm ?_
  refine ks_wpAny_isType_cls hD1 hD2 ⟨rfl, ?_⟩
  refine ks_wpAny_call_super hD1 hD2 hob rfl (fun c e => by cases e) (PySem.W.looks_mroIn K1 T.sub) fun h1 e1 k1 => ?_
  have I1 : Inv X pins σ H { s with heap := h1, toks := s.toks } := I.kept (t' := s.toks) k1
  have K2 := I1.kIn
  have K2 : X.K.In h1 := K2
  cases hC : PySem.W.clsIn X.K C with
  | none =>
    have z := T.met
    unfold PySem.W.ks_superIn at z
    rw [hC] at z
    cases z
  | some cd =>
    have z := T.met
    unfold PySem.W.ks_superIn at z
    rw [hC] at z
    obtain ⟨og, hog, hogc⟩ : ∃ og, h1.get? g = some og ∧ og.cls = .type "function" := by
      have y : (X.K.lookup g).map (·.cls) = some (.type "function") := T.typ
      cases q : X.K.lookup g with
      | none => rw [q] at y; cases y
      | some og =>
        rw [q] at y
        exact ⟨og, K2 _ _ q, Option.some.inj y⟩
    have hxC : x ≠ C := by
      rintro rfl
      unfold PySem.W.clsIn at hC
      split at hC
      · rename_i a b cd' d ho
        have e := K1 _ _ ho
        rw [hob] at e
        cases e
      · cases hC
    refine ks_wpAny_getMethod_super e1 (PySem.W.looks_opaque K2 T.opq) (l₀ := cd.mro) (fun A Q E s k q => wpAny_bind ((PySem.W.looks_clsIn K2 hC) A _ E s k (wpAny_pure q))) rfl K2 z hog hogc hxC T.nat ?_
    have I2 := ClX.met_new (C := x) (g := g) I1
    exact PySem.W.callWith_M0 (K := X.K) (first := []) ⟨ClX.pin_at I2, I2.kIn⟩ T.fni (ClX.run_cm F hr hx I2 .nil ht)
/-- return e + super().m() -/
theorem px_retSup {op : Operator} {r : R2} (T : SupTxt X.prog X.K X.mg D C g m) (Z : SelfTxt X.prog X.K X.env D slf) (F : FnR X.prog X.w X.K X.mg X.base CX k g sp) (hr : Room k X.A) (hx : Passes CX X E) (hN : X.N[i]? = some slf) (he1 : PE X e te) (ho : OpR X (binaryOp op) r)
    (he : eval (.Call (.Attribute (.Call (.Name "super" p0) [] [] p1) m p2) [] [] p3) X.env = (do
      let ov ← attributeBase (.Call (.Name "super" p0) [] [] p1) m X.env (eval (.Call (.Name "super" p0) [] [] p1) X.env)
      standAt p2.atName
      let (f, first) ← holding [ov] (getMethod ov m pl)
      callWith p3 f first (backTo p3 (starEach [] X.env)) []) := by rfl) :
    PX X (.func body X.env) [.Return (some (.BinOp e op (.Call (.Attribute (.Call (.Name "super" p0) [] [] p1) m p2) [] [] p3) p4)) p5] (fun D0 σ H => te σ H fun x H1 => tSup0 C i sp E σ H1 fun y H2 => r x y H2 D0.rt) := by
  refine ⟨fun pins s σ H D0 I h => ks_wpAt_execs_cons (ks_wpAt_Return_some (ks_wpAt_BinOp2 (wpAt_of_wpAny (thn (he1.run pins s σ H _ I h) fun u s1 ⟨x, H1, I1, r1, q1⟩ => ?_))))⟩
  refine PySem.wpAt_mono (at_sup0 T Z F hr hx hN he I1 q1) (fun v s2 ⟨y, H2, I2, r2, q2⟩ => ?_) fun _ _ z => z
  refine thn (ho pins s2 σ H2 x y u v _ I2 r1 r2 q2) fun z s3 ⟨z1, H3, I3, r3, q3⟩ => ?_
  exact ⟨z1, σ, H3, I3, r3, q3⟩
end
end WC

set_option maxHeartbeats 4000000
namespace WC
open PySem PySem.Spec PyProof.Rows L2
/-- the classes CS have their == from the def at f -/
structure EqF (K : PySem.W.Frag) (CS : List Addr) (f : Addr) : Prop where
  at_ : ∀ C ∈ CS, PySem.W.findIn K (.ref C) "__eq__" = some (some (.ref f))
  fn : PySem.W.isFn K (.ref f) = true
  nf : ∀ C ∈ CS, ∀ D ∈ CS, PySem.W.notFirst K C (.ref D) = true
def rOwn (CS : List Addr) (sp : Sp) : R2 := fun x y H Q => ∃ (a b C D dx dy : Addr) (fs gs : List (Str × V)), C ∈ CS ∧ D ∈ CS ∧ x = .ref a ∧ y = .ref b ∧ H a = some (.ins C dx fs) ∧ H b = some (.ins D dy gs) ∧ sp [.ref a, .ref b] H (fun v H' => ∃ c, v = .bl c ∧ Q (.bl c) H') E0
theorem op_own {X : Cx} {n : Nat} {CS : List Addr} {f : Addr} {fd : FuncData} {ps : List Str} {sp : Sp} (T : EqF X.K CS f) (F : FnOk X.prog X.w X.K X.mg X.base (L2.CX X.prog X.w) n f fd ps sp) (hb : Binds X.K fd ps []) (hr : Room n X.A) : OpR X (compareOp .Eq) (rOwn CS sp) := by
  intro pins s σ H x y u v Q I rx ry ⟨a, b, C, D, dx, dy, fs, gs, hC, hD, ex, ey, ha, hb', q⟩
  subst ex ey
  cases rx
  cases ry
  show wpAny (model X.prog X.w) X.A (richCompare .Eq (.ref a) (.ref b)) (EP X pins σ Q) X.xe s
  obtain ⟨_, Ja, _⟩ := ins_get I.hok ha
  obtain ⟨_, Jb, _⟩ := ins_get I.hok hb'
  obtain ⟨oa, Ja, _⟩ := Ja.look
  obtain ⟨ob, Jb, _⟩ := Jb.look
  obtain ⟨m, fr⟩ := I.fr
  refine PySem.W.cmp_K (op := .Eq) (tb := .ref D) hr.units0 fr I.ok.mod.kin Ja Jb.type (T.nf C hC D hD) (T.at_ C hC) T.fn ?_
  have z := run_fn (ds := []) (dvs := []) (us := [.ref a, .ref b]) (vs := [.ref a, .ref b]) (E := E0) F hr hb .nil passL I (.cons rfl (.cons rfl .nil)) q
  refine wpAny_mono z (fun r s' ⟨w1, H1, I1, r1, c, ec, qc⟩ => ?_) fun _ _ e => e
  subst ec
  cases r1
  exact ⟨.bl c, H1, I1, rfl, qc⟩
/-- a method that is known raw (it may take *args) -/
structure MetV (P : Program) (w : World) (K : PySem.W.Frag) (mg : Str → Option Value) (base : Heap) (C : Addr) (m : Str) (k : Nat) (sp : Sp) : Prop where
  ex : ∃ f, Cls K C ∧ Meth K C m f ∧ FnR P w K mg base (L2.CX P w) k f sp
section
variable {X : Cx} {C : Addr} {m : Str} {j k : Nat} {sp : Sp} {E : XK} {W : WX} {o e : Expr} {es : List Expr} {ta : TE} {t : TA} {pos apos : Pos} {pl : Sem Bool}
theorem pe_mtv (D : MetV X.prog X.w X.K X.mg X.base C m k sp) (ho : PE X o ta) (hr : Room j X.A) (hx : Passes (L2.CX X.prog X.w) X E) (ha : PA X (e :: es) t) (hle : k ≤ j := by decide)
    (hst : starEach (e :: es) X.env = (false, eval e X.env) :: starEach es X.env := by rfl) (hpl : (backTo pos (starEach es X.env)).any (·.1) = false := by rfl)
    (ht : eval (.Call (.Attribute o m apos) (e :: es) [] pos) X.env = (do
      let ov ← eval o X.env
      standAt apos.atName
      let (f, first) ← holding [ov] (getMethod ov m pl)
      callWith pos f first (backTo pos (starEach (e :: es) X.env)) (backToKw pos (keywordEach [] X.env))) := by rfl) : PE X (.Call (.Attribute o m apos) (e :: es) [] pos) (tMeth C m sp [] E ta t) := by
  obtain ⟨f, c, hm, F⟩ := D.ex
  refine ⟨fun pins s σ H Q I h => ?_⟩
  refine PySem.W.methodCall_KW (pl := pl) (thn (ho.run pins s σ H _ I h) fun u s1 ⟨x, H1, I1, rx, a, dx, fs, ex, ea, l, q⟩ => ?_) ht
  subst ex
  obtain rfl : u = Value.ref a := rx
  refine getmeth_ok I1 ea c hm l ?_
  refine PySem.W.callWith_K (first := [.ref a]) (h₀ := X.base) I.ok.mod.kin hm.kp (thn (ha.run pos pins s1 σ H1 _ I1 q) fun us s2 ⟨vs, H2, I2, r, q2⟩ => ⟨I2.kIn, ?_⟩) hst hpl
  have q2 : sp (.ref a :: (vs ++ [])) H2 Q E := q2
  rw [List.append_nil] at q2
  exact wpAny_call (run_fnR (us := .ref a :: us) (vs := .ref a :: vs) F (hr.mono hle) hx I2 (.cons rfl r) q2)
end
end WC

set_option maxHeartbeats 4000000
namespace WC
open PySem PySem.Spec PyProof.Rows L2
/-! enumerate(zip(x, y)): zip's pair is held by the pair that enumerate hands out -/
abbrev ZipF (h : Heap) (z TI TO : Addr) (f : Value) (b : Bool) : Prop := h.get? z = some { cls := .type "zip", dict := none, data := .fields #[f, .bool b, .bool false, .ref TI, .ref TO], slots := #[] }
def OwnV (f : Value) : Prop := f = .none ∨ ∃ a : Addr, f = rawInt a
section
variable {prog : Program} {w : World} {A : Around} {E : Value → Shared → Prop} {s : Shared}
theorem wp_alive {a : Addr} {Q : Option Obj → Shared → Prop} (h : Q (s.heap.get? a) s) : wpAny (model prog w) A (loadIfAlive a) Q E s := fun Γ p hΓ => by
  unfold loadIfAlive
  rw [Sem.wp_loadIfAlive]
  exact (wpAny_pure (M := model prog w) (A := A) (E := E) h) Γ p hΓ
theorem own_free {z TI TO : Addr} {f : Value} {b : Bool} {Q : Bool → Shared → Prop} (hz : ZipF s.heap z TI TO f b) (hf : OwnV f) (h1 : Q true s) (h2 : ∀ h', ZipF h' z TI TO f true → Heap.SameBut z s.heap h' → Q false { s with heap := h' }) :
    wpAny (model prog w) A (Builtin.SmallTypes.ownedTupleIsFree (.ref z)) Q E s := by
  unfold Builtin.SmallTypes.ownedTupleIsFree
  refine wpAny_bind (wpAny_field hz rfl (x := f) rfl ?_)
  rcases hf with rfl | ⟨a, rfl⟩
  · exact wpAny_pure h1
  · show wpAny _ _ (loadIfAlive a >>= _) _ _ s
    refine wpAny_bind (wp_alive ?_)
    cases e : s.heap.get? a with
    | none => exact wpAny_pure h1
    | some o =>
      show wpAny _ _ (field (.ref z) 1 >>= _) _ _ s
      refine wpAny_bind (wpAny_field hz rfl (x := .bool b) rfl ?_)
      cases b with
      | true => exact wpAny_pure (h2 s.heap hz (Heap.SameBut.refl ..))
      | false =>
        show wpAny _ _ (setField (.ref z) 1 (.bool true) >>= _) _ _ s
        refine wpAny_bind (wpAny_setField_rec hz (by simp) fun g0 z0 s0 => wpAny_pure (h2 g0 z0 s0))
variable {z TI TO i1 i2 : Addr} {fp1 fp2 : List Addr} {n1 n2 i : Nat} {P1 P2 : Nat → Value → Prop} {St1 St2 : Nat → Heap → Prop} {a1 a2 : Value}
/-- zip's next pair, whatever became of the last one -/
theorem zipS_item {f : Value} {b : Bool} {Q : Value → Shared → Prop} (S : ZipSep2 z TI TO i1 i2 fp1 fp2) (D1 : Draws prog w A i1 fp1 n1 P1 St1) (D2 : Draws prog w A i2 fp2 n2 P2 St2)
    (gz : ZipF s.heap z TI TO f b) (of : OwnV f) (gI : IsTupOf2 s.heap TI (.ref i1) (.ref i2)) (gO : IsTupOf2 s.heap TO a1 a2) (q1 : St1 i s.heap) (q2 : St2 i s.heap) (l1 : i < n1) (l2 : i < n2)
    (k : ∀ x1 x2 h' tk f' b' c1 c2, P1 i x1 → P2 i x2 → ZipF h' z TI TO f' b' → OwnV f' → IsTupOf2 h' TO c1 c2 → St1 (i + 1) h' → St2 (i + 1) h' → IsTupOf2 h' s.heap.objs.size x1 x2 → h'.objs.size = s.heap.objs.size + 1 →
      (∀ c o, c ≠ z → c ≠ TO → c ≠ i1 → c ≠ i2 → s.heap.get? c = some o → h'.get? c = some o) → Q (.ref s.heap.objs.size) { s with heap := h', toks := tk }) :
    wpAny (model prog w) A (Builtin.«zip.__next__» ⟨[.ref z], []⟩) (fun fin s' => ∃ v, fin = .done (.ret v) ∧ Q v s') E s := by
  obtain ⟨H0, ga, dr, tk, oo⟩ := s
  show wpAny _ _ (field (.ref z) 2 >>= _) _ _ _
  refine wpAny_bind (wpAny_field gz rfl (x := .bool false) rfl ?_)
  show wpAny _ _ (field (.ref z) 3 >>= _) _ _ _
  refine wpAny_bind (wpAny_field gz rfl (x := .ref TI) rfl ?_)
  refine wpAny_bind (wpAny_seqItems gI rfl ?_)
  show wpAny _ _ (Builtin.SmallTypes.ownedTupleIsFree (.ref z) >>= _) _ _ _
  refine wpAny_bind (own_free gz of ?_ fun H1 z1 s1 => ?_)
  · simp only [if_true]
    refine wpAny_bind (wpAny_rule ?_)
    refine wpAny_bind (wpAny_field gz rfl (x := .ref TO) rfl ?_)
    refine wpAny_bind (wpAny_setField_rec gz (by simp) fun H1 z1 s1 => ?_)
    replace z1 : ZipF H1 z TI TO .ellipsis b := z1
    replace s1 : Heap.SameBut z H0 H1 := s1
    refine wpAny_bind ?_
    simp only [List.zipIdx_cons, List.zipIdx_nil, List.forIn_cons, List.forIn_nil]
    refine wpAny_bind (wpAny_bind (wpAny_onRaise ?_))
    show wpAny _ _ (Builtin.SmallTypes.nextOf (.ref i1) >>= _) _ _ ⟨H1, ga, dr, tk, oo⟩
    refine wpAny_bind (D1.item i _ _ _ l1 (D1.over q1 s1 S.zf1) fun x1 H2 t2 px1 q1' s2 => wpAny_pure ?_)
    replace s2 : Heap.SameBut i1 H1 H2 := s2
    have u1 : IsTupOf2 H2 TO a1 a2 := s2.extBut _ _ S.Ti1 (s1.extBut _ _ S.TOz gO)
    refine wpAny_bind (wpAny_seqItems (s := ⟨H2, ga, dr, t2, oo⟩) u1 rfl ?_)
    refine wpAny_bind (updateSeq_IsTupOf2 (s := ⟨H2, ga, dr, t2, oo⟩) u1 fun H3 u2 s3 => ?_)
    replace u2 : IsTupOf2 H3 TO x1 a2 := u2
    replace s3 : Heap.SameBut TO H2 H3 := s3
    refine wpAny_bind (wpAny_letGo (wpAny_pure ?_))
    refine wpAny_bind (wpAny_bind (wpAny_onRaise ?_))
    show wpAny _ _ (Builtin.SmallTypes.nextOf (.ref i2) >>= _) _ _ ⟨H3, ga, dr, t2, oo⟩
    refine wpAny_bind (D2.item i _ _ _ l2 (D2.over (D2.over (D2.over q2 s1 S.zf2) s2 S.sep1_2) s3 S.Tf2) fun x2 H4 t4 px2 q2' s4 => wpAny_pure ?_)
    replace s4 : Heap.SameBut i2 H3 H4 := s4
    have u3 : IsTupOf2 H4 TO x1 a2 := s4.extBut _ _ S.Ti2 u2
    refine wpAny_bind (wpAny_seqItems (s := ⟨H4, ga, dr, t4, oo⟩) u3 rfl ?_)
    refine wpAny_bind (updateSeq_IsTupOf2 (s := ⟨H4, ga, dr, t4, oo⟩) u3 fun H5 u4 s5 => ?_)
    replace u4 : IsTupOf2 H5 TO x1 x2 := u4
    replace s5 : Heap.SameBut TO H4 H5 := s5
    refine wpAny_bind (wpAny_letGo (wpAny_pure (wpAny_pure ?_)))
    refine wpAny_bind (wpAny_seqItems (s := ⟨H5, ga, dr, t4, oo⟩) u4 rfl ?_)
    refine wpAny_bind (wpAny_newTuple ?_)
    have sz : H5.objs.size = H0.objs.size := by rw [s5.1, s4.1, s3.1, s2.1, s1.1]
    have z5 : ZipF H5 z TI TO .ellipsis b := (s5.extBut _ _ S.TOz.symm (s4.extBut _ _ S.zi2 (s3.extBut _ _ S.TOz.symm (s2.extBut _ _ S.zi1 z1))))
    have k5 : ∀ c o, c ≠ z → c ≠ TO → c ≠ i1 → c ≠ i2 → H0.get? c = some o → H5.get? c = some o := fun c o cz cT ca cb e =>
      (s5.extBut _ _ cT (s4.extBut _ _ cb (s3.extBut _ _ cT (s2.extBut _ _ ca (s1.extBut _ _ cz e)))))
    have r1 : St1 (i + 1) H5 := (D1.over (D1.over (D1.over q1' s3 S.Tf1) s4 S.sep2_1) s5 S.Tf1)
    have r2 : St2 (i + 1) H5 := (D2.over q2' s5 S.Tf2)
    have zl : z < H5.objs.size := Heap.lt_size z5
    show wpAny _ _ (Builtin.SmallTypes.ownedTupleHandOut (.ref z) (.ref H5.objs.size) >>= _) _ _ ⟨H5.push { cls := .type "tuple", data := .seq #[x1, x2] }, ga, dr, t4, oo⟩
    refine wpAny_bind ?_
    unfold Builtin.SmallTypes.ownedTupleHandOut
    have z6 : ZipF (H5.push { cls := .type "tuple", data := .seq #[x1, x2] }) z TI TO .ellipsis b := Heap.get?_push_of_some _ z5
    refine wpAny_bind (wpAny_setField_rec z6 (by simp) fun H7 z7 s7 => ?_)
    replace z7 : ZipF H7 z TI TO (rawInt H5.objs.size) b := z7
    refine wpAny_setField_rec z7 (by simp) fun H8 z8 s8 => ?_
    replace z8 : ZipF H8 z TI TO (rawInt H5.objs.size) false := z8
    replace s7 : Heap.SameBut z (H5.push { cls := .type "tuple", data := .seq #[x1, x2] }) H7 := s7
    replace s8 : Heap.SameBut z H7 H8 := s8
    have up : ∀ c o, c ≠ z → H5.get? c = some o → H8.get? c = some o := fun c o cz e => s8.extBut _ _ cz (s7.extBut _ _ cz (Heap.get?_push_of_some _ e))
    have u8 : IsTupOf2 H8 H5.objs.size x1 x2 := s8.extBut _ _ (Nat.ne_of_gt zl) (s7.extBut _ _ (Nat.ne_of_gt zl) (Heap.get?_push_size _ rfl))
    have sz8 : H8.objs.size = H5.objs.size + 1 := by rw [s8.1, s7.1, Heap.size_push]
    rw [sz] at z8 u8 sz8
    refine wpAny_pure ⟨_, rfl, ?_⟩
    show Q (.ref H5.objs.size) ⟨H8, ga, dr, t4, oo⟩
    rw [sz]
    exact k x1 x2 H8 t4 _ _ _ _ px1 px2 z8 (.inr ⟨_, rfl⟩) (up _ _ S.TOz u4) (D1.frame _ _ _ r1 fun c hc o e => up c o (fun q => S.zf1 (q ▸ hc)) e) (D2.frame _ _ _ r2 fun c hc o e => up c o (fun q => S.zf2 (q ▸ hc)) e) u8 sz8 fun c o cz cT ca cb e => up c o cz (k5 c o cz cT ca cb e)
  · replace s1 : Heap.SameBut z H0 H1 := s1
    simp only [Bool.false_eq_true, if_false, ← Array.forIn_toList, List.forIn_cons, List.forIn_nil]
    refine wpAny_bind ?_
    refine wpAny_bind (wpAny_bind (wpAny_holding ?_))
    show wpAny _ _ (Builtin.SmallTypes.nextOf (.ref i1) >>= _) _ _ ⟨H1, ga, dr, tk, oo⟩
    refine wpAny_bind (D1.item i _ _ _ l1 (D1.over q1 s1 S.zf1) fun x1 H2 t2 px1 q1' s2 => wpAny_pure (wpAny_pure ?_))
    replace s2 : Heap.SameBut i1 H1 H2 := s2
    refine wpAny_bind (wpAny_bind (wpAny_holding ?_))
    show wpAny _ _ (Builtin.SmallTypes.nextOf (.ref i2) >>= _) _ _ ⟨H2, ga, dr, t2, oo⟩
    refine wpAny_bind (D2.item i _ _ _ l2 (D2.over (D2.over q2 s1 S.zf2) s2 S.sep1_2) fun x2 H4 t4 px2 q2' s4 => wpAny_pure (wpAny_pure (wpAny_pure ?_)))
    replace s4 : Heap.SameBut i2 H2 H4 := s4
    refine wpAny_bind (wpAny_newTuple (hsz := by show 2 ≤ sizeLine; decide) ?_)
    have sz : H4.objs.size = H0.objs.size := by rw [s4.1, s2.1, s1.1]
    have z4 : ZipF H4 z TI TO f true := (s4.extBut _ _ S.zi2 (s2.extBut _ _ S.zi1 z1))
    have u4 : IsTupOf2 H4 TO a1 a2 := s4.extBut _ _ S.Ti2 (s2.extBut _ _ S.Ti1 (s1.extBut _ _ S.TOz gO))
    have r1 : St1 (i + 1) H4 := D1.over q1' s4 S.sep2_1
    have up : ∀ c o, H4.get? c = some o → (H4.push { cls := .type "tuple", data := .seq #[x1, x2] }).get? c = some o := fun c o e => Heap.get?_push_of_some _ e
    refine wpAny_pure ⟨_, rfl, ?_⟩
    show Q (.ref H4.objs.size) ⟨H4.push { cls := .type "tuple", data := .seq #[x1, x2] }, ga, dr, t4, oo⟩
    have u5 : IsTupOf2 (H4.push { cls := .type "tuple", data := .seq #[x1, x2] }) H4.objs.size x1 x2 := Heap.get?_push_size _ rfl
    have z5 : (H4.push { cls := .type "tuple", data := .seq #[x1, x2] }).objs.size = H4.objs.size + 1 := Heap.size_push ..
    rw [sz] at u5 z5
    rw [sz]
    exact k x1 x2 _ t4 _ _ _ _ px1 px2 (up _ _ z4) of (up _ _ u4) (D1.frame _ _ _ r1 fun c _ o e => up c o e) (D2.frame _ _ _ q2' fun c _ o e => up c o e) u5 z5 fun c o cz cT ca cb e => up c o (s4.extBut _ _ cb (s2.extBut _ _ ca (s1.extBut _ _ cz e)))
/-- zip ends with its first -/
theorem zipS_end {f : Value} {b : Bool} {Q : Fin → Shared → Prop} (S : ZipSep2 z TI TO i1 i2 fp1 fp2) (D1 : Draws prog w A i1 fp1 n1 P1 St1)
    (gz : ZipF s.heap z TI TO f b) (of : OwnV f) (gI : IsTupOf2 s.heap TI (.ref i1) (.ref i2)) (q1 : St1 n1 s.heap)
    (k : ∀ h' e, (∀ c o, c ≠ z → c ≠ i1 → s.heap.get? c = some o → h'.get? c = some o) → (∃ o, h'.get? e = some o ∧ o.cls = .type "StopIteration") → E (.ref e) { s with heap := h' }) :
    wpAny (model prog w) A (Builtin.«zip.__next__» ⟨[.ref z], []⟩) Q E s := by
  obtain ⟨H0, ga, dr, tk, oo⟩ := s
  show wpAny _ _ (field (.ref z) 2 >>= _) _ _ _
  refine wpAny_bind (wpAny_field gz rfl (x := .bool false) rfl ?_)
  show wpAny _ _ (field (.ref z) 3 >>= _) _ _ _
  refine wpAny_bind (wpAny_field gz rfl (x := .ref TI) rfl ?_)
  refine wpAny_bind (wpAny_seqItems gI rfl ?_)
  show wpAny _ _ (Builtin.SmallTypes.ownedTupleIsFree (.ref z) >>= _) _ _ _
  refine wpAny_bind (own_free gz of ?_ fun H1 z1 s1 => ?_)
  · simp only [if_true]
    refine wpAny_bind (wpAny_rule ?_)
    refine wpAny_bind (wpAny_field gz rfl (x := .ref TO) rfl ?_)
    refine wpAny_bind (wpAny_setField_rec gz (by simp) fun H1 z1 s1 => ?_)
    replace z1 : ZipF H1 z TI TO .ellipsis b := z1
    replace s1 : Heap.SameBut z H0 H1 := s1
    refine wpAny_bind ?_
    simp only [List.zipIdx_cons, List.zipIdx_nil, List.forIn_cons, List.forIn_nil]
    refine wpAny_bind (wpAny_bind (wpAny_onRaise ?_))
    show wpAny _ _ (Builtin.SmallTypes.nextOf (.ref i1) >>= _) _ _ ⟨H1, ga, dr, tk, oo⟩
    refine wpAny_bind (D1.done ⟨H1, ga, dr, tk, oo⟩ _ _ (D1.over q1 s1 S.zf1) fun H2 e x2 ge => ?_)
    replace x2 : Heap.ExtBut i1 H1 H2 := x2
    obtain ⟨oe, hoe, hce⟩ := ge
    replace hoe : H2.get? e = some oe := hoe
    have z2 : ZipF H2 z TI TO .ellipsis b := x2 _ _ S.zi1 z1
    have ez : e ≠ z := fun x => by subst x; rw [z2] at hoe; cases hoe; simp at hce
    refine wpAny_setField_rec (s := ⟨H2, ga, dr, tk, oo⟩) z2 (by simp) fun H3 _ s3 => ?_
    replace s3 : Heap.SameBut z H2 H3 := s3
    exact k H3 e (fun c o cz ca x => s3.extBut _ _ cz (x2 _ _ ca (s1.extBut _ _ cz x))) ⟨oe, s3.extBut _ _ ez hoe, hce⟩
  · replace s1 : Heap.SameBut z H0 H1 := s1
    simp only [Bool.false_eq_true, if_false, ← Array.forIn_toList, List.forIn_cons, List.forIn_nil]
    refine wpAny_bind ?_
    refine wpAny_bind (wpAny_bind (wpAny_holding ?_))
    show wpAny _ _ (Builtin.SmallTypes.nextOf (.ref i1) >>= _) _ _ ⟨H1, ga, dr, tk, oo⟩
    refine wpAny_bind (D1.done ⟨H1, ga, dr, tk, oo⟩ _ _ (D1.over q1 s1 S.zf1) fun H2 e x2 ge => ?_)
    replace x2 : Heap.ExtBut i1 H1 H2 := x2
    exact k H2 e (fun c o cz ca x => x2 _ _ ca (s1.extBut _ _ cz x)) ge
theorem zipS_nextOf {f : Value} {b : Bool} {Q : Value → Shared → Prop} (S : ZipSep2 z TI TO i1 i2 fp1 fp2) (D1 : Draws prog w A.in1 i1 fp1 n1 P1 St1) (D2 : Draws prog w A.in1 i2 fp2 n2 P2 St2)
    (gz : ZipF s.heap z TI TO f b) (of : OwnV f) (gI : IsTupOf2 s.heap TI (.ref i1) (.ref i2)) (gO : IsTupOf2 s.heap TO a1 a2) (q1 : St1 i s.heap) (q2 : St2 i s.heap) (l1 : i < n1) (l2 : i < n2)
    (k : ∀ x1 x2 h' tk f' b' c1 c2, P1 i x1 → P2 i x2 → ZipF h' z TI TO f' b' → OwnV f' → IsTupOf2 h' TO c1 c2 → St1 (i + 1) h' → St2 (i + 1) h' → IsTupOf2 h' s.heap.objs.size x1 x2 → h'.objs.size = s.heap.objs.size + 1 →
      (∀ c o, c ≠ z → c ≠ TO → c ≠ i1 → c ≠ i2 → s.heap.get? c = some o → h'.get? c = some o) → Q (.ref s.heap.objs.size) { s with heap := h', toks := tk }) :
    wpAny (model prog w) A (Builtin.SmallTypes.nextOf (.ref z)) Q E s := by
  have tz : s.TypeIs (.ref z) "zip" := ⟨_, gz, rfl⟩
  unfold Builtin.SmallTypes.nextOf
  exact wpAny_bind (wpAny_callSpecial?_slot (name := Str.ofString "__next__") tz F.slot_zip_next (wpAny_call_entry F.slot_zip_next tz F.entry_zip_next (zipS_item S D1 D2 gz of gI gO q1 q2 l1 l2 fun x1 x2 h' tk f' b' c1 c2 y1 y2 y3 y4 y5 y6 y7 y8 y9 y10 => wpAny_pure (k x1 x2 h' tk f' b' c1 c2 y1 y2 y3 y4 y5 y6 y7 y8 y9 y10)) (F.args_zip_next_1 _)))
theorem zipS_nextOf_end {f : Value} {b : Bool} {Q : Value → Shared → Prop} (S : ZipSep2 z TI TO i1 i2 fp1 fp2) (D1 : Draws prog w A.in1 i1 fp1 n1 P1 St1)
    (gz : ZipF s.heap z TI TO f b) (of : OwnV f) (gI : IsTupOf2 s.heap TI (.ref i1) (.ref i2)) (q1 : St1 n1 s.heap)
    (k : ∀ h' e, (∀ c o, c ≠ z → c ≠ i1 → s.heap.get? c = some o → h'.get? c = some o) → (∃ o, h'.get? e = some o ∧ o.cls = .type "StopIteration") → E (.ref e) { s with heap := h' }) :
    wpAny (model prog w) A (Builtin.SmallTypes.nextOf (.ref z)) Q E s := by
  have tz : s.TypeIs (.ref z) "zip" := ⟨_, gz, rfl⟩
  unfold Builtin.SmallTypes.nextOf
  exact wpAny_bind (wpAny_callSpecial?_slot (name := Str.ofString "__next__") tz F.slot_zip_next (wpAny_call_entry F.slot_zip_next tz F.entry_zip_next (zipS_end S D1 gz of gI q1 k) (F.args_zip_next_1 _)))
end
end WC

set_option maxHeartbeats 4000000
namespace WC
open PySem PySem.Spec PyProof.Rows L2
section
variable {prog : Program} {w : World} {A : Around} {E : Value → Shared → Prop} {s : Shared} {z TI TO i1 i2 : Addr} {fp1 fp2 : List Addr} {n1 n2 i : Nat} {P1 P2 : Nat → Value → Prop} {St1 St2 : Nat → Heap → Prop} {a1 a2 : Value}
/-- what enumerate's step leaves -/
structure EzOut (s : Shared) (h1 h3 : Heap) (z TI TO i1 i2 e : Addr) (c : Int) (tk : Nat) (x1 x2 : Value) : Prop where
  out : IsEnumOut h3 e z (c + 1) (.ref s.heap.objs.size) (s.heap.objs.size + 1)
  pair : IsTupOf2 h1 s.heap.objs.size x1 x2
  sz1 : h1.objs.size = s.heap.objs.size + 1
  keep1 : ∀ c o, c ≠ z → c ≠ TO → c ≠ i1 → c ≠ i2 → s.heap.get? c = some o → h1.get? c = some o
  tup : h3.get? (s.heap.objs.size + 1) = some { cls := .type "tuple", data := .seq #[.int c tk, .ref s.heap.objs.size] }
  keep3 : ∀ c o, c ≠ e → h1.get? c = some o → h3.get? c = some o
theorem enumZ_body {e : Addr} {c : Int} {old f : Value} {b : Bool} {Q : Value → Shared → Prop} (S : ZipSep2 z TI TO i1 i2 fp1 fp2) (D1 : Draws prog w A.in1 i1 fp1 n1 P1 St1) (D2 : Draws prog w A.in1 i2 fp2 n2 P2 St2)
    (ge : IsEnum s.heap e z c old) (ez : e ≠ z) (eO : e ≠ TO) (ef1 : e ∉ fp1) (ef2 : e ∉ fp2)
    (gz : ZipF s.heap z TI TO f b) (of : OwnV f) (gI : IsTupOf2 s.heap TI (.ref i1) (.ref i2)) (gO : IsTupOf2 s.heap TO a1 a2) (q1 : St1 i s.heap) (q2 : St2 i s.heap) (l1 : i < n1) (l2 : i < n2)
    (k : ∀ x1 x2 h1 h3 tk f' b' c1 c2, P1 i x1 → P2 i x2 → EzOut s h1 h3 z TI TO i1 i2 e c tk x1 x2 → ZipF h3 z TI TO f' b' → OwnV f' → IsTupOf2 h3 TO c1 c2 → St1 (i + 1) h3 → St2 (i + 1) h3 → Q (.ref (s.heap.objs.size + 1)) { s with heap := h3, toks := tk + 1 }) :
    wpAny (model prog w) A (Builtin.«enumerate.__next__» ⟨[.ref e], []⟩) (fun fin s' => ∃ v, fin = .done (.ret v) ∧ Q v s') E s := by
  obtain ⟨H0, ga, dr, tk, oo⟩ := s
  show wpAny _ _ (field (.ref e) 2 >>= _) _ _ _
  refine wpAny_bind (wpAny_field ge rfl (x := .ref z) rfl ?_)
  refine wpAny_bind (zipS_nextOf S D1 D2 gz of gI gO q1 q2 l1 l2 fun x1 x2 H1 t1 f' b' c1 c2 px1 px2 z1 of1 o1 r1 r2 pr sz1 kp => ?_)
  replace pr : IsTupOf2 H1 H0.objs.size x1 x2 := pr
  replace sz1 : H1.objs.size = H0.objs.size + 1 := sz1
  have e1 : e ≠ i1 := fun q => ef1 (q ▸ S.mem1)
  have e2 : e ≠ i2 := fun q => ef2 (q ▸ S.mem2)
  have ge1 : IsEnum H1 e z c old := kp e _ ez eO e1 e2 ge
  have el : e < H0.objs.size := Heap.lt_size ge
  show wpAny _ _ (field (.ref e) 3 >>= _) _ _ ⟨H1, ga, dr, t1, oo⟩
  refine wpAny_bind (wpAny_field ge1 rfl (x := rawInt c) rfl ?_)
  show wpAny _ _ (field (.ref e) 4 >>= _) _ _ ⟨H1, ga, dr, t1, oo⟩
  refine wpAny_bind (wpAny_field ge1 rfl (x := .none) rfl ?_)
  show wpAny _ _ (mkInt c >>= _) _ _ ⟨H1, ga, dr, t1, oo⟩
  refine wpAny_bind (wpAny_mkInt ?_)
  show wpAny _ _ (setField (.ref e) 3 (rawInt (c + 1)) >>= _) _ _ ⟨H1, ga, dr, t1 + 1, oo⟩
  refine wpAny_bind (wpAny_setField_rec ge1 (by simp) fun H2 ge2 s2 => ?_)
  replace s2 : Heap.SameBut e H1 H2 := s2
  replace ge2 : IsEnum H2 e z (c + 1) old := ge2
  show wpAny _ _ (setField (.ref e) 4 .none >>= _) _ _ ⟨H2, ga, dr, t1 + 1, oo⟩
  refine wpAny_bind (wpAny_setField_rec ge2 (by simp) fun H3 ge3 s3 => ?_)
  replace s3 : Heap.SameBut e H2 H3 := s3
  replace ge3 : IsEnum H3 e z (c + 1) old := ge3
  show wpAny _ _ (newTuple [.int c t1, .ref H0.objs.size] >>= _) _ _ ⟨H3, ga, dr, t1 + 1, oo⟩
  refine wpAny_bind (wpAny_newTuple ?_)
  have sz3 : H3.objs.size = H0.objs.size + 1 := by rw [s3.1, s2.1, sz1]
  have ge4 : IsEnum (H3.push { cls := .type "tuple", data := .seq #[.int c t1, .ref H0.objs.size] }) e z (c + 1) old := Heap.get?_push_of_some _ ge3
  have tu4 : (H3.push { cls := .type "tuple", data := .seq #[.int c t1, .ref H0.objs.size] }).get? (H0.objs.size + 1) = some { cls := .type "tuple", data := .seq #[.int c t1, .ref H0.objs.size] } := by rw [← sz3]; exact Heap.get?_push_size _ rfl
  have kp4 : ∀ d o, d ≠ e → H1.get? d = some o → (H3.push { cls := .type "tuple", data := .seq #[.int c t1, .ref H0.objs.size] }).get? d = some o := fun d o de q => Heap.get?_push_of_some _ (s3.extBut d o de (s2.extBut d o de q))
  generalize H3.push { cls := .type "tuple", data := .seq #[.int c t1, .ref H0.objs.size] } = H4 at ge4 tu4 kp4
  show wpAny _ _ (Builtin.SmallTypes.ownedTupleIsFree (.ref e) >>= _) _ _ ⟨H4, ga, dr, t1 + 1, oo⟩
  rw [sz3]
  refine wpAny_bind ?_
  unfold Builtin.SmallTypes.ownedTupleIsFree
  refine wpAny_bind (wpAny_field ge4 rfl (x := .none) rfl (wpAny_pure ?_))
  simp only [if_true]
  refine wpAny_bind (wpAny_rule ?_)
  refine wpAny_bind (wpAny_field ge4 rfl (x := old) rfl ?_)
  refine wpAny_bind (wpAny_setField_rec ge4 (by simp) fun H5 ge5 s5 => ?_)
  replace s5 : Heap.SameBut e H4 H5 := s5
  replace ge5 : IsEnum H5 e z (c + 1) (.ref H0.objs.size) := ge5
  show wpAny _ _ (Builtin.SmallTypes.ownedTupleHandOut (.ref e) (.ref (H0.objs.size + 1)) >>= _) _ _ ⟨H5, ga, dr, t1 + 1, oo⟩
  refine wpAny_bind ?_
  unfold Builtin.SmallTypes.ownedTupleHandOut
  refine wpAny_bind (wpAny_setField_rec ge5 (by simp) fun H6 ge6 s6 => ?_)
  replace s6 : Heap.SameBut e H5 H6 := s6
  replace ge6 : IsEnumOut H6 e z (c + 1) (.ref H0.objs.size) (H0.objs.size + 1) := ge6
  refine wpAny_setField_rec ge6 (by simp) fun H7 ge7 s7 => ?_
  replace s7 : Heap.SameBut e H6 H7 := s7
  replace ge7 : IsEnumOut H7 e z (c + 1) (.ref H0.objs.size) (H0.objs.size + 1) := ge7
  have up : ∀ d o, d ≠ e → H4.get? d = some o → H7.get? d = some o := fun d o de q => s7.extBut d o de (s6.extBut d o de (s5.extBut d o de q))
  have kp7 : ∀ d o, d ≠ e → H1.get? d = some o → H7.get? d = some o := fun d o de q => up d o de (kp4 d o de q)
  refine wpAny_bind (wpAny_letGo (wpAny_pure ⟨_, rfl, k x1 x2 H1 H7 t1 f' b' c1 c2 px1 px2 ⟨ge7, pr, sz1, kp, up _ _ (Nat.ne_of_gt (Nat.lt_succ_of_lt el)) tu4, kp7⟩ (kp7 _ _ ez.symm z1) of1 (kp7 _ _ eO.symm o1) (D1.frame _ _ _ r1 fun d hd o q => kp7 d o (fun y => ef1 (y ▸ hd)) q) (D2.frame _ _ _ r2 fun d hd o q => kp7 d o (fun y => ef2 (y ▸ hd)) q)⟩))
theorem enumZ_next {e : Addr} {c : Int} {old f : Value} {b : Bool} {Q : Option Value → Shared → Prop} (S : ZipSep2 z TI TO i1 i2 fp1 fp2) (D1 : Draws prog w A.in1.in1 i1 fp1 n1 P1 St1) (D2 : Draws prog w A.in1.in1 i2 fp2 n2 P2 St2)
    (ge : IsEnum s.heap e z c old) (ez : e ≠ z) (eO : e ≠ TO) (ef1 : e ∉ fp1) (ef2 : e ∉ fp2)
    (gz : ZipF s.heap z TI TO f b) (of : OwnV f) (gI : IsTupOf2 s.heap TI (.ref i1) (.ref i2)) (gO : IsTupOf2 s.heap TO a1 a2) (q1 : St1 i s.heap) (q2 : St2 i s.heap) (l1 : i < n1) (l2 : i < n2)
    (k : ∀ x1 x2 h1 h3 tk f' b' c1 c2, P1 i x1 → P2 i x2 → EzOut s h1 h3 z TI TO i1 i2 e c tk x1 x2 → ZipF h3 z TI TO f' b' → OwnV f' → IsTupOf2 h3 TO c1 c2 → St1 (i + 1) h3 → St2 (i + 1) h3 → Q (some (.ref (s.heap.objs.size + 1))) { s with heap := h3, toks := tk + 1 }) :
    wpAny (model prog w) A (pyNext (.ref e)) Q E s := by
  have te : s.TypeIs (.ref e) "enumerate" := ⟨_, ge, rfl⟩
  unfold pyNext
  exact wpAny_bind (wpAny_attempt (wpAny_callSpecial?_slot (name := Str.ofString "__next__") te F.slot_enumerate_next
    (wpAny_call_entry F.slot_enumerate_next te F.entry_enumerate_next
      (enumZ_body S D1 D2 ge ez eO ef1 ef2 gz of gI gO q1 q2 l1 l2 fun x1 x2 h1 h3 tk f' b' c1 c2 y1 y2 y3 y4 y5 y6 y7 y8 => wpAny_pure (k x1 x2 h1 h3 tk f' b' c1 c2 y1 y2 y3 y4 y5 y6 y7 y8)) (F.args_enumerate_next_1 _))))
end
end WC

set_option maxHeartbeats 4000000
namespace WC
open PySem PySem.Spec PyProof.Rows L2
set_option maxHeartbeats 1000000 in
theorem new_enumZ {z TI TO : Addr} {f0 : Value} :
    Meets (Builtin.«enumerate.__new__» ⟨[.type "enumerate", .ref z], []⟩) (fun _ R s => IsZip s.heap z TI TO f0 ∧
      R (.ok (.ret (.ref s.heap.objs.size))) { s with heap := s.heap.push { cls := .type "enumerate", data := .fields #[.none, .bool false, .ref z, rawInt 0, .none, .none] } }) :=
  .of_wp fun prog w A R s h => by
    obtain ⟨hp, g, d, tk, os⟩ := s
    obtain ⟨h1, h⟩ := h
    have hsub := sub_enumerate
    have q1 : ∀ {A2 : Around} {E : Value → Shared → Prop} {Q : Value → Shared → Prop}, Q (.ref z) ⟨hp, g, d, tk, os⟩ → wpAny (model prog w) A2 (pyIter (.ref z)) Q E ⟨hp, g, d, tk, os⟩ := fun q => wpAny_pyIter_zip h1 q
    wp_walk using q1
    refine wpAny_stack_any fun st => wpAny_pure ?_
    split
    · rename_i c _ _ _ _ _
      cases (c == Value.type "enumerate") <;> (wp_walk using q1; exact ⟨_, rfl, h⟩)
    · wp_walk using q1
      exact ⟨_, rfl, h⟩
section
variable {prog : Program} {w : World} {A : Around} {E : Value → Shared → Prop} {s : Shared}
theorem enumZ_begins {z TI TO : Addr} {f0 : Value} {Q : Value → Shared → Prop} (gz : IsZip s.heap z TI TO f0)
    (h : ∀ h2, IsEnum h2 s.heap.objs.size z 0 .none → (∀ b u, s.heap.get? b = some u → h2.get? b = some u) → Q (.ref s.heap.objs.size) { s with heap := h2 }) :
    wpAny (model prog w) A (call (.type "enumerate") [.ref z]) Q E s := by
  refine callType_new F.called_enumerate (by decide) (F.typeCall_enumerate_1 _) (F.newCall_enumerate_1 _) (fun obj => F.args_object_init_2 obj _) F.entry_enumerate_new (new_enumZ (TI := TI) (TO := TO) (f0 := f0)) ⟨gz, ?_⟩
  have he : IsEnum (s.heap.push { cls := .type "enumerate", data := .fields #[.none, .bool false, .ref z, rawInt 0, .none, .none] }) s.heap.objs.size z 0 .none := Heap.get?_push_size s.heap rfl
  show _ ∧ _
  exact ⟨⟨_, he, rfl⟩, h _ he fun b u x => Heap.get?_push_of_some _ x⟩
end
def ItEZ (K : PySem.W.Frag) (k1 k2 : Bool) (a b : Addr) : It :=
  ⟨fun i H => ∃ (xs ys : List V) (x y : V), SqX K H k1 a xs ∧ SqX K H k2 b ys ∧ xs[i]? = some x ∧ ys[i]? = some y,
    fun i H v H' => ∃ U T x y, v = .ref T ∧ H U = none ∧ upd H U (.tup [x, y]) T = none ∧ H' = upd (upd H U (.tup [x, y])) T (.tup [.int (i : Nat), .ref U]) ∧ (∀ xs, SqX K H k1 a xs → xs[i]? = some x) ∧ ∀ ys, SqX K H k2 b ys → ys[i]? = some y,
    fun i H => ∃ xs : List V, SqX K H k1 a xs ∧ xs.length = i⟩
structure EzM (e z TI TO i1 i2 a b : Addr) : Prop where
  D : ZpM z TI TO i1 i2 a b
  ez : e ≠ z
  eI : e ≠ TI
  eO : e ≠ TO
  e1 : e ≠ i1
  e2 : e ≠ i2
  ea : e ≠ a
  eb : e ≠ b
theorem turn_ez {P : Program} {w : World} {K : PySem.W.Frag} {elts : List Expr} {kk : Nat} {tpos : Pos} {k1 k2 : Bool} {e a b z TI TO i1 i2 : Addr} (M : EzM e z TI TO i1 i2 a b) :
    Turn P w K (.Tuple elts kk tpos) (ItEZ K k1 k2 a b) [e, z, TI, TO, i1, i2] e (fun i h => (∃ old, IsEnum h e z ((i : Nat) : Int) old) ∧ (∃ f b, ZipF h z TI TO f b ∧ OwnV f) ∧ IsTupOf2 h TI (.ref i1) (.ref i2) ∧ (∃ x y, IsTupOf2 h TO x y) ∧ ItX h k1 i1 a i ∧ ItX h k2 i2 b i) where
  mem := by simp
  obj := fun i h st c hc => by
    obtain ⟨⟨old, he⟩, ⟨f, b', hz, _⟩, hTI, ⟨x, y, hTO⟩, h1, h2⟩ := st
    obtain ⟨o1, e1, d1, _⟩ := itx_obj h1
    obtain ⟨o2, e2, d2, _⟩ := itx_obj h2
    have e' : c = e ∨ c = z ∨ c = TI ∨ c = TO ∨ c = i1 ∨ c = i2 := by simpa using hc
    rcases e' with q | q | q | q | q | q
    · rw [q]; exact ⟨_, he, fun v q => nomatch q⟩
    · rw [q]; exact ⟨_, hz, fun v q => nomatch q⟩
    · rw [q]; exact ⟨_, hTI, fun v q => nomatch q⟩
    · rw [q]; exact ⟨_, hTO, fun v q => nomatch q⟩
    · rw [q]; exact ⟨o1, e1, d1⟩
    · rw [q]; exact ⟨o2, e2, d2⟩
  keep := fun i h h' st k => by
    obtain ⟨⟨old, he⟩, ⟨f, b', hz, of⟩, hTI, ⟨x, y, hTO⟩, h1, h2⟩ := st
    exact ⟨⟨old, k e (by simp) _ he⟩, ⟨f, b', k z (by simp) _ hz, of⟩, k TI (by simp) _ hTI, ⟨x, y, k TO (by simp) _ hTO⟩, itx_at h1 fun o q => k i1 (by simp) o q, itx_at h2 fun o q => k i2 (by simp) o q⟩
  item := by
    intro X hP hw hK hc i pins s σ H E I hf st hg
    subst hP hw hK
    obtain ⟨⟨old, he⟩, ⟨f, b', hz, of⟩, hTI, ⟨x0, y0, hTO⟩, h1, h2⟩ := st
    obtain ⟨xs, ys, x, y, hqx, hqy, hx, hy⟩ := hg
    obtain ⟨its, rv, p⟩ := sqx_is I hqx
    obtain ⟨its2, rv2, p2⟩ := sqx_is I hqy
    obtain ⟨u, hu, ru⟩ := rv.get hx
    obtain ⟨u2, hu2, ru2⟩ := rv2.get hy
    have S := M.D.s
    have hl1 : i < its.toArray.size := by have := (List.getElem?_eq_some_iff.mp hu).1; simpa using this
    have hl2 : i < its2.toArray.size := by have := (List.getElem?_eq_some_iff.mp hu2).1; simpa using this
    refine enumZ_next S (drX (A := X.A.in1.in1) (I.ok.hd hc) k1 i1 a M.D.n1 its.toArray) (drX (A := X.A.in1.in1) (I.ok.hd hc) k2 i2 b M.D.n2 its2.toArray) he M.ez M.eO (by simp [M.e1, M.ea]) (by simp [M.e2, M.eb]) hz of hTI hTO ⟨h1, p⟩ ⟨h2, p2⟩ hl1 hl2 fun v1 v2 g1 g3 tk f' b2 c1 c2 e1 e2 O z' of' TO' h1' h2' => ?_
    have e1 : its[i]? = some v1 := by simpa using e1
    have e2 : its2[i]? = some v2 := by simpa using e2
    rw [hu] at e1
    rw [hu2] at e2
    cases e1
    cases e2
    have lt : ∀ c ∈ [e, z, TI, TO, i1, i2], c < s.heap.objs.size := fun c hcm => by
      have e' : c = e ∨ c = z ∨ c = TI ∨ c = TO ∨ c = i1 ∨ c = i2 := by simpa using hcm
      rcases e' with q | q | q | q | q | q
      · rw [q]; exact Heap.lt_size he
      · rw [q]; exact Heap.lt_size hz
      · rw [q]; exact Heap.lt_size hTI
      · rw [q]; exact Heap.lt_size hTO
      · rw [q]; obtain ⟨_, y1, _⟩ := itx_obj h1; exact Heap.lt_size y1
      · rw [q]; obtain ⟨_, y2, _⟩ := itx_obj h2; exact Heap.lt_size y2
    have I1 : Inv X pins σ (upd H s.heap.objs.size (.tup [x, y])) { s with heap := g1, toks := tk } :=
      I.turnedNew (t' := tk) (ch := [e, z, TI, TO, i1, i2]) (fun c o hb q => O.keep1 c o (fun q' => hb (by simp [q'])) (fun q' => hb (by simp [q'])) (fun q' => hb (by simp [q'])) (fun q' => hb (by simp [q'])) q) hf (Nat.le_refl _) ⟨by show 2 ≤ sizeLine; decide, [u, u2], .cons ru (.cons ru2 .nil), ⟨_, O.pair, rfl, _, rfl⟩⟩
    have hf1 : ∀ c ∈ [e, z, TI, TO, i1, i2], FpOk X pins (upd H s.heap.objs.size (.tup [x, y])) c := fun c hcm => by
      obtain ⟨f0, f1, f2, f3, f4, f5⟩ := hf c hcm
      exact ⟨by rw [upd_ne (Nat.ne_of_lt (lt c hcm))]; exact f0, f1, f2, f3, f4, f5⟩
    refine ⟨_, rfl, wpAny_letOwnedTupleGo_enum (s := { s with heap := g3, toks := tk + 1 }) O.out fun g4 he4 sb => ?_⟩
    have up4 : ∀ c o, c ≠ e → g1.get? c = some o → g4.get? c = some o := fun c o ce q => (sb.2 _ ce).trans (O.keep3 c o ce q)
    have lte := lt e (by simp)
    have hT4 : g4.get? (s.heap.objs.size + 1) = some { cls := .type "tuple", data := .seq #[.int i tk, .ref s.heap.objs.size] } := (sb.2 _ (Nat.ne_of_gt (Nat.lt_succ_of_lt lte))).trans O.tup
    have sz1 : ({ s with heap := g1, toks := tk } : Shared).heap.objs.size ≤ s.heap.objs.size + 1 := Nat.le_of_eq O.sz1
    have I2 : Inv X pins σ (upd (upd H s.heap.objs.size (.tup [x, y])) (s.heap.objs.size + 1) (.tup [.int (i : Nat), .ref s.heap.objs.size])) { s with heap := g4, toks := tk + 1 } :=
      I1.turnedNew (t' := tk + 1) (ch := [e, z, TI, TO, i1, i2]) (fun c o hb q => up4 c o (fun q' => hb (by simp [q'])) q) hf1 sz1 ⟨by show 2 ≤ sizeLine; decide, [.int i tk, .ref s.heap.objs.size], .cons ⟨_, rfl⟩ (.cons rfl .nil), ⟨_, hT4, rfl, _, rfl⟩⟩
    refine ⟨.ref (s.heap.objs.size + 1), _, I2, rfl, ⟨s.heap.objs.size, _, x, y, rfl, I.hok.fresh (Nat.le_refl _), I1.hok.fresh sz1, rfl, fun l hl => by rw [sqx_inj I hl hqx]; exact hx, fun l hl => by rw [sqx_inj I hl hqy]; exact hy⟩, ⟨⟨.ref s.heap.objs.size, ?_⟩, ⟨f', b2, ?_, of'⟩, ?_, ⟨c1, c2, ?_⟩, ?_, ?_⟩, fun c hcm => ?_⟩
    · have y1 : ((i + 1 : Nat) : Int) = (i : Int) + 1 := by omega
      rw [y1]
      exact he4
    · exact (sb.2 _ (Ne.symm M.ez)).trans z'
    · exact (sb.2 _ (Ne.symm M.eI)).trans (O.keep3 _ _ (Ne.symm M.eI) (O.keep1 _ _ S.TIz S.TITO S.TIi1 S.TIi2 hTI))
    · exact (sb.2 _ (Ne.symm M.eO)).trans TO'
    · exact itx_at h1'.1 fun o q => (sb.2 _ (Ne.symm M.e1)).trans q
    · exact itx_at h2'.1 fun o q => (sb.2 _ (Ne.symm M.e2)).trans q
    · have y1 := lt c hcm
      rw [upd_ne (Nat.ne_of_lt (Nat.lt_succ_of_lt y1)), upd_ne (Nat.ne_of_lt y1)]
      exact (hf c hcm).1
  done := by
    intro X hP hw hK hc i pins s σ H E I hf st hg
    subst hP hw hK
    obtain ⟨⟨old, he⟩, ⟨f, b', hz, of⟩, hTI, ⟨x0, y0, hTO⟩, h1, h2⟩ := st
    obtain ⟨xs, hqx, hend⟩ := hg
    obtain ⟨its, rv, p⟩ := sqx_is I hqx
    have l1 := rv.length
    have hn : i = its.toArray.size := by simp; omega
    subst hn
    unfold pyNext
    refine wpAny_bind (wpAny_attempt (wpAny_callSpecial?_slot (name := Str.ofString "__next__") ⟨_, he, rfl⟩ F.slot_enumerate_next (wpAny_call_entry F.slot_enumerate_next ⟨_, he, rfl⟩ F.entry_enumerate_next ?_ (F.args_enumerate_next_1 _))))
    show wpAny _ _ (field (.ref e) 2 >>= _) _ _ _
    refine wpAny_bind (wpAny_field he rfl (x := .ref z) rfl ?_)
    refine wpAny_bind (zipS_nextOf_end M.D.s (drX (A := X.A.in1.in1) (I.ok.hd hc) k1 i1 a M.D.n1 its.toArray) hz of hTI ⟨h1, p⟩ fun g2 x kp ge => ?_)
    obtain ⟨o, ho, hcl⟩ := ge
    refine wpAny_bind (wpAny_isInstance (T := "StopIteration") (b := true) ⟨o, ho, hcl⟩ isSubtype_stop ?_)
    exact wpAny_pure ⟨rfl, I.turnedL (t' := s.toks) (ch := [e, z, TI, TO, i1, i2]) (fun c o hb q => kp c o (fun q' => hb (by simp [q'])) (fun q' => hb (by simp [q'])) q) hf⟩
  self := fun A i s Q E st h => let ⟨⟨_, he⟩, _⟩ := st; wpAny_pyIter_enum he h
def iEZ (K : PySem.W.Frag) (ta : TA) : TI := fun σ H R => ta σ H fun vs H1 => ∃ a b xs ys k1 k2, vs = [.ref a, .ref b] ∧ SqX K H1 k1 a xs ∧ SqX K H1 k2 b ys ∧ R (ItEZ K k1 k2 a b) H1
theorem pi_ez {X : Cx} {e e2 : Expr} {ta : TA} {p pos pz posz tpos : Pos} {elts : List Expr} {kk : Nat} (hm : X.mg "enumerate" = none) (hmz : X.mg "zip" = none) (ha : PA X [e, e2] ta) (hg : Gl X "enumerate" := by rfl) (hgz : Gl X "zip" := by rfl)
    (hs : starEach [Expr.Call (.Name "zip" pz) [e, e2] [] posz] X.env = [(false, eval (.Call (.Name "zip" pz) [e, e2] [] posz) X.env)] := by rfl)
    (hs2 : starEach [e, e2] X.env = (false, eval e X.env) :: starEach [e2] X.env := by rfl) (hpl : (backTo posz (starEach [e2] X.env)).any (·.1) = false := by rfl) :
    PI X (.Tuple elts kk tpos) (.Call (.Name "enumerate" p) [.Call (.Name "zip" pz) [e, e2] [] posz] [] pos) (iEZ X.K ta) := by
  refine ⟨fun pins s σ H R I h => Call_ (ld_blt I hg hm boot_enumerate (PyProof.Rows.callWith_type1 ?_ hs rfl))⟩
  rw [hs]
  show wpAny _ _ (spliced [(false, eval (.Call (.Name "zip" pz) [e, e2] [] posz) X.env)]) _ _ s
  refine Calls.spliced_cons (Call_ (ld_blt I hgz hmz PyProof.Rows.boot_zip (PyProof.Rows.callWith_type1 (thn (ha.run posz pins s σ H _ I h) fun us s1 ⟨vs, H1, I1, r1, q1⟩ => ?_) hs2 hpl)))
  obtain ⟨a, b, xs, ys, k1, k2, ex, hqx, hqy, q⟩ := q1
  subst ex
  cases r1 with
  | cons r rr =>
    cases rr with
    | cons r' rr =>
      cases rr
      cases r
      cases r'
      obtain ⟨its, rv, p1⟩ := sqx_is I1 hqx
      obtain ⟨its2, rv2, p2⟩ := sqx_is I1 hqy
      obtain ⟨o1, B1, g1⟩ := begX k1 a its.toArray
      obtain ⟨o2, B2, g2⟩ := begX k2 b its2.toArray
      have l1 := isx_lt p1
      have l2 := isx_lt p2
      refine zip_begins2 B1 B2 p1 p2 fun h' hz hTI hTO ho1 ho2 hsz hk => Calls.spliced_nil (enumZ_begins (s := { s1 with heap := h' }) hz fun h2 he hk2 => wpAny_pyIter_enum he ?_)
      have hsz : h'.objs.size = s1.heap.objs.size + 5 := hsz
      have he : IsEnum h2 (s1.heap.objs.size + 5) (s1.heap.objs.size + 4) 0 .none := by rw [← hsz]; exact he
      have I2 : Inv X pins σ H1 { s1 with heap := h2 } := I1.kept (t' := s1.toks) fun c o q => hk2 c o (hk c o q)
      have D : ZpM (s1.heap.objs.size + 4) (s1.heap.objs.size + 2) (s1.heap.objs.size + 3) s1.heap.objs.size (s1.heap.objs.size + 1) a b :=
        ⟨zip_sep2 (fun c hc => by rw [List.mem_singleton.mp hc]; exact l1) (fun c hc => by rw [List.mem_singleton.mp hc]; exact l2), Nat.ne_of_lt l1, Nat.ne_of_lt (Nat.lt_succ_of_lt l2)⟩
      have big : ∀ {k : Addr} {d : Nat}, k < s1.heap.objs.size → s1.heap.objs.size + d ≠ k := fun {k d} h => Nat.ne_of_gt (Nat.lt_of_lt_of_le h (Nat.le_add_right _ _))
      have off : ∀ {c d : Nat}, c ≠ d → s1.heap.objs.size + c ≠ s1.heap.objs.size + d := fun {c d} h e => h (Nat.add_left_cancel e)
      have M : EzM (s1.heap.objs.size + 5) (s1.heap.objs.size + 4) (s1.heap.objs.size + 2) (s1.heap.objs.size + 3) s1.heap.objs.size (s1.heap.objs.size + 1) a b :=
        ⟨D, off (by decide), off (by decide), off (by decide), off (d := 0) (by decide), off (by decide), big l1, big l2⟩
      show PIE X pins σ _ R (.ref h'.objs.size) { s1 with heap := h2 }
      rw [hsz]
      refine ⟨s1.heap.objs.size + 5, [s1.heap.objs.size + 5, s1.heap.objs.size + 4, s1.heap.objs.size + 2, s1.heap.objs.size + 3, s1.heap.objs.size, s1.heap.objs.size + 1], _, _, H1, rfl, I2, turn_ez M, ⟨⟨.none, he⟩, ⟨.none, false, hk2 _ _ hz, .inl rfl⟩, hk2 _ _ hTI, ⟨_, _, hk2 _ _ hTO⟩, g1 _ _ (hk2 _ _ ho1), g2 _ _ (hk2 _ _ ho2)⟩, fun c hcm => ?_, q⟩
      have e' : c = s1.heap.objs.size + 5 ∨ c = s1.heap.objs.size + 4 ∨ c = s1.heap.objs.size + 2 ∨ c = s1.heap.objs.size + 3 ∨ c = s1.heap.objs.size ∨ c = s1.heap.objs.size + 1 := by simpa using hcm
      have hle : s1.heap.objs.size ≤ c := by
        rcases e' with z | z | z | z | z | z
        · rw [z]; exact Nat.le_add_right _ _
        · rw [z]; exact Nat.le_add_right _ _
        · rw [z]; exact Nat.le_add_right _ _
        · rw [z]; exact Nat.le_add_right _ _
        · rw [z]; exact Nat.le_refl _
        · rw [z]; exact Nat.le_add_right _ _
      exact I1.fpOk hle (I1.hok.fresh hle)
/-- a turn's number and its pair -/
def YEz (fx fy : Nat → Option V) : Nat → Hp → V → Hp → Prop := fun i H v H2 => ∃ U T x y, v = .ref T ∧ H U = none ∧ upd H U (.tup [x, y]) T = none ∧ H2 = upd (upd H U (.tup [x, y])) T (.tup [.int (i : Nat), .ref U]) ∧ fx i = some x ∧ fy i = some y
theorem walk_ez {K : PySem.W.Frag} {k1 k2 : Bool} {a b : Addr} {xs ys : List V} (hl : xs.length = ys.length) : Walk (ItEZ K k1 k2 a b) xs.length (fun H => SqX K H k1 a xs ∧ SqX K H k2 b ys) (YEz (fun i => xs[i]?) (fun i => ys[i]?)) := by
  refine ⟨fun i _ hi q => ⟨xs, ys, xs[i], ys[i], q.1, q.2, by simp [hi], by simp [hl ▸ hi]⟩, fun _ q => ⟨xs, q.1, rfl⟩, fun i H v H2 _ q y => ?_⟩
  obtain ⟨U, T, x, z, h1, h2, h3, h4, h5, h6⟩ := y
  exact ⟨U, T, x, z, h1, h2, h3, h4, h5 xs q.1, h6 ys q.2⟩
end WC

set_option maxHeartbeats 8000000
namespace WC
open PySem PySem.Spec PyProof.Rows L2
/-! t.count(x) where items are data of any depth -/
def rTCntD (K : PySem.W.Frag) : V → List V → Hp → VK → Prop := fun x xs H Q => ∃ (a : Addr) (y : V) (d : PyData) (ds : List PyData), x = V.ref a ∧ xs = [y] ∧ Dp K H (V.ref a) (.tuple ds) ∧ Dp K H y d ∧
  PyData.plainAll ds = true ∧ d.plain = true ∧ d.depth ≤ 60 ∧ Q (.int ((ds.countP fun z => PyData.eqv z d : Nat) : Int)) H
theorem mt_tcountD {X : Cx} (hu : X.A.units + 65 < cLine) : MtR X "tuple.count" (rTCntD X.K) := by
  intro pins s σ H x xs v us Q I rx rxs h
  obtain ⟨a, y, d, ds, rfl, rfl, hl, hy, pl, pd, dd, q⟩ := h
  cases rx
  cases rxs with
  | cons ry rt =>
    rename_i uy ut
    cases rt
    obtain ⟨bs, r1⟩ := Dp.reads I d y uy hy ry
    cases hl with
    | tup hs ha =>
      obtain ⟨its, rv, ht, hlen⟩ := I.tuple hs
      obtain ⟨as, h4⟩ := Dp.readsAll I ds _ its ha rv
      refine SeqAt.count_tuple_data (vs := its.toArray) ht (show ReadsAll s.heap its.toArray.toList ds as from h4) r1 pl pd ?_ ⟨.int _, H, I.tok _, ⟨_, rfl⟩, q⟩
      omega
end WC

set_option maxHeartbeats 8000000
namespace WC
open PySem PySem.Spec PyProof.Rows L2
/-! x is True, of bools -/
theorem op_is_bl {X : Cx} : OpR X (compareOp .Is) (fun x y H Q => ∃ a b, x = V.bl a ∧ y = V.bl b ∧ Q (.bl (decide (a = b))) H) := by
  rintro pins s σ H x y v u Q I rx ry ⟨a, b, rfl, rfl, q⟩
  cases rx
  cases ry
  cases a <;> cases b
  · exact wpAny_is_self rfl ⟨.bl true, H, I, rfl, q⟩
  · exact wpAny_is_other rfl (by intro z; cases z) ⟨.bl false, H, I, rfl, q⟩
  · exact wpAny_is_other rfl (by intro z; cases z) ⟨.bl false, H, I, rfl, q⟩
  · exact wpAny_is_self rfl ⟨.bl true, H, I, rfl, q⟩
/-! tuple(l): the tuple has no dict of its own -/
def FrzT (H : Hp) (a : Addr) (xs : List V) : Prop := ∃ o : Obj, H a = some (.frz o (.tup xs)) ∧ o.cls = .type "tuple" ∧ o.dict = none
def rTupF (K : PySem.W.Frag) : List V → Hp → VK → Prop := fun xs H Q => ∃ p ys, xs = [V.ref p] ∧ SqL K H p ys ∧ ∀ l H2, Same H H2 → H l = none → FrzT H2 l ys → Q (.ref l) H2
theorem c_tupF {X : Cx} {K : PySem.W.Frag} (h : X.K = K := by rfl) : CallR X (.type "tuple") (rTupF K) := by
  subst h
  intro pins s σ H xs us Q I r h
  obtain ⟨p, ys, rfl, hq, q⟩ := h
  obtain ⟨u, rfl, rx⟩ := vals1 r
  cases rx
  obtain ⟨its, r', pl, hz⟩ := I.list hq
  have hlen := r'.length
  refine call_tuple_list pl.isList (fun h' kp => ?_) (by simp only [List.size_toArray] <;> omega)
  have I1 : Inv X pins σ H { s with heap := h' } := I.kept (t' := s.toks) kp
  have I2 : Inv X pins σ (upd H h'.objs.size (.frz { cls := .type "tuple", data := .seq its.toArray } (.tup ys))) { s with heap := h'.push { cls := .type "tuple", data := .seq its.toArray } } :=
    I1.laid (t' := s.toks) (fun b o e => Heap.get?_push_of_some _ e) (Nat.le_refl _) (show ObjOk X.prog X.w _ _ _ (.frz _ (.tup ys)) from ⟨Heap.get?_push_size _ rfl, hz, its, r', IsTup.new _ _⟩)
  have nl := I1.hok.fresh (Nat.le_refl h'.objs.size)
  exact ⟨.ref h'.objs.size, _, I2, rfl, q _ _ (Same.new nl) nl ⟨_, upd_same, rfl, rfl⟩⟩
theorem FrzT.sq {K : PySem.W.Frag} {H : Hp} {a : Addr} {xs : List V} (h : FrzT H a xs) : SqT K H a xs := let ⟨o, e, _⟩ := h; .inl (.inr ⟨o, e⟩)
theorem FrzT.same {H H2 : Hp} {a : Addr} {xs : List V} (h : FrzT H a xs) (s : Same H H2) : FrzT H2 a xs := let ⟨o, e, c, d⟩ := h; ⟨o, s _ _ e, c, d⟩
/-! a method of such a tuple -/
def tBMT (r : V → List V → Hp → VK → Prop) (to : TE) (t : L2.TA) : TE := fun σ H Q => to σ H fun x H1 => (∃ a xs, x = V.ref a ∧ FrzT H1 a xs) ∧ t σ H1 fun xs H2 => r x xs H2 Q
theorem pe_bmT {X : Cx} {o e : Expr} {es : List Expr} {to : TE} {t : L2.TA} {name : Str} {apos cpos : Pos} {id : String} {r : V → List V → Hp → VK → Prop} (slot : Slot "tuple" name id) (hty : typeOf (.builtin id) = pure (.type "method_descriptor")) (hm : MtR X id r) (ho : PE X o to) (ha : PA X (e :: es) t)
    (hbase : attributeBase o name X.env (eval o X.env) = eval o X.env := by rfl)
    (hfew : ((backTo cpos (starEach (e :: es) X.env)).all (fun x => !x.1) && (backToKw cpos (keywordEach [] X.env)).all (fun x => x.1.isSome)
      && decide ((e :: es).length + ([] : List Keyword).length + (if ([] : List Keyword).isEmpty then 0 else 1) < 30)) = true := by rfl)
    (hline : (apos.endLine == cpos.line) = true := by rfl) (hs : starEach (e :: es) X.env = (false, eval e X.env) :: starEach es X.env := by rfl) (hplain : (backTo cpos (starEach es X.env)).any (·.1) = false := by rfl) :
    PE X (.Call (.Attribute o name apos) (e :: es) [] cpos) (tBMT r to t) := by
  refine ⟨fun pins s σ H Q I h => ?_⟩
  refine wpAny_Call_method_late hbase hfew hline rfl (thn (ho.run pins s σ H _ I h) fun v s1 ⟨x, H1, I1, r1, ⟨a, ys, ex, ob, hob, hc, hd⟩, q1⟩ => ?_)
  subst ex
  cases r1
  have ho2 := (I1.hok a _ hob).1
  refine ⟨"tuple", id, PySem.F.plainAttrs_tuple, slot, hty, ⟨ob, ho2, hc⟩, fun b eb => by cases eb; exact ⟨ob, ho2, hd⟩, ?_⟩
  have hA := ha.run cpos pins s1 σ H1 _ I1 q1
  rw [hs] at hA ⊢
  refine Calls.callWith_builtin (by show (false || (backTo cpos (starEach es X.env)).any (·.1)) = false; rw [hplain] <;> rfl) (Calls.evalArgs_plain ?_)
  exact thn hA fun us s2 ⟨vs, H2, I2, r2, q2⟩ => hm pins s2 σ H2 (.ref a) vs (.ref a) us Q I2 rfl r2 q2
end WC

set_option maxHeartbeats 4000000
namespace WC
open PySem PySem.Spec PyProof.Rows L2 L2H HotX
/-! enumerate(t), t a tuple, while an error is handled -/
section
variable {prog : Program} {w : World} {A : Around} {E : Value → Shared → Prop} {s : Shared}
theorem next_tup_end_hot {it t x1 : Addr} {i : Nat} {items : Array Value} {Q : Value → Shared → Prop} (hot : HotAt A x1 s.heap) (hi : IsTupIter s.heap it t i) (ht : IsTup s.heap t items) (ho : items[i]? = none)
    (hE : ∀ h2 e, (∀ b o, b ≠ it → s.heap.get? b = some o → h2.get? b = some o) → (∃ o, h2.get? e = some o ∧ o.cls = .type "StopIteration") → E (.ref e) { s with heap := h2 }) : wpAny (model prog w) A (Builtin.SmallTypes.nextOf (.ref it)) Q E s := by
  obtain ⟨hh, oH, vH, gH, dH, cH⟩ := hot
  obtain ⟨oi, gi_, ci, di⟩ := id hi
  obtain ⟨ol, gl, _, nl, dl⟩ := ht
  have x1it : x1 ≠ it := fun z => by
    rw [z, gi_] at gH
    cases gH
    rw [di] at dH
    cases dH
    cases cH
  unfold Builtin.SmallTypes.nextOf
  refine wpAny_bind (wpAny_callSpecial?_slot (name := Str.ofString "__next__") hi.typeIs slot_tupleiter_next (wpAny_call_entry slot_tupleiter_next hi.typeIs entry_tupleiter_next ?_ (args_tupleiter_next _)))
  show wpAny _ _ (field (.ref it) 0 >>= _) _ _ _
  refine wpAny_bind (wpAny_field gi_ di (x := .ref t) rfl ?_)
  show wpAny _ _ (if (Value.ref t == Value.none) = true then _ else _) _ _ _
  rw [if_neg (by simp : ¬ (Value.ref t == Value.none) = true)]
  show wpAny _ _ (field (.ref it) 1 >>= _) _ _ _
  refine wpAny_bind (wpAny_field gi_ di (x := .int i 0) rfl ?_)
  show wpAny _ _ (seqItems? (.ref t) >>= _) _ _ _
  refine wpAny_bind (wpAny_seqItems gl dl ?_)
  simp only [Int.toNat_natCast, ho]
  refine wpAny_bind (wpAny_rule (wpAny_bind (wpAny_setField gi_ di (by simp) ?_)))
  show wpAny _ _ (newExc (.type "StopIteration") [] >>= _) _ _ _
  simp only [newExc, newTuple]
  refine wpAny_bind (wpAny_bind (wpAny_newObj_type ?_ (by size_fits)))
  refine wpAny_bind (m := firstArgMember _ _) (wpAny_of_eq (a := Value.none) (by first | rfl | (simp only [firstArgMember]; rfl)) ?_)
  refine wpAny_newObj_type ?_ (by size_fits)
  have st : ∀ {b : Addr} {o : Obj} {f : Obj → Obj} {u1 u2 : Obj}, b ≠ it → s.heap.get? b = some o → (((s.heap.update it f).push u1).push u2).get? b = some o := fun {b o f u1 u2} n e => Heap.get?_push_of_some _ (Heap.get?_push_of_some _ (by rw [Heap.get?_update_other _ _ (Ne.symm n)]; exact e))
  refine raiseNew_hot ⟨hh, oH, vH, st x1it gH, dH, cH⟩ (Nat.ne_of_lt (Heap.lt_size (Heap.get?_push_of_some _ (by rw [Heap.get?_update_other _ _ (Ne.symm x1it)]; exact gH)))) (Heap.get?_push_size _ rfl) rfl (by first | (simp; done) | (simp; omega)) ?_
  refine hE _ _ (fun b o n e => ?_) ⟨_, Heap.get?_update_self _ (Heap.get?_push_size _ rfl) rfl, rfl⟩
  rw [Heap.get?_update_other _ _ (Nat.ne_of_gt (Heap.lt_size (Heap.get?_push_of_some _ (by rw [Heap.get?_update_other _ _ (Ne.symm n)]; exact e))))]
  exact st n e
end
theorem draws_tupH {prog : Program} {w : World} {A : Around} {it x1 : Addr} {oH : Obj} {vH : Array Value} (hh : A.handled = some (.ref x1)) (dH : oH.data = .fields vH) (cH : vH[2]? = some .none) (t : Addr) (hne : t ≠ it) (x1it : x1 ≠ it) (items : Array Value) :
    Draws prog w A it [it, t, x1] items.size (fun i v => items[i]? = some v) (fun i h => h.IsTupleIter it t i ∧ h.IsTuple t items ∧ h.get? x1 = some oH) where
  live := fun _ _ st => let ⟨o, ho, _⟩ := st.1; ⟨o, ho⟩
  frame := fun _ _ _ st hk => ⟨st.1.at fun o e => hk it (by simp) o e, st.2.1.at fun o e => hk t (by simp) o e, hk x1 (by simp) _ st.2.2⟩
  item := fun i s Q E hi st hQ => by
    refine wpAny_nextOf_tuple_item st.1 st.2.1 (x := items[i]) (by simp [hi]) fun h' hit' hs' => ?_
    exact hQ _ h' s.toks (by simp [hi]) ⟨hit', st.2.1.extBut hs'.extBut hne, (hs'.2 x1 x1it).trans st.2.2⟩ hs'
  done := fun s Q E st hE => next_tup_end_hot ⟨hh, oH, vH, st.2.2, dH, cH⟩ st.1 st.2.1 (by simp) hE
theorem turn_etH {P : Program} {w : World} {K : PySem.W.Frag} {elts : List Expr} {kk : Nat} {tpos : Pos} (a e it : Addr) :
    TurnH P w K (.Tuple elts kk tpos) (ItT K a) [e, it] e (fun i h => (∃ old, IsEnum h e it ((i : Nat) : Int) old) ∧ h.IsTupleIter it a i ∧ e ≠ it) where
  mem := by simp
  obj := fun i h st b hb => by
    obtain ⟨⟨old, he⟩, ⟨o, ho, hc, hd⟩, _⟩ := st
    have q : b = e ∨ b = it := by simpa using hb
    rcases q with z | z
    · refine ⟨_, z ▸ he, fun v q => ?_⟩
      have q : Data.fields _ = Data.cell v := q
      cases q
    · exact ⟨o, z ▸ ho, fun v q => by rw [hd] at q; cases q⟩
  keep := fun i h h2 st k => by
    obtain ⟨⟨old, he⟩, st2, st3⟩ := st
    exact ⟨⟨old, k e (by simp) _ he⟩, st2.at fun o q => k it (by simp) o q, st3⟩
  item := by
    intro X hP hw hK hc i pins s σ H E I hf st hg
    subst hP hw hK
    obtain ⟨⟨old, he⟩, hit, hne⟩ := st
    obtain ⟨xs, x, hq, hx⟩ := hg
    obtain ⟨its, rv, pt, hz⟩ := I.tuple hq
    have pt : s.heap.IsTuple a its.toArray := pt
    have hel : e < s.heap.objs.size := Heap.lt_size he
    have hil : it < s.heap.objs.size := by obtain ⟨_, q, _⟩ := hit; exact Heap.lt_size q
    have nai : a ≠ it := fun z => by
      obtain ⟨o1, q1, c1, _⟩ := pt
      obtain ⟨o2, q2, c2, _⟩ := hit
      rw [z, q2] at q1
      cases q1
      rw [c1] at c2
      injection c2 with c2
      exact absurd c2 (by decide)
    have nae : e ≠ a := fun z => by
      obtain ⟨o1, q1, c1, _⟩ := pt
      have he : s.heap.get? e = some _ := he
      rw [← z, he] at q1
      cases q1
      injection c1 with c1
      exact absurd c1 (by decide)
    have hlt : i < its.toArray.size := by
      have := (List.getElem?_eq_some_iff.mp hx).1
      rw [rv.length] at this
      simpa using this
    obtain ⟨x1, hh, oH, vH, gH, dH, cH⟩ := hc.at I
    have x1it : x1 ≠ it := fun z => by
      obtain ⟨o2, q2, c2, d2⟩ := id hit
      rw [z, q2] at gH
      cases gH
      rw [d2] at dH
      cases dH
      cases cH
    have x1e : e ≠ x1 := fun z => by
      have he : s.heap.get? e = some _ := he
      rw [← z, he] at gH
      cases gH
      cases dH
      cases cH
    refine wpAny_pyNext_enum_itemD (draws_tupH (A := X.A.in1) hh dH cH a nai x1it its.toArray) he ⟨hit, pt, gH⟩ hlt hne (by simp [nae, hne, x1e]) fun u h2 tk hu ho hst hT hsz hk => ?_
    have hu2 : its[i]? = some u := by simpa using hu
    obtain ⟨u2, hu3, ru⟩ := rv.get hx
    rw [hu2] at hu3
    cases hu3
    refine ⟨_, rfl, wpAny_letOwnedTupleGo_enum (s := { s with heap := h2, toks := tk + 1 }) ho fun h3 he3 sb => ?_⟩
    have hT2 : h3.get? s.heap.objs.size = some { cls := .type "tuple", data := .seq #[.int i tk, u] } := (sb.2 _ (Nat.ne_of_gt hel)).trans hT
    have new : ObjOk X.prog X.w (upd H s.heap.objs.size (.tup [.int (i : Nat), x])) h3 s.heap.objs.size (.tup [.int (i : Nat), x]) := ⟨by show 2 ≤ sizeLine; decide, [.int i tk, u], .cons ⟨_, rfl⟩ (.cons ru .nil), ⟨_, hT2, rfl, _, rfl⟩⟩
    have I1 : Inv X pins σ (upd H s.heap.objs.size (.tup [.int (i : Nat), x])) { s with heap := h3, toks := tk + 1 } :=
      I.turnedNew (ch := [e, it]) (fun b ob hb q => (sb.2 b (fun z => hb (by simp [z]))).trans (hk b ob (fun z => hb (by simp [z])) (fun z => hb (by simp [z])) q)) hf (Nat.le_refl _) new
    refine ⟨.ref s.heap.objs.size, _, I1, rfl, ⟨_, x, rfl, I.hok.fresh (Nat.le_refl _), rfl, fun ys hy => by rw [I.tuple_inj hy hq]; exact hx⟩, ⟨⟨u, ?_⟩, hst.1.at fun o q => (sb.2 it (Ne.symm hne)).trans q, hne⟩, fun b hb => ?_⟩
    · have e1 : ((i + 1 : Nat) : Int) = (i : Int) + 1 := by omega
      rw [e1]
      exact he3
    · have q : b = e ∨ b = it := by simpa using hb
      have hb2 : b < s.heap.objs.size := by rcases q with z | z <;> rw [z] <;> assumption
      rw [upd_ne (Nat.ne_of_lt hb2)]
      exact (hf b hb).1
  done := by
    intro X hP hw hK hc i pins s σ H E I hf st hg
    subst hP hw hK
    obtain ⟨⟨old, he⟩, hit, hne⟩ := st
    obtain ⟨xs, hq, hx⟩ := hg
    obtain ⟨its, rv, pt, hz⟩ := I.tuple hq
    have pt : s.heap.IsTuple a its.toArray := pt
    obtain ⟨f0, f1, f2, f3, f4, f5⟩ := hf it (by simp)
    have nai : a ≠ it := fun z => by
      obtain ⟨o1, q1, c1, _⟩ := pt
      obtain ⟨o2, q2, c2, _⟩ := hit
      rw [z, q2] at q1
      cases q1
      rw [c1] at c2
      injection c2 with c2
      exact absurd c2 (by decide)
    have hl := rv.length
    obtain ⟨x1, hot⟩ := hc.at I
    have hn : its.toArray.size ≤ i := by simp; omega
    unfold pyNext
    refine wpAny_bind (wpAny_attempt (wpAny_callSpecial?_slot (name := Str.ofString "__next__") ⟨_, he, rfl⟩ F.slot_enumerate_next (wpAny_call_entry F.slot_enumerate_next ⟨_, he, rfl⟩ F.entry_enumerate_next ?_ (F.args_enumerate_next_1 _))))
    show wpAny _ _ (field (.ref e) 2 >>= _) _ _ _
    refine wpAny_bind (wpAny_field he rfl (x := .ref it) rfl ?_)
    refine wpAny_bind (next_tup_end_hot (A := X.A.in1) hot hit pt (by simp; omega) fun h2 x q1 q2 => ?_)
    obtain ⟨o, ho, hcl⟩ := q2
    refine wpAny_bind (wpAny_isInstance (T := "StopIteration") (b := true) ⟨o, ho, hcl⟩ isSubtype_stop ?_)
    exact wpAny_pure ⟨rfl, I.turned (t' := s.toks) (fun b o hb q => q1 b o hb q) f0 f1 f3 f4 f5⟩
  self := fun A i s Q E st h => let ⟨⟨_, he⟩, _⟩ := st; wpAny_pyIter_enum he h
theorem pi_etH {X : Cx} {e : Expr} {ta : TA} {p pos tpos : Pos} {elts : List Expr} {kk : Nat} (hm : X.mg "enumerate" = none) (ha : PA X [e] ta) (hg : Gl X "enumerate" := by rfl) (hs : starEach [e] X.env = [(false, eval e X.env)] := by rfl) :
    PIH X (.Tuple elts kk tpos) (.Call (.Name "enumerate" p) [e] [] pos) (iET X.K ta) := by
  refine ⟨fun pins s σ H R I h => Call_ (ld_blt I hg hm boot_enumerate (PyProof.Rows.callWith_type1 (thn (ha.run pos pins s σ H _ I h) fun us s1 ⟨vs, H1, I1, r1, a, xs, ex, hq, q⟩ => ?_) hs rfl))⟩
  subst ex
  cases r1 with
  | cons r rr =>
    cases rr
    cases r
    obtain ⟨its, rv, pt, hz⟩ := I1.tuple hq
    have pt : s1.heap.IsTuple a its.toArray := pt
    refine enum1_begins (begins_tuple a its.toArray) pt fun h2 he hit hk => wpAny_pyIter_enum he ?_
    have I2 : Inv X pins σ H1 { s1 with heap := h2 } := I1.kept (t' := s1.toks) hk
    refine ⟨s1.heap.objs.size + 1, [s1.heap.objs.size + 1, s1.heap.objs.size], _, _, H1, rfl, I2, turn_etH a (s1.heap.objs.size + 1) s1.heap.objs.size, ⟨⟨.none, he⟩, ⟨_, hit, rfl, rfl⟩, Nat.succ_ne_self _⟩, fun b hb => ?_, q⟩
    have q : b = s1.heap.objs.size + 1 ∨ b = s1.heap.objs.size := by simpa using hb
    have hle : s1.heap.objs.size ≤ b := by rcases q with z | z <;> rw [z] <;> first | exact Nat.le_add_right _ _ | exact Nat.le_refl _
    exact I1.fpOk hle (I1.hok.fresh hle)
end WC

set_option maxHeartbeats 4000000
namespace WC
open PySem PySem.Spec PyProof.Rows L2 L2H HotX
/-! a local name set to a comprehension, while an error is handled -/
/-- as pe_lcH: what is done with the new list is free (use, Qf) -/
theorem lc_coreH {X : Cx} {elt tg iter : Expr} {ifs : List Expr} {scope : Scope} {own : List (Str × Nat)} {pos pos2 : Pos} {wi : TI} {g : TG} {tt : TT} {te : TE} {use : Option (Value → Sem Unit)} {Qf : Value → Shared → Prop} {pins : List (Addr × Obj)} {s : Shared} {σ : L2.St} {H : Hp} {Q : VK}
    (hc : HotC X) (hN : X.N.Nodup) (I : Inv X pins σ H s) (hi : PIH X tg iter wi) (ok : BlkOk X.N X.env.scope scope own)
    (hg : ∀ (s0 : Shared) (G : Hp) (C : Addr) (cl : List (Str × Addr)) (ip : List Addr) (p : Addr × Obj), HotC { X.blk s0 G scope (compEnvC scope cl C X.env) ip with pn := [p] } → PG { X.blk s0 G scope (compEnvC scope cl C X.env) ip with pn := [p] } tg g)
    (ht : ∀ (s0 : Shared) (G : Hp) (C : Addr) (cl : List (Str × Addr)) (ip : List Addr) (p : Addr × Obj), HotC { X.blk s0 G scope (compEnvC scope cl C X.env) ip with pn := [p] } → PTs { X.blk s0 G scope (compEnvC scope cl C X.env) ip with pn := [p] } ifs tt)
    (he : ∀ (s0 : Shared) (G : Hp) (C : Addr) (cl : List (Str × Addr)) (ip : List Addr) (p : Addr × Obj), HotC { X.blk s0 G scope (compEnvC scope cl C X.env) ip with pn := [p] } → PE { X.blk s0 G scope (compEnvC scope cl C X.env) ip with pn := [p] } elt te)
    (hs : ∀ x, foldedSetIterable iter X.env x = pure x) (h : tLc wi g tt te (own.map (·.2)) σ H Q)
    (hRR : ∀ (L C : Addr) (s2 : Shared) mm (G : Hp), Inv X pins σ G s2 → Q (.ref L) G → s2.heap.Ns C mm → FpOk X pins G C → compPost (model X.prog X.w) X.A X.xe use Qf (.ref L) C (.ok .next) s2) :
    wpAny (model X.prog X.w) X.A (comprehension (.ListComp elt [⟨tg, iter, ifs, 0⟩] scope pos) scope X.env pos2 (newList []) false (eval iter X.env) use) Qf X.xe s := by
  obtain ⟨p, hot, hp⟩ := hc
  have fr : ∀ y ∈ scope.names, y.2 = .free → ∃ c, X.env.cells.lookup y.1 = some c := fun y hy e => (ok.free y hy e).elim (fun k => I.ok.has _ (.inl k)) (fun k => I.ok.has _ (.inr k))
  refine wpAny_comprehension_free (use := use) rfl hs (closure_ok fr) ok.kind (fun y hy e => by rw [ok.uniq y hy, e]) (thn (hi.run pins s σ H _ I h) fun _ sA hx => thn hx fun _ sB hB => ?_)
  obtain ⟨it, ip, tn, J, HB, rfl, IB, T, tB, fB, q⟩ := hB
  refine wpAny_newObj_type (newEnv_comp ?_) (Nat.zero_le _)
  obtain ⟨D, eD⟩ : ∃ D, D = sB.heap.objs.size := ⟨_, rfl⟩
  rw [← eD]
  obtain ⟨W, ⟨m0, w0⟩, turn⟩ := q D (IB.hok.fresh (Nat.le_of_eq eD.symm))
  obtain ⟨sC, eC⟩ : ∃ sC : Shared, sC = { sB with heap := sB.heap.push { cls := .type "list", data := .seq ([] : List Value).toArray } } := ⟨_, rfl⟩
  have pC : sC.heap = sB.heap.push { cls := .type "list", data := .seq ([] : List Value).toArray } := by rw [eC]
  have IC : Inv X pins σ (upd HB D (.lst [])) sC := by
    rw [eC]
    exact IB.laid (t' := sB.toks) (fun b o e => Heap.get?_push_of_some _ e) (Nat.le_of_eq eD.symm) ⟨Nat.zero_le _, [], 0, .nil, by rw [eD]; exact Heap.get?_push_size _ rfl⟩
  have low : ∀ b ∈ ip, b < D := fun b hb => by
    obtain ⟨o, e, _⟩ := T.obj _ _ tB b hb
    rw [eD]
    exact Heap.lt_size e
  have fC : ∀ b ∈ ip, FpOk X pins (upd HB D (.lst [])) b ∧ b < sC.heap.objs.size := fun b hb => by
    refine ⟨⟨by rw [upd_ne (Nat.ne_of_lt (low b hb))]; exact (fB b hb).1, (fB b hb).2⟩, ?_⟩
    rw [pC, Heap.size_push, ← eD]
    exact Nat.lt_succ_of_lt (low b hb)
  have tC : tn 0 sC.heap := T.keep _ _ _ tB fun b _ o e => by rw [pC]; exact Heap.get?_push_of_some _ e
  have ID := block_start IC ok hN fC
  have kg := hg sC (upd HB D (.lst [])) sC.heap.objs.size (cellsFrom (sC.heap.objs.size + 1) scope.names (cloFrom X.env.cells scope.names [])) ip p ⟨p, hot, List.mem_singleton.mpr rfl⟩
  have kt := ht sC (upd HB D (.lst [])) sC.heap.objs.size (cellsFrom (sC.heap.objs.size + 1) scope.names (cloFrom X.env.cells scope.names [])) ip p ⟨p, hot, List.mem_singleton.mpr rfl⟩
  have ke := he sC (upd HB D (.lst [])) sC.heap.objs.size (cellsFrom (sC.heap.objs.size + 1) scope.names (cloFrom X.env.cells scope.names [])) ip p ⟨p, hot, List.mem_singleton.mpr rfl⟩
  -- the handled exception's object
  have hpC := IC.pin p (List.mem_append_left _ hp)
  have pFs : p.1 ∉ frs X.stack := fun hm => (List.mem_cons.mp (IC.stkSub p.1 hm)).elim hpC.2.2.1 hpC.2.2.2.1
  have pIp : ∀ b ∈ ip, p.1 ≠ b := fun b hb => (fC b hb).1.2.2.2.2.2 p (List.mem_append_left _ hp)
  rw [← eC]
  show codeAny _ _ (.compStart (.ListComp elt [⟨tg, iter, ifs, 0⟩] scope pos) 0 (.ref it) (.ref D) (compEnvC scope (cellsFrom (sC.heap.objs.size + 1) scope.names (cloFrom X.env.cells scope.names [])) sC.heap.objs.size X.env)) (compPost (model X.prog X.w) X.A X.xe use Qf (.ref D) sC.heap.objs.size) { sC with heap := pushCells (sC.heap.push { cls := .type "dict", data := .dict #[] }) scope.names }
  obtain ⟨ce, ece⟩ : ∃ ce, ce = compEnvC scope (cellsFrom (sC.heap.objs.size + 1) scope.names (cloFrom X.env.cells scope.names [])) sC.heap.objs.size X.env := ⟨_, rfl⟩
  have ceL : ce.locals = sC.heap.objs.size := by rw [ece]; rfl
  obtain ⟨HC, eHC⟩ : ∃ HC, HC = upd HB D (.lst []) := ⟨_, rfl⟩
  obtain ⟨sD, eSD⟩ : ∃ sD : Shared, sD = { sC with heap := pushCells (sC.heap.push { cls := .type "dict", data := .dict #[] }) scope.names } := ⟨_, rfl⟩
  rw [← ece, ← eHC] at kg kt ke
  rw [← ece, ← eHC, ← eSD] at ID
  rw [← eHC] at IC fC w0 hpC
  rw [← ece, ← eSD]
  have kp : ∀ {b : Addr} {o : Obj}, sC.heap.get? b = some o → sD.heap.get? b = some o := fun {b o} e => by rw [eSD]; exact pushCells_keeps _ _ _ _ (Heap.get?_push_of_some _ e)
  have tD : tn 0 sD.heap := T.keep _ _ _ tC fun b _ o e => kp e
  -- the block with the handled exception among its own pins
  obtain ⟨Y, eY⟩ : ∃ Y : Cx, Y = { X.blk sC HC scope ce ip with pn := [p] } := ⟨_, rfl⟩
  have toY : ∀ {ps : List (Addr × Obj)} {τ : L2.St} {G : Hp} {s' : Shared}, Inv (X.blk sC HC scope ce ip) (p :: ps) τ G s' → Inv Y ps τ G s' := fun {ps τ G s'} Z => by
    rw [eY]
    exact ⟨⟨Z.ok.mod, Z.ok.kind, Z.ok.glob, Z.ok.blt, Z.ok.above, Z.ok.inj, Z.ok.has, Z.ok.cab, Z.ok.hd, Z.ok.frames, Z.ok.stk, Z.ok.exf, Z.ok.bs, Z.ok.bsz, Z.ok.noex, Z.ok.exfs, Z.ok.funs, Z.ok.frf⟩, Z.os, Z.bare, Z.base, Z.loc, Z.cell, Z.free, Z.freeC, Z.pin, Z.hok, Z.len⟩
  have ofY : ∀ {ps : List (Addr × Obj)} {τ : L2.St} {G : Hp} {s' : Shared}, Inv Y ps τ G s' → Inv (X.blk sC HC scope ce ip) (p :: ps) τ G s' := fun {ps τ G s'} Z => by
    rw [eY] at Z
    exact ⟨⟨Z.ok.mod, Z.ok.kind, Z.ok.glob, Z.ok.blt, Z.ok.above, Z.ok.inj, Z.ok.has, Z.ok.cab, Z.ok.hd, Z.ok.frames, Z.ok.stk, Z.ok.exf, Z.ok.bs, Z.ok.bsz, Z.ok.noex, Z.ok.exfs, Z.ok.funs, Z.ok.frf⟩, Z.os, Z.bare, Z.base, Z.loc, Z.cell, Z.free, Z.freeC, Z.pin, Z.hok, Z.len⟩
  have toZ : ∀ {ps : List (Addr × Obj)} {τ : L2.St} {G : Hp} {s' : Shared}, Inv (X.blk sC HC scope ce ip) (p :: ps) τ G s' → Inv { X.blk sC HC scope ce ip with pn := [p] } ps τ G s' := fun {ps τ G s'} Z => by
    have W := toY Z
    rw [eY] at W
    exact W
  have ofZ : ∀ {ps : List (Addr × Obj)} {τ : L2.St} {G : Hp} {s' : Shared}, Inv { X.blk sC HC scope ce ip with pn := [p] } ps τ G s' → Inv (X.blk sC HC scope ce ip) (p :: ps) τ G s' := fun {ps τ G s'} Z => ofY (by rw [eY]; exact Z)
  have hotY : HotC Y := by
    rw [eY]
    exact ⟨p, hot, List.mem_singleton.mpr rfl⟩
  have I0 : Inv (X.blk sC HC scope ce ip) [p] (wipe σ (own.map (·.2))) HC sD := ⟨ID.ok, ID.os, ID.bare, ID.base, ID.loc, ID.cell, ID.free, ID.freeC, fun z hz => by
    have ez : z = p := by
      rcases List.mem_append.mp hz with m | m
      · cases m
      · exact List.mem_singleton.mp m
    subst ez
    refine ⟨kp hpC.1, hpC.2.1, ?_, pFs, hpC.2.2.2.2⟩
    show z.1 ≠ ce.locals
    rw [ceL]
    exact Nat.ne_of_lt (Heap.lt_size hpC.1), ID.hok, ID.len⟩
  have okF : ∀ {τ : L2.St} {G : Hp} {s' : Shared}, Inv (X.blk sC HC scope ce ip) [p] τ G s' → (∀ b ∈ ip, G b = none) → ∀ b ∈ ip, FpOk Y [] G b := fun {τ G s'} Z zn b hb => by
    rw [eY]
    exact ⟨zn b hb, (Z.ok.exf b hb).1, Z.ok.exfs b hb, .inl hb, fun x c e => (Z.ok.exf b hb).2 x c e, fun z hz => by
      rcases List.mem_append.mp hz with m | m
      · rw [List.mem_singleton.mp m]; exact pIp b hb
      · cases m⟩
  have TY : TurnH Y.prog Y.w Y.K tg J ip it tn := by
    rw [eY]
    exact T
  have YA : Y.A = X.A := by rw [eY]
  have Ym : Y.prog = X.prog ∧ Y.w = X.w ∧ Y.K = X.K := by rw [eY]; exact ⟨rfl, rfl, rfl⟩
  have loop : codeAny (model X.prog X.w) X.A (.compLoop (.ListComp elt [⟨tg, iter, ifs, 0⟩] scope pos) 0 (.ref it) (.ref D) ce) (compPost (model X.prog X.w) X.A X.xe use Qf (.ref D) sC.heap.objs.size) sD := by
    refine compLoop_any (fun m s' => ∃ i G, Inv (X.blk sC HC scope ce ip) [p] (wipe σ (own.map (·.2))) G s' ∧ tn i s'.heap ∧ (∀ b ∈ ip, G b = none) ∧ W i m G) ?_ m0 ⟨0, HC, I0, tD, fun b hb => (fC b hb).1.1, w0⟩
    rintro m s5 ⟨i, G5, I5, t5, n5, w5⟩
    rcases turn i m G5 w5 with ⟨stop, qq⟩ | ⟨go, Nx, hNx, step⟩
    · have td := T.done Y Ym.1 Ym.2.1 Ym.2.2 hotY i [] s5 _ G5 (fun _ _ => False) (toY I5) (okF I5 n5) t5 stop
      rw [YA] at td
      refine thnF td fun r s6 ⟨er, J6⟩ => ?_
      subst er
      have I6 := ofY J6
      have I7 : Inv X pins σ G5 s6 := IC.call' (ch := ip) I6.os I6.base I6.hok I6.bare fun b hb => ⟨(fC b hb).1.2.2.2.1, (fC b hb).1.2.1, (fC b hb).1.2.2.2.2.1, (fC b hb).1.2.2.2.2.2⟩
      have nC : G5 sC.heap.objs.size = none := by
        rw [← ceL]
        exact I6.free
      obtain ⟨mm, hn, _⟩ := I6.loc
      have hn : s6.heap.Ns sC.heap.objs.size mm := by rw [← ceL]; exact hn
      exact hRR D _ s6 mm G5 I7 qq hn (IC.fpOk (Nat.le_refl _) nC)
    · have tv := T.item Y Ym.1 Ym.2.1 Ym.2.2 hotY i [] s5 _ G5 (fun _ _ => False) (toY I5) (okF I5 n5) t5 go
      rw [YA] at tv
      refine thnF tv fun r s6 ⟨u, er, h6⟩ => ?_
      subst er
      refine thnF h6 fun _ s7 ⟨x, G7, J7, r7, y7, t7, n7⟩ => ?_
      have I7 := ofY ((J7).pinned (okF (ofY J7) n7) (T.obj _ _ t7))
      refine thnF (kg.run _ s7 _ G7 x u _ (toZ I7) r7 (step x G7 y7)) fun _ s8 ⟨τ8, G8, J8, hw8, q8⟩ => ?_
      refine thnF (kt.run _ s8 τ8 G8 _ J8 q8) fun b s9 ⟨G9, J9, q9⟩ => ?_
      have I9 := ofZ J9
      have close : ∀ {s' : Shared} {G' : Hp}, Inv (X.blk sC HC scope ce ip) (p :: ([] ++ pinsAt ip s7.heap)) τ8 G' s' → Nx G' → ∃ m', m' < m ∧ ∃ i G, Inv (X.blk sC HC scope ce ip) [p] (wipe σ (own.map (·.2))) G s' ∧ tn i s'.heap ∧ (∀ b ∈ ip, G b = none) ∧ W i m' G := fun {s' G'} Z nx => by
        obtain ⟨m', lt, w'⟩ := hNx G' nx
        have at_ : ∀ b ∈ ip, ∀ o, s7.heap.get? b = some o → s'.heap.get? b = some o ∧ G' b = none := fun b hb o e =>
          ⟨(Z.pin (b, o) (List.mem_append_right _ (List.mem_cons_of_mem _ (List.mem_append_right _ (mem_pinsAt hb e))))).1, (Z.pin (b, o) (List.mem_append_right _ (List.mem_cons_of_mem _ (List.mem_append_right _ (mem_pinsAt hb e))))).2.1⟩
        have Z1 : Inv (X.blk sC HC scope ce ip) ([p] ++ pinsAt ip s7.heap) τ8 G' s' := Z
        refine ⟨m', lt, i + 1, G', (Z1.unpinned (pins := [p])).weak (by rw [← hw8, wipe_length]) (fun j v e => ?_), T.keep _ _ _ t7 fun b hb o e => (at_ b hb o e).1, fun b hb => ?_, w'⟩
        · rw [← hw8] at e
          exact (wipe_some e).1
        · obtain ⟨o, e, _⟩ := T.obj _ _ t7 b hb
          exact (at_ b hb o e).2
      cases b with
      | false => exact close I9 q9
      | true =>
        simp only [if_true] at q9 ⊢
        refine thnF (ke.run _ s9 τ8 G9 _ J9 q9) fun z sX ⟨yv, GX, JX, rX, acc, dX, lX, nx⟩ => ?_
        have IX := ofZ JX
        exact app_ok (X := X.blk sC HC scope ce ip) IX dX lX rX fun sY IY => close IY nx
  exact codeAny_compStart_list loop (T.self X.A 0 _ _ _ tD loop)
theorem ps_setLcH {X : Cx} {i : Nat} {y : Str} {py : Pos} {elt tg iter : Expr} {ifs : List Expr} {scope : Scope} {own : List (Str × Nat)} {pos spos : Pos} {wi : TI} {g : TG} {tt : TT} {te : TE}
    (hc : HotC X) (hN : X.N.Nodup) (hy : X.N[i]? = some y) (hyl : X.env.scope.names.lookup y = some .local) (hsw : swapsWith (.ListComp elt [⟨tg, iter, ifs, 0⟩] scope pos) (some (.Name y py)) spos.line X.env = pure true) (hi : PIH X tg iter wi) (ok : BlkOk X.N X.env.scope scope own)
    (hg : ∀ (s0 : Shared) (G : Hp) (C : Addr) (cl : List (Str × Addr)) (ip : List Addr) (p : Addr × Obj), HotC { X.blk s0 G scope (compEnvC scope cl C X.env) ip with pn := [p] } → PG { X.blk s0 G scope (compEnvC scope cl C X.env) ip with pn := [p] } tg g)
    (ht : ∀ (s0 : Shared) (G : Hp) (C : Addr) (cl : List (Str × Addr)) (ip : List Addr) (p : Addr × Obj), HotC { X.blk s0 G scope (compEnvC scope cl C X.env) ip with pn := [p] } → PTs { X.blk s0 G scope (compEnvC scope cl C X.env) ip with pn := [p] } ifs tt)
    (he : ∀ (s0 : Shared) (G : Hp) (C : Addr) (cl : List (Str × Addr)) (ip : List Addr) (p : Addr × Obj), HotC { X.blk s0 G scope (compEnvC scope cl C X.env) ip with pn := [p] } → PE { X.blk s0 G scope (compEnvC scope cl C X.env) ip with pn := [p] } elt te)
    (hs : ∀ x, foldedSetIterable iter X.env x = pure x := by intro _; rfl) : PS X (.Assign [.Name y py] (.ListComp elt [⟨tg, iter, ifs, 0⟩] scope pos) spos) (tAsg (tLc wi g tt te (own.map (·.2))) (gName i)) :=
  ⟨fun pins s σ H D I h => by
    have h2 : tLc wi g tt te (own.map (·.2)) σ H (fun x G => gName i x σ G D.nx) := h
    have stored : ∀ (L C : Addr) (s2 : Shared) mm (G : Hp), Inv X pins σ G s2 → (gName i (.ref L) σ G D.nx) → s2.heap.Ns C mm → FpOk X pins G C → compPost (model X.prog X.w) X.A X.xe (some (assign (.Name y py) X.env)) (fun _ t => SP X pins D .next t) (.ref L) C (.ok .next) s2 := fun L C s2 mm G J q ns ⟨p0, p1, p2, p3, p4, p5⟩ =>
      wpAny_assign_Name (store_ok2 (v := V.ref L) J hN hy (.inl hyl) rfl (fun s3 J3 ⟨a, sb, ha⟩ =>
        have ca : C ≠ a := ha.elim (fun z => by rw [z]; exact p1) fun z e => p4 y a z e.symm
        ⟨mm, ns.sameBut sb ca, fun g4 sb4 => ⟨_, G, J3.turned (t' := s3.toks) (fun b o nb e => (sb4.2 b nb).trans e) p0 p1 p3 p4 p5, q⟩⟩) (.inr hyl))
    rw [exec_Assign_Name_used _ _ _ _ hsw]
    refine wpAny_bind (wpAny_standAt (wpAny_bind (wpAny_bind (thn (lc_coreH hc hN I hi ok hg ht he hs h2 stored) fun _ t qt => wpAny_pure (wpAny_pure qt)))))⟩
end WC

set_option maxHeartbeats 4000000
/-! sorted of triples of ints, any number of them -/
namespace WC
open PySem PySem.Spec PyProof.Rows L2 SrtO Srt
abbrev I3 := Int × Int × Int
/-- by the first, then the second, then the third -/
def lex3 (p q : I3) : Bool := if p.1 = q.1 then (if p.2.1 = q.2.1 then decide (p.2.2 < q.2.2) else decide (p.2.1 < q.2.1)) else decide (p.1 < q.1)
theorem lex3_iff {p q : I3} : lex3 p q = true ↔ p.1 < q.1 ∨ (p.1 = q.1 ∧ (p.2.1 < q.2.1 ∨ (p.2.1 = q.2.1 ∧ p.2.2 < q.2.2))) := by
  unfold lex3
  by_cases e : p.1 = q.1
  · rw [if_pos e]
    by_cases e2 : p.2.1 = q.2.1
    · rw [if_pos e2, decide_eq_true_eq]; omega
    · rw [if_neg e2, decide_eq_true_eq]; omega
  · rw [if_neg e, decide_eq_true_eq]; omega
theorem lex3_no {p q : I3} : lex3 p q = false ↔ ¬ (p.1 < q.1 ∨ (p.1 = q.1 ∧ (p.2.1 < q.2.1 ∨ (p.2.1 = q.2.1 ∧ p.2.2 < q.2.2)))) := by
  rw [← lex3_iff]
  cases lex3 p q <;> simp
theorem swo3 {α : Type} (k : α → I3) : Swo fun v u => lex3 (k v) (k u) := by
  refine ⟨fun x y h => ?_, fun x y z h1 h2 => ?_⟩
  · have a := lex3_iff.mp h
    exact lex3_no.mpr (by omega)
  · have a := lex3_no.mp h1
    have b := lex3_no.mp h2
    exact lex3_no.mpr (by omega)
/-- v is a tuple of the three ints c -/
def IsTri (h : Heap) (v : Value) (c : I3) : Prop := ∃ a o t u r n, v = Value.ref a ∧ h.get? a = some o ∧ o.cls = .type "tuple" ∧ o.data = .seq #[.int c.1 t, .int c.2.1 u, .int c.2.2 r] n
theorem IsTri.keeps {h h' : Heap} {v : Value} {c : I3} (x : IsTri h v c) (k : ∀ b o, h.get? b = some o → o.cls = .type "tuple" → h'.get? b = some o) : IsTri h' v c := by
  obtain ⟨a, o, t, u, r, n, e, ho, hc, hd⟩ := x
  exact ⟨a, o, t, u, r, n, e, k a o ho hc, hc, hd⟩
section
variable {prog : Program} {w : World} {A : Around} {E : Value → Shared → Prop} {s : Shared}
theorem tri_cmp {vs : List Value} {k : Value → I3} (hp : ∀ v ∈ vs, IsTri s.heap v (k v)) : Cmp prog w A s (tuples' true) (fun p => p.1 ∈ vs) (lt2 fun v u => lex3 (k v) (k u)) := by
  intro p q hm hm'
  have h1 := hp _ hm
  have h2 := hp _ hm'
  show wpAny (model prog w) A (keyLt' (tuples' true) p.1 q.1) (fun r s' => s' = s ∧ r = lex3 (k p.1) (k q.1)) (fun _ _ => False) s
  unfold lex3
  generalize k p.1 = kp at h1 ⊢
  generalize k q.1 = kq at h2 ⊢
  obtain ⟨x, y, z⟩ := kp
  obtain ⟨x', y', z'⟩ := kq
  obtain ⟨a, o, t, u, r, n, e, ho, hc, hd⟩ := h1
  obtain ⟨a', o', t', u', r', n', e', ho', hc', hd'⟩ := h2
  rw [e, e']
  refine PySem.W.kat_lt ho hd ho' hd' ?_
  show PySem.W.KatLex prog w A true (decide (3 < 3)) _ [(.int x t, .int x' t'), (.int y u, .int y' u'), (.int z r, .int z' r')] 0 s
  dsimp only
  refine PySem.W.kat_cons (SeqAt.EqAt.int_int x t x' t' prog w _ _ ?_)
  refine PySem.W.kat_go (fun e1 => ?_) (fun e1 => ?_)
  · have ex : x = x' := by simpa using e1
    rw [if_pos ex]
    refine PySem.W.kat_yes (PySem.W.kat_cons (SeqAt.EqAt.int_int y u y' u' prog w _ _ ?_))
    refine PySem.W.kat_go (fun e2 => ?_) (fun e2 => ?_)
    · have ey : y = y' := by simpa using e2
      rw [if_pos ey]
      refine PySem.W.kat_yes (PySem.W.kat_cons (SeqAt.EqAt.int_int z r z' r' prog w _ _ ?_))
      refine PySem.W.kat_go (fun e3 => ?_) (fun e3 => ?_)
      · have ez : z = z' := by simpa using e3
        exact PySem.W.kat_yes (PySem.W.kat_nil ⟨rfl, (decide_eq_false (by omega)).symm⟩)
      · exact PySem.W.kat_no (PySem.W.kat_one _ _ (PyProof.Rows.lt_int ⟨rfl, rfl⟩))
    · have ey : ¬ y = y' := by simpa using e2
      rw [if_neg ey]
      exact PySem.W.kat_no (PySem.W.kat_one _ _ (PyProof.Rows.lt_int ⟨rfl, rfl⟩))
  · have ex : ¬ x = x' := by simpa using e1
    rw [if_neg ex]
    exact PySem.W.kat_no (oneLt_int ⟨rfl, rfl⟩)
theorem tri_firsts {h : Heap} : ∀ {vs : List Value}, (∀ v ∈ vs, ∃ c, IsTri h v c) → ∃ fs, PySem.W.KatTups h vs fs ∧ fs.length = vs.length ∧ ∀ f ∈ fs, ∃ x t, f = Value.int x t
  | [], _ => ⟨[], .nil, rfl, fun f hf => by cases hf⟩
  | v :: vs, hv => by
    obtain ⟨fs, h1, h2, h3⟩ := tri_firsts (vs := vs) fun u hu => hv u (List.mem_cons_of_mem _ hu)
    obtain ⟨c, a, o, t, u, r, n, e, ho, hc, hd⟩ := hv v List.mem_cons_self
    subst e
    refine ⟨.int c.1 t :: fs, .cons ho hc hd rfl h1, by rw [List.length_cons, List.length_cons, h2], fun f hf => ?_⟩
    rcases List.mem_cons.mp hf with e | hf
    · exact ⟨_, _, e⟩
    · exact h3 f hf
theorem tris_sortable {a : Addr} {vs : List Value} {k : Value → I3} (h0 : 0 < vs.length) (hp : ∀ v ∈ vs, IsTri s.heap v (k v)) (ha : ∀ o, s.heap.get? a = some o → o.cls ≠ .type "tuple") : SortableO prog w A s a vs fun v u => lex3 (k v) (k u) := by
  intro h' keep
  have hp' : ∀ v ∈ vs, IsTri h' v (k v) := fun v hm => (hp v hm).keeps fun b o e c => keep b o (fun z => by subst z; exact ha o e c) e
  obtain ⟨fs, h1, h2, h3⟩ := tri_firsts fun v hm => ⟨_, hp' v hm⟩
  refine ⟨tuples' true, fun Q E hq => ?_, tri_cmp hp'⟩
  refine PySem.W.kat_kind (T := .type "int") h1 (by omega) (fun f hm => ?_) (by rfl) ?_
  · obtain ⟨x, t, rfl⟩ := h3 f hm
    exact PySem.W.Looks.now
  · rw [show (Value.type "int" != Value.type "tuple") = true from by first | rfl | decide]
    exact hq
theorem sorted_tris {l : Addr} {vs : List Value} {k : Value → I3} {Q : Value → Shared → Prop} (hl : s.heap.IsList l vs.toArray) (hz : vs.length ≤ sizeLine) (hp : ∀ v ∈ vs, IsTri s.heap v (k v))
    (h : ∀ (h' : Heap) (d : Addr) (out : List Value), Srtd (fun v u => lex3 (k v) (k u)) out → Stb (fun v u => lex3 (k v) (k u)) out vs → (∀ b o, s.heap.get? b = some o → h'.get? b = some o) → s.heap.objs.size ≤ d → (∃ n, h'.get? d = some (seqObj "list" out.toArray n)) → Q (.ref d) { s with heap := h' }) :
    wpAny (model prog w) A (call (.builtin "sorted") [.ref l]) Q E s := by
  refine sorted_ord (swo3 k) hl hz (fun h2 h₁ a ha kk => ?_) fun out hs hb => ?_
  · refine tris_sortable (s := { s with heap := h₁ }) (by omega) (fun v hm => (hp v hm).keeps fun b o e _ => (kk b o e).2) fun o e => ?_
    rw [ha] at e
    cases e
    exact fun hcls => (by decide : ¬ ("list" : String) = "tuple") (Value.type.inj hcls)
  · exact h _ _ out hs hb (fun _ _ eu => sortedAll_old eu) (Nat.le_succ s.heap.objs.size) (sortedAll_at s.heap vs out.toArray)
end
/-- sorted(xs), xs a list of triples of ints (k says which): a new list of the same, none before a smaller one -/
def rSort3 (K : PySem.W.Frag) : List V → Hp → VK → Prop := fun vs H Q => ∃ (a : Addr) (xs : List V) (k : V → I3), vs = [V.ref a] ∧ SqL K H a xs ∧ (∀ x ∈ xs, ∃ t, x = V.ref t ∧ H t = some (.tup [.int (k x).1, .int (k x).2.1, .int (k x).2.2])) ∧
  ∀ (ys : List V) (p : Addr), ys.Perm xs → ys.Pairwise (fun x y => lex3 (k y) (k x) = false) → H p = none → Q (.ref p) (upd H p (.lst ys))
theorem cr_sort3 {X : Cx} {K : PySem.W.Frag} (hK : X.K = K := by rfl) : CallR X (.builtin "sorted") (rSort3 K) := by
  subst hK
  intro pins s σ H vs us Q I r h
  obtain ⟨a, xs, k, rfl, hs, hx, q⟩ := h
  obtain ⟨its, rv, hl, hz⟩ := I.list hs
  rw [Vals.ref1 r]
  obtain ⟨e1, e2⟩ := bkV_refs rv fun x m => by
    obtain ⟨t, e, _⟩ := hx x m
    exact ⟨t, e⟩
  refine sorted_tris (k := fun u => k (bkV u)) hl.isList (by rw [← rv.length]; exact hz) (fun v hv => ?_) fun h' d out h1 h2 kp hd hn => ?_
  · obtain ⟨t, rfl⟩ := e2 v hv
    have hm : V.ref t ∈ xs := by rw [e1]; exact List.mem_map.mpr ⟨_, hv, rfl⟩
    obtain ⟨t', e, ht⟩ := hx _ hm
    cases e
    obtain ⟨_, its2, r2, o, ho, hc, n, hd⟩ := (show ObjOk X.prog X.w H s.heap t (.tup _) from I.hok _ _ ht)
    cases r2 with
    | cons a1 r3 =>
      cases r3 with
      | cons a2 r4 =>
        cases r4 with
        | cons a3 r5 =>
          cases r5
          obtain ⟨t1, rfl⟩ := a1
          obtain ⟨t2, rfl⟩ := a2
          obtain ⟨t3, rfl⟩ := a3
          exact ⟨t, o, t1, t2, t3, n, rfl, ho, hc, hd⟩
  · have rf : ∀ u ∈ out, ∃ r, u = Value.ref r := fun u hu => e2 u ((h2.perm.mem_iff).mp hu)
    obtain ⟨n, hn⟩ := hn
    have hp : (out.map bkV).Perm xs := by
      rw [e1]
      exact h2.perm.map bkV
    refine ⟨.ref d, upd H d (.lst (out.map bkV)), I.laid (t' := s.toks) kp hd ⟨by rw [hp.length_eq]; exact hz, out, n, bkV_vals rf, hn⟩, rfl, q _ d hp ?_ (I.hok.fresh hd)⟩
    rw [List.pairwise_map]
    exact h1
end WC

set_option maxHeartbeats 4000000
/-! sorted of pairs of a text and an int, any number of them -/
namespace WC
open PySem PySem.Spec PyProof.Rows L2 SrtO Srt
abbrev SI := PySem.Str × Int
abbrev sl (a b : PySem.Str) : Prop := a.cps.toList < b.cps.toList
theorem sl_irr (a : PySem.Str) : ¬ sl a a := List.lt_irrefl _
theorem sl_asym {a b : PySem.Str} (h : sl a b) : ¬ sl b a := List.lt_asymm h
theorem sl_tri {a b : PySem.Str} (h1 : ¬ sl a b) (h2 : ¬ sl b a) : a = b := by
  have e : a.cps.toList = b.cps.toList := List.le_antisymm (List.not_lt.mp h2) (List.not_lt.mp h1)
  obtain ⟨x⟩ := a
  obtain ⟨y⟩ := b
  exact congrArg PySem.Str.mk (Array.toList_inj.mp e)
theorem sl_tr {a b c : PySem.Str} (h1 : sl a b) (h2 : sl b c) : sl a c := List.lt_trans h1 h2
/-- by the text, then the number -/
def lexSI (p q : SI) : Bool := if p.1 = q.1 then decide (p.2 < q.2) else decide (sl p.1 q.1)
theorem lexSI_iff {p q : SI} : lexSI p q = true ↔ sl p.1 q.1 ∨ (p.1 = q.1 ∧ p.2 < q.2) := by
  unfold lexSI
  by_cases e : p.1 = q.1
  · rw [if_pos e, decide_eq_true_eq]
    refine ⟨fun h => .inr ⟨e, h⟩, fun h => h.elim (fun z => absurd (e ▸ z) (sl_irr _)) fun z => z.2⟩
  · rw [if_neg e, decide_eq_true_eq]
    exact ⟨.inl, fun h => h.elim id fun z => absurd z.1 e⟩
theorem lexSI_no {p q : SI} : lexSI p q = false ↔ ¬ (sl p.1 q.1 ∨ (p.1 = q.1 ∧ p.2 < q.2)) := by
  rw [← lexSI_iff]
  cases lexSI p q <;> simp
theorem swoSI {α : Type} (k : α → SI) : Swo fun v u => lexSI (k v) (k u) := by
  refine ⟨fun x y h => lexSI_no.mpr ?_, fun x y z h1 h2 => lexSI_no.mpr ?_⟩
  · rcases lexSI_iff.mp h with a | ⟨a, b⟩
    · rintro (c | ⟨c, _⟩)
      · exact sl_asym a c
      · rw [c] at a; exact sl_irr _ a
    · rintro (c | ⟨c, d⟩)
      · rw [a] at c; exact sl_irr _ c
      · omega
  · have a := lexSI_no.mp h1
    have b := lexSI_no.mp h2
    rintro (c | ⟨c, d⟩)
    · by_cases e : sl (k z).1 (k y).1
      · exact b (.inl e)
      · by_cases f : sl (k y).1 (k z).1
        · exact a (.inl (sl_tr f c))
        · have g := sl_tri e f
          exact a (.inl (by rw [← g]; exact c))
    · by_cases e : sl (k z).1 (k y).1
      · exact b (.inl e)
      · by_cases f : sl (k y).1 (k z).1
        · exact a (.inl (by rw [← c]; exact f))
        · have g := sl_tri e f
          have h3 : ¬ (k y).2 < (k x).2 := fun q => a (.inr ⟨by rw [← g]; exact c, q⟩)
          have h4 : ¬ (k z).2 < (k y).2 := fun q => b (.inr ⟨g, q⟩)
          omega
/-- v is the pair c -/
def IsSI (h : Heap) (v : Value) (c : SI) : Prop := ∃ a o t u n, v = Value.ref a ∧ h.get? a = some o ∧ o.cls = .type "tuple" ∧ o.data = .seq #[.str c.1 t, .int c.2 u] n
theorem IsSI.keeps {h h' : Heap} {v : Value} {c : SI} (x : IsSI h v c) (k : ∀ b o, h.get? b = some o → o.cls = .type "tuple" → h'.get? b = some o) : IsSI h' v c := by
  obtain ⟨a, o, t, u, n, e, ho, hc, hd⟩ := x
  exact ⟨a, o, t, u, n, e, k a o ho hc, hc, hd⟩
section
variable {prog : Program} {w : World} {A : Around} {E : Value → Shared → Prop} {s : Shared}
theorem si_cmp {vs : List Value} {k : Value → SI} (hp : ∀ v ∈ vs, IsSI s.heap v (k v)) : Cmp prog w A s (tuples' true) (fun p => p.1 ∈ vs) (lt2 fun v u => lexSI (k v) (k u)) := by
  intro p q hm hm'
  have h1 := hp _ hm
  have h2 := hp _ hm'
  show wpAny (model prog w) A (keyLt' (tuples' true) p.1 q.1) (fun r s' => s' = s ∧ r = lexSI (k p.1) (k q.1)) (fun _ _ => False) s
  unfold lexSI
  generalize k p.1 = kp at h1 ⊢
  generalize k q.1 = kq at h2 ⊢
  obtain ⟨x, y⟩ := kp
  obtain ⟨x', y'⟩ := kq
  obtain ⟨a, o, t, u, n, e, ho, hc, hd⟩ := h1
  obtain ⟨a', o', t', u', n', e', ho', hc', hd'⟩ := h2
  rw [e, e']
  refine PySem.W.kat_lt ho hd ho' hd' ?_
  show PySem.W.KatLex prog w A true (decide (2 < 2)) _ [(.str x t, .str x' t'), (.int y u, .int y' u')] 0 s
  dsimp only
  refine PySem.W.kat_cons (SeqAt.EqAt.str_str x t x' t' prog w _ _ ?_)
  refine PySem.W.kat_go (fun e1 => ?_) (fun e1 => ?_)
  · have ex : x = x' := by simpa using e1
    rw [if_pos ex]
    refine PySem.W.kat_yes (PySem.W.kat_cons (SeqAt.EqAt.int_int y u y' u' prog w _ _ ?_))
    refine PySem.W.kat_go (fun e2 => ?_) (fun e2 => ?_)
    · have ey : y = y' := by simpa using e2
      exact PySem.W.kat_yes (PySem.W.kat_nil ⟨rfl, (decide_eq_false (by omega)).symm⟩)
    · exact PySem.W.kat_no (PySem.W.kat_one _ _ (PyProof.Rows.lt_int ⟨rfl, rfl⟩))
  · have ex : ¬ x = x' := by simpa using e1
    rw [if_neg ex]
    exact PySem.W.kat_no (oneLt_str ⟨rfl, rfl⟩)
theorem si_firsts {h : Heap} : ∀ {vs : List Value}, (∀ v ∈ vs, ∃ c, IsSI h v c) → ∃ fs, PySem.W.KatTups h vs fs ∧ fs.length = vs.length ∧ ∀ f ∈ fs, ∃ x t, f = Value.str x t
  | [], _ => ⟨[], .nil, rfl, fun f hf => by cases hf⟩
  | v :: vs, hv => by
    obtain ⟨fs, h1, h2, h3⟩ := si_firsts (vs := vs) fun u hu => hv u (List.mem_cons_of_mem _ hu)
    obtain ⟨c, a, o, t, u, n, e, ho, hc, hd⟩ := hv v List.mem_cons_self
    subst e
    refine ⟨.str c.1 t :: fs, .cons ho hc hd rfl h1, by rw [List.length_cons, List.length_cons, h2], fun f hf => ?_⟩
    rcases List.mem_cons.mp hf with e | hf
    · exact ⟨_, _, e⟩
    · exact h3 f hf
theorem si_sortable {a : Addr} {vs : List Value} {k : Value → SI} (h0 : 0 < vs.length) (hp : ∀ v ∈ vs, IsSI s.heap v (k v)) (ha : ∀ o, s.heap.get? a = some o → o.cls ≠ .type "tuple") : SortableO prog w A s a vs fun v u => lexSI (k v) (k u) := by
  intro h' keep
  have hp' : ∀ v ∈ vs, IsSI h' v (k v) := fun v hm => (hp v hm).keeps fun b o e c => keep b o (fun z => by subst z; exact ha o e c) e
  obtain ⟨fs, h1, h2, h3⟩ := si_firsts fun v hm => ⟨_, hp' v hm⟩
  refine ⟨tuples' true, fun Q E hq => ?_, si_cmp hp'⟩
  refine PySem.W.kat_kind (T := .type "str") h1 (by omega) (fun f hm => ?_) (by rfl) ?_
  · obtain ⟨x, t, rfl⟩ := h3 f hm
    exact PySem.W.Looks.now
  · rw [show (Value.type "str" != Value.type "tuple") = true from by first | rfl | decide]
    exact hq
theorem sorted_si {l : Addr} {vs : List Value} {k : Value → SI} {Q : Value → Shared → Prop} (hl : s.heap.IsList l vs.toArray) (hz : vs.length ≤ sizeLine) (hp : ∀ v ∈ vs, IsSI s.heap v (k v))
    (h : ∀ (h' : Heap) (d : Addr) (out : List Value), Srtd (fun v u => lexSI (k v) (k u)) out → Stb (fun v u => lexSI (k v) (k u)) out vs → (∀ b o, s.heap.get? b = some o → h'.get? b = some o) → s.heap.objs.size ≤ d → (∃ n, h'.get? d = some (seqObj "list" out.toArray n)) → Q (.ref d) { s with heap := h' }) :
    wpAny (model prog w) A (call (.builtin "sorted") [.ref l]) Q E s := by
  refine sorted_ord (swoSI k) hl hz (fun h2 h₁ a ha kk => ?_) fun out hs hb => ?_
  · refine si_sortable (s := { s with heap := h₁ }) (by omega) (fun v hm => (hp v hm).keeps fun b o e _ => (kk b o e).2) fun o e => ?_
    rw [ha] at e
    cases e
    exact fun hcls => (by decide : ¬ ("list" : String) = "tuple") (Value.type.inj hcls)
  · exact h _ _ out hs hb (fun _ _ eu => sortedAll_old eu) (Nat.le_succ s.heap.objs.size) (sortedAll_at s.heap vs out.toArray)
end
/-- sorted(xs), xs a list of pairs of a text and an int (k says which) -/
def rSortSI (K : PySem.W.Frag) : List V → Hp → VK → Prop := fun vs H Q => ∃ (a : Addr) (xs : List V) (k : V → SI), vs = [V.ref a] ∧ SqL K H a xs ∧ (∀ x ∈ xs, ∃ t, x = V.ref t ∧ H t = some (.tup [.str (k x).1, .int (k x).2])) ∧
  ∀ (ys : List V) (p : Addr), ys.Perm xs → ys.Pairwise (fun x y => lexSI (k y) (k x) = false) → H p = none → Q (.ref p) (upd H p (.lst ys))
theorem cr_sortSI {X : Cx} {K : PySem.W.Frag} (hK : X.K = K := by rfl) : CallR X (.builtin "sorted") (rSortSI K) := by
  subst hK
  intro pins s σ H vs us Q I r h
  obtain ⟨a, xs, k, rfl, hs, hx, q⟩ := h
  obtain ⟨its, rv, hl, hz⟩ := I.list hs
  rw [Vals.ref1 r]
  obtain ⟨e1, e2⟩ := bkV_refs rv fun x m => by
    obtain ⟨t, e, _⟩ := hx x m
    exact ⟨t, e⟩
  refine sorted_si (k := fun u => k (bkV u)) hl.isList (by rw [← rv.length]; exact hz) (fun v hv => ?_) fun h' d out h1 h2 kp hd hn => ?_
  · obtain ⟨t, rfl⟩ := e2 v hv
    have hm : V.ref t ∈ xs := by rw [e1]; exact List.mem_map.mpr ⟨_, hv, rfl⟩
    obtain ⟨t', e, ht⟩ := hx _ hm
    cases e
    obtain ⟨_, its2, r2, o, ho, hc, n, hd⟩ := (show ObjOk X.prog X.w H s.heap t (.tup _) from I.hok _ _ ht)
    cases r2 with
    | cons a1 r3 =>
      cases r3 with
      | cons a2 r4 =>
        cases r4
        obtain ⟨t1, rfl⟩ := a1
        obtain ⟨t2, rfl⟩ := a2
        exact ⟨t, o, t1, t2, n, rfl, ho, hc, hd⟩
  · have rf : ∀ u ∈ out, ∃ r, u = Value.ref r := fun u hu => e2 u ((h2.perm.mem_iff).mp hu)
    obtain ⟨n, hn⟩ := hn
    have hp : (out.map bkV).Perm xs := by
      rw [e1]
      exact h2.perm.map bkV
    refine ⟨.ref d, upd H d (.lst (out.map bkV)), I.laid (t' := s.toks) kp hd ⟨by rw [hp.length_eq]; exact hz, out, n, bkV_vals rf, hn⟩, rfl, q _ d hp ?_ (I.hok.fresh hd)⟩
    rw [List.pairwise_map]
    exact h1
end WC

set_option maxHeartbeats 4000000
namespace WC
open PySem PySem.Spec PyProof.Rows L2
def top (i : Nat) : Stmt := PySem.Challenge.pw_withincall_k14_whole_rings.main.body.getD i (.Pass ⟨0, 0, 0, 0⟩)
abbrev s_InvalidNet_init : Stmt := inClass (top 3) 0
-- InvalidNet.__init__: slots 0 self, 1 reason, 2 position
abbrev nn_InvalidNet_init : List Str := ["self", "reason", "position"]
theorem sc_InvalidNet_init : FnScope ["self", "reason", "position"] ["self", "reason", "position"] (defScope s_InvalidNet_init) := ⟨rfl, rfl, rfl, by decide +kernel, rfl, by decide +kernel, by decide +kernel⟩
abbrev s_InvalidState_init : Stmt := inClass (top 4) 0
-- InvalidState.__init__: slots 0 self, 1 position
abbrev nn_InvalidState_init : List Str := ["self", "position"]
theorem sc_InvalidState_init : FnScope ["self", "position"] ["self", "position"] (defScope s_InvalidState_init) := ⟨rfl, rfl, rfl, by decide +kernel, rfl, by decide +kernel, by decide +kernel⟩
abbrev s_NotFound_init : Stmt := inClass (top 5) 0
-- NotFound.__init__: slots 0 self, 1 number
abbrev nn_NotFound_init : List Str := ["self", "number"]
theorem sc_NotFound_init : FnScope ["self", "number"] ["self", "number"] (defScope s_NotFound_init) := ⟨rfl, rfl, rfl, by decide +kernel, rfl, by decide +kernel, by decide +kernel⟩
abbrev s_Unreachable_init : Stmt := inClass (top 6) 0
-- Unreachable.__init__: slots 0 self, 1 objection
abbrev nn_Unreachable_init : List Str := ["self", "objection"]
theorem sc_Unreachable_init : FnScope ["self", "objection"] ["self", "objection"] (defScope s_Unreachable_init) := ⟨rfl, rfl, rfl, by decide +kernel, rfl, by decide +kernel, by decide +kernel⟩
abbrev s_TooLarge_init : Stmt := inClass (top 7) 0
-- TooLarge.__init__: slots 0 self, 1 size, 2 most
abbrev nn_TooLarge_init : List Str := ["self", "size", "most"]
theorem sc_TooLarge_init : FnScope ["self", "size", "most"] ["self", "size", "most"] (defScope s_TooLarge_init) := ⟨rfl, rfl, rfl, by decide +kernel, rfl, by decide +kernel, by decide +kernel⟩
abbrev s_is_between : Stmt := top 9
-- is_between: slots 0 value, 1 low, 2 high
abbrev nn_is_between : List Str := ["value", "low", "high"]
theorem sc_is_between : FnScope ["value", "low", "high"] ["value", "low", "high"] (defScope s_is_between) := ⟨rfl, rfl, rfl, by decide +kernel, rfl, by decide +kernel, by decide +kernel⟩
abbrev s_check_number : Stmt := top 10
-- check_number: slots 0 value, 1 many
abbrev nn_check_number : List Str := ["value", "many"]
theorem sc_check_number : FnScope ["value", "many"] ["value", "many"] (defScope s_check_number) := ⟨rfl, rfl, rfl, by decide +kernel, rfl, by decide +kernel, by decide +kernel⟩
abbrev s_Net_init : Stmt := inClass (top 13) 4
-- Net.__init__: slots 0 self, 1 stages, 2 channels, 3 channel
abbrev nn_Net_init : List Str := ["self", "stages", "channels", "channel"]
theorem sc_Net_init : FnScope ["self", "stages", "channels", "channel"] ["self", "stages", "channels"] (defScope s_Net_init) := ⟨rfl, rfl, rfl, by decide +kernel, rfl, by decide +kernel, by decide +kernel⟩
abbrev s_Net_is_capacity : Stmt := inClass (top 13) 5
-- Net.is_capacity: slots 0 value
abbrev nn_Net_is_capacity : List Str := ["value"]
theorem sc_Net_is_capacity : FnScope ["value"] ["value"] (defScope s_Net_is_capacity) := ⟨rfl, rfl, rfl, by decide +kernel, rfl, by decide +kernel, by decide +kernel⟩
abbrev s_Net_incoming : Stmt := inClass (top 13) 7
-- Net.incoming: slots 0 self, 1 stage
abbrev nn_Net_incoming : List Str := ["self", "stage"]
theorem sc_Net_incoming : FnScope ["self", "stage"] ["self", "stage"] (defScope s_Net_incoming) := ⟨rfl, rfl, rfl, by decide +kernel, rfl, by decide +kernel, by decide +kernel⟩
abbrev s_Net_outgoing : Stmt := inClass (top 13) 8
-- Net.outgoing: slots 0 self, 1 stage
abbrev nn_Net_outgoing : List Str := ["self", "stage"]
theorem sc_Net_outgoing : FnScope ["self", "stage"] ["self", "stage"] (defScope s_Net_outgoing) := ⟨rfl, rfl, rfl, by decide +kernel, rfl, by decide +kernel, by decide +kernel⟩
abbrev s_Net_eq : Stmt := inClass (top 13) 13
-- Net.__eq__: slots 0 self, 1 other
abbrev nn_Net_eq : List Str := ["self", "other"]
theorem sc_Net_eq : FnScope ["self", "other"] ["self", "other"] (defScope s_Net_eq) := ⟨rfl, rfl, rfl, by decide +kernel, rfl, by decide +kernel, by decide +kernel⟩
abbrev s_Ring_init : Stmt := inClass (top 14) 0
-- Ring.__init__: slots 0 self, 1 capacities, 2 stages, 3 position, 4 capacity, 5 channels, 6 stage
abbrev nn_Ring_init : List Str := ["self", "capacities", "stages", "position", "capacity", "channels", "stage"]
theorem sc_Ring_init : CScope ["self", "capacities", "stages", "position", "capacity", "channels", "stage"] ["self", "capacities"] (defScope s_Ring_init) := ⟨rfl, rfl, rfl, by decide +kernel, rfl, by decide +kernel, by decide +kernel, by decide +kernel, by decide +kernel, by decide +kernel⟩
abbrev s_Ring_is_ring : Stmt := inClass (top 14) 1
-- Ring.is_ring: slots 0 self
abbrev nn_Ring_is_ring : List Str := ["self"]
theorem sc_Ring_is_ring : FnScope ["self"] ["self"] (defScope s_Ring_is_ring) := ⟨rfl, rfl, rfl, by decide +kernel, rfl, by decide +kernel, by decide +kernel⟩
abbrev s_numbers_at : Stmt := top 15
-- _numbers_at: slots 0 stages, 1 ends, 2 numbers, 3 _, 4 number, 5 stage, 6 row
abbrev nn_numbers_at : List Str := ["stages", "ends", "numbers", "_", "number", "stage", "row"]
theorem sc_numbers_at : FnScope ["stages", "ends", "numbers", "_", "number", "stage", "row"] ["stages", "ends"] (defScope s_numbers_at) := ⟨rfl, rfl, rfl, by decide +kernel, rfl, by decide +kernel, by decide +kernel⟩
abbrev s_check_state : Stmt := top 17
-- check_state: slots 0 net, 1 state, 2 position, 3 counter
abbrev nn_check_state : List Str := ["net", "state", "position", "counter"]
theorem sc_check_state : FnScope ["net", "state", "position", "counter"] ["net", "state"] (defScope s_check_state) := ⟨rfl, rfl, rfl, by decide +kernel, rfl, by decide +kernel, by decide +kernel⟩
abbrev s_is_move : Stmt := top 20
-- is_move: slots 0 net, 1 value, 2 stage, 3 kind
abbrev nn_is_move : List Str := ["net", "value", "stage", "kind"]
theorem sc_is_move : FnScope ["net", "value", "stage", "kind"] ["net", "value"] (defScope s_is_move) := ⟨rfl, rfl, rfl, by decide +kernel, rfl, by decide +kernel, by decide +kernel⟩
abbrev s_other_kind : Stmt := top 21
-- other_kind: slots 0 kind
abbrev nn_other_kind : List Str := ["kind"]
theorem sc_other_kind : FnScope ["kind"] ["kind"] (defScope s_other_kind) := ⟨rfl, rfl, rfl, by decide +kernel, rfl, by decide +kernel, by decide +kernel⟩
abbrev s_side_of : Stmt := top 22
-- side_of: slots 0 net, 1 move, 2 stage, 3 kind
abbrev nn_side_of : List Str := ["net", "move", "stage", "kind"]
theorem sc_side_of : FnScope ["net", "move", "stage", "kind"] ["net", "move"] (defScope s_side_of) := ⟨rfl, rfl, rfl, by decide +kernel, rfl, by decide +kernel, by decide +kernel⟩
abbrev s_is_allowed : Stmt := top 23
-- is_allowed: slots 0 net, 1 state, 2 move, 3 side, 4 channel
abbrev nn_is_allowed : List Str := ["net", "state", "move", "side", "channel"]
theorem sc_is_allowed : FnScope ["net", "state", "move", "side", "channel"] ["net", "state", "move"] (defScope s_is_allowed) := ⟨rfl, rfl, rfl, by decide +kernel, rfl, by decide +kernel, by decide +kernel⟩
abbrev s_state_behind : Stmt := top 24
-- state_behind: slots 0 state, 1 move, 2 stage, 3 kind, 4 change
abbrev nn_state_behind : List Str := ["state", "move", "stage", "kind", "change"]
theorem sc_state_behind : FnScope ["state", "move", "stage", "kind", "change"] ["state", "move"] (defScope s_state_behind) := ⟨rfl, rfl, rfl, by decide +kernel, rfl, by decide +kernel, by decide +kernel⟩
abbrev s_is_ready : Stmt := top 25
-- _is_ready: slots 0 net, 1 state, 2 channel, 3 producer, 4 consumer, 5 capacity
abbrev nn_is_ready : List Str := ["net", "state", "channel", "producer", "consumer", "capacity"]
theorem sc_is_ready : FnScope ["net", "state", "channel", "producer", "consumer", "capacity"] ["net", "state", "channel"] (defScope s_is_ready) := ⟨rfl, rfl, rfl, by decide +kernel, rfl, by decide +kernel, by decide +kernel⟩
abbrev s_objections : Stmt := top 28
-- objections: slots 0 net, 1 start, 2 target
abbrev nn_objections : List Str := ["net", "start", "target"]
theorem sc_objections : FnScope ["net", "start", "target"] ["net", "start", "target"] (defScope s_objections) := ⟨rfl, rfl, rfl, by decide +kernel, rfl, by decide +kernel, by decide +kernel⟩
abbrev s_is_objection : Stmt := top 29
-- is_objection: slots 0 net, 1 start, 2 target, 3 objection, 4 found, 5 reason, 6 number
abbrev nn_is_objection : List Str := ["net", "start", "target", "objection", "found", "reason", "number"]
theorem sc_is_objection : FnScope ["net", "start", "target", "objection", "found", "reason", "number"] ["net", "start", "target", "objection"] (defScope s_is_objection) := ⟨rfl, rfl, rfl, by decide +kernel, rfl, by decide +kernel, by decide +kernel⟩
abbrev s_reaches : Stmt := top 30
-- reaches: slots 0 net, 1 start, 2 target
abbrev nn_reaches : List Str := ["net", "start", "target"]
theorem sc_reaches : FnScope ["net", "start", "target"] ["net", "start", "target"] (defScope s_reaches) := ⟨rfl, rfl, rfl, by decide +kernel, rfl, by decide +kernel, by decide +kernel⟩
abbrev s_distance : Stmt := top 31
-- distance: slots 0 net, 1 start, 2 target, 3 found
abbrev nn_distance : List Str := ["net", "start", "target", "found"]
theorem sc_distance : FnScope ["net", "start", "target", "found"] ["net", "start", "target"] (defScope s_distance) := ⟨rfl, rfl, rfl, by decide +kernel, rfl, by decide +kernel, by decide +kernel⟩
abbrev s_plan : Stmt := top 32
-- plan: slots 0 net, 1 start, 2 target, 3 state, 4 moves, 5 _, 6 move
abbrev nn_plan : List Str := ["net", "start", "target", "state", "moves", "_", "move"]
theorem sc_plan : FnScope ["net", "start", "target", "state", "moves", "_", "move"] ["net", "start", "target"] (defScope s_plan) := ⟨rfl, rfl, rfl, by decide +kernel, rfl, by decide +kernel, by decide +kernel⟩
abbrev s_is_plan : Stmt := top 33
-- is_plan: slots 0 net, 1 start, 2 target, 3 moves, 4 state, 5 move
abbrev nn_is_plan : List Str := ["net", "start", "target", "moves", "state", "move"]
theorem sc_is_plan : FnScope ["net", "start", "target", "moves", "state", "move"] ["net", "start", "target", "moves"] (defScope s_is_plan) := ⟨rfl, rfl, rfl, by decide +kernel, rfl, by decide +kernel, by decide +kernel⟩
abbrev s_plan_length : Stmt := top 34
-- plan_length: slots 0 net, 1 start, 2 target, 3 size
abbrev nn_plan_length : List Str := ["net", "start", "target", "size"]
theorem sc_plan_length : FnScope ["net", "start", "target", "size"] ["net", "start", "target"] (defScope s_plan_length) := ⟨rfl, rfl, rfl, by decide +kernel, rfl, by decide +kernel, by decide +kernel⟩
abbrev s_all_objections : Stmt := top 35
-- all_objections: slots 0 net, 1 start, 2 target, 3 channels, 4 found
abbrev nn_all_objections : List Str := ["net", "start", "target", "channels", "found"]
theorem sc_all_objections : FnScope ["net", "start", "target", "channels", "found"] ["net", "start", "target"] (defScope s_all_objections) := ⟨rfl, rfl, rfl, by decide +kernel, rfl, by decide +kernel, by decide +kernel⟩
abbrev s_draws_from : Stmt := top 36
-- draws_from: slots 0 start, 1 target, 2 channel, 3 producer, 4 consumer, 5 _
abbrev nn_draws_from : List Str := ["start", "target", "channel", "producer", "consumer", "_"]
theorem sc_draws_from : FnScope ["start", "target", "channel", "producer", "consumer", "_"] ["start", "target", "channel"] (defScope s_draws_from) := ⟨rfl, rfl, rfl, by decide +kernel, rfl, by decide +kernel, by decide +kernel⟩
abbrev s_moves_between : Stmt := top 37
-- moves_between: slots 0 start, 1 target, 2 counter, 3 wanted
abbrev nn_moves_between : List Str := ["start", "target", "counter", "wanted"]
theorem sc_moves_between : FnScope ["start", "target", "counter", "wanted"] ["start", "target"] (defScope s_moves_between) := ⟨rfl, rfl, rfl, by decide +kernel, rfl, by decide +kernel, by decide +kernel⟩
abbrev s_stage_objections : Stmt := top 38
-- _stage_objections: slots 0 net, 1 start, 2 target, 3 found, 4 stage
abbrev nn_stage_objections : List Str := ["net", "start", "target", "found", "stage"]
theorem sc_stage_objections : FnScope ["net", "start", "target", "found", "stage"] ["net", "start", "target"] (defScope s_stage_objections) := ⟨rfl, rfl, rfl, by decide +kernel, rfl, by decide +kernel, by decide +kernel⟩
abbrev s_channel_objections : Stmt := top 39
-- _channel_objections: slots 0 net, 1 start, 2 target, 3 channels, 4 found, 5 channel, 6 producer, 7 consumer, 8 capacity
abbrev nn_channel_objections : List Str := ["net", "start", "target", "channels", "found", "channel", "producer", "consumer", "capacity"]
theorem sc_channel_objections : FnScope ["net", "start", "target", "channels", "found", "channel", "producer", "consumer", "capacity"] ["net", "start", "target", "channels"] (defScope s_channel_objections) := ⟨rfl, rfl, rfl, by decide +kernel, rfl, by decide +kernel, by decide +kernel⟩
abbrev s_range_objections : Stmt := top 40
-- _range_objections: slots 0 start, 1 target, 2 low, 3 high, 4 above, 5 stage, 6 counter, 7 below
abbrev nn_range_objections : List Str := ["start", "target", "low", "high", "above", "stage", "counter", "below"]
theorem sc_range_objections : FnScope ["start", "target", "low", "high", "above", "stage", "counter", "below"] ["start", "target"] (defScope s_range_objections) := ⟨rfl, rfl, rfl, by decide +kernel, rfl, by decide +kernel, by decide +kernel⟩
abbrev s_moves_towards : Stmt := top 41
-- _moves_towards: slots 0 start, 1 target, 2 moves, 3 stage, 4 counter, 5 wanted
abbrev nn_moves_towards : List Str := ["start", "target", "moves", "stage", "counter", "wanted"]
theorem sc_moves_towards : FnScope ["start", "target", "moves", "stage", "counter", "wanted"] ["start", "target"] (defScope s_moves_towards) := ⟨rfl, rfl, rfl, by decide +kernel, rfl, by decide +kernel, by decide +kernel⟩
abbrev s_begins_plan : Stmt := top 42
-- _begins_plan: slots 0 net, 1 state, 2 target, 3 move, 4 stage, 5 kind, 6 channels
abbrev nn_begins_plan : List Str := ["net", "state", "target", "move", "stage", "kind", "channels"]
theorem sc_begins_plan : FnScope ["net", "state", "target", "move", "stage", "kind", "channels"] ["net", "state", "target", "move"] (defScope s_begins_plan) := ⟨rfl, rfl, rfl, by decide +kernel, rfl, by decide +kernel, by decide +kernel⟩
abbrev s_first_move : Stmt := top 43
-- _first_move: slots 0 net, 1 state, 2 target, 3 move
abbrev nn_first_move : List Str := ["net", "state", "target", "move"]
theorem sc_first_move : FnScope ["net", "state", "target", "move"] ["net", "state", "target"] (defScope s_first_move) := ⟨rfl, rfl, rfl, by decide +kernel, rfl, by decide +kernel, by decide +kernel⟩
abbrev s_law_is_integer : Stmt := top 45
-- _law_is_integer: slots 0 _law_value
abbrev nn_law_is_integer : List Str := ["_law_value"]
theorem sc_law_is_integer : FnScope ["_law_value"] ["_law_value"] (defScope s_law_is_integer) := ⟨rfl, rfl, rfl, by decide +kernel, rfl, by decide +kernel, by decide +kernel⟩
abbrev s_law_box : Stmt := top 46
-- _law_box: slots 0 _law_script, 1 _law_cells, 2 _law_cell, 3 _law_seed
abbrev nn_law_box : List Str := ["_law_script", "_law_cells", "_law_cell", "_law_seed"]
theorem sc_law_box : FnScope ["_law_script", "_law_cells", "_law_cell", "_law_seed"] ["_law_script"] (defScope s_law_box) := ⟨rfl, rfl, rfl, by decide +kernel, rfl, by decide +kernel, by decide +kernel⟩
abbrev s_law_take : Stmt := top 47
-- _law_take: slots 0 _law_box_here, 1 _law_size, 2 _law_cells, 3 _law_at, 4 _law_digit, 5 _law_number, 6 _law_once, 7 _law_twice, 8 _law_third
abbrev nn_law_take : List Str := ["_law_box_here", "_law_size", "_law_cells", "_law_at", "_law_digit", "_law_number", "_law_once", "_law_twice", "_law_third"]
theorem sc_law_take : FnScope ["_law_box_here", "_law_size", "_law_cells", "_law_at", "_law_digit", "_law_number", "_law_once", "_law_twice", "_law_third"] ["_law_box_here", "_law_size"] (defScope s_law_take) := ⟨rfl, rfl, rfl, by decide +kernel, rfl, by decide +kernel, by decide +kernel⟩
abbrev s_law_ring : Stmt := top 48
-- _law_ring: slots 0 _law_row
abbrev nn_law_ring : List Str := ["_law_row"]
theorem sc_law_ring : FnScope ["_law_row"] ["_law_row"] (defScope s_law_ring) := ⟨rfl, rfl, rfl, by decide +kernel, rfl, by decide +kernel, by decide +kernel⟩
abbrev s_law_moves : Stmt := top 49
-- _law_moves: slots 0 _law_stages, 1 _law_found, 2 _law_stage
abbrev nn_law_moves : List Str := ["_law_stages", "_law_found", "_law_stage"]
theorem sc_law_moves : FnScope ["_law_stages", "_law_found", "_law_stage"] ["_law_stages"] (defScope s_law_moves) := ⟨rfl, rfl, rfl, by decide +kernel, rfl, by decide +kernel, by decide +kernel⟩
abbrev s_law_is_allowed : Stmt := top 50
-- _law_is_allowed: slots 0 _law_channels, 1 _law_here, 2 _law_move, 3 _law_end, 4 _law_side, 5 _law_channel
abbrev nn_law_is_allowed : List Str := ["_law_channels", "_law_here", "_law_move", "_law_end", "_law_side", "_law_channel"]
theorem sc_law_is_allowed : FnScope ["_law_channels", "_law_here", "_law_move", "_law_end", "_law_side", "_law_channel"] ["_law_channels", "_law_here", "_law_move"] (defScope s_law_is_allowed) := ⟨rfl, rfl, rfl, by decide +kernel, rfl, by decide +kernel, by decide +kernel⟩
abbrev s_law_after : Stmt := top 51
-- _law_after: slots 0 _law_here, 1 _law_move, 2 _law_change
abbrev nn_law_after : List Str := ["_law_here", "_law_move", "_law_change"]
theorem sc_law_after : FnScope ["_law_here", "_law_move", "_law_change"] ["_law_here", "_law_move"] (defScope s_law_after) := ⟨rfl, rfl, rfl, by decide +kernel, rfl, by decide +kernel, by decide +kernel⟩
abbrev s_law_states : Stmt := top 52
-- _law_states: slots 0 _law_stages, 1 _law_levels, 2 _law_base, 3 _law_found, 4 _law_stage, 5 _law_longer, 6 _law_point, 7 _law_level
abbrev nn_law_states : List Str := ["_law_stages", "_law_levels", "_law_base", "_law_found", "_law_stage", "_law_longer", "_law_point", "_law_level"]
theorem sc_law_states : FnScope ["_law_stages", "_law_levels", "_law_base", "_law_found", "_law_stage", "_law_longer", "_law_point", "_law_level"] ["_law_stages", "_law_levels", "_law_base"] (defScope s_law_states) := ⟨rfl, rfl, rfl, by decide +kernel, rfl, by decide +kernel, by decide +kernel⟩
abbrev s_law_roads : Stmt := top 53
-- _law_roads: slots 0 _law_channels, 1 _law_states_here, 2 _law_roads_here, 3 _law_point, 4 _law_ready, 5 _law_move
abbrev nn_law_roads : List Str := ["_law_channels", "_law_states_here", "_law_roads_here", "_law_point", "_law_ready", "_law_move"]
theorem sc_law_roads : FnScope ["_law_channels", "_law_states_here", "_law_roads_here", "_law_point", "_law_ready", "_law_move"] ["_law_channels", "_law_states_here"] (defScope s_law_roads) := ⟨rfl, rfl, rfl, by decide +kernel, rfl, by decide +kernel, by decide +kernel⟩
abbrev s_law_search : Stmt := top 54
-- _law_search: slots 0 _law_roads_here, 1 _law_start, 2 _law_far, 3 _law_line, 4 _law_turn, 5 _law_ahead, 6 _law_point, 7 _law_other
abbrev nn_law_search : List Str := ["_law_roads_here", "_law_start", "_law_far", "_law_line", "_law_turn", "_law_ahead", "_law_point", "_law_other"]
theorem sc_law_search : FnScope ["_law_roads_here", "_law_start", "_law_far", "_law_line", "_law_turn", "_law_ahead", "_law_point", "_law_other"] ["_law_roads_here", "_law_start"] (defScope s_law_search) := ⟨rfl, rfl, rfl, by decide +kernel, rfl, by decide +kernel, by decide +kernel⟩
abbrev s_law_objections_hold : Stmt := top 55
-- _law_objections_hold: slots 0 _law_network, 1 _law_start, 2 _law_goal, 3 _law_is_reached, 4 _law_told, 5 _law_stage
abbrev nn_law_objections_hold : List Str := ["_law_network", "_law_start", "_law_goal", "_law_is_reached", "_law_told", "_law_stage"]
theorem sc_law_objections_hold : FnScope ["_law_network", "_law_start", "_law_goal", "_law_is_reached", "_law_told", "_law_stage"] ["_law_network", "_law_start", "_law_goal", "_law_is_reached"] (defScope s_law_objections_hold) := ⟨rfl, rfl, rfl, by decide +kernel, rfl, by decide +kernel, by decide +kernel⟩
abbrev s_law_pair_holds : Stmt := top 56
-- _law_pair_holds: slots 0 _law_network, 1 _law_start, 2 _law_goal, 3 _law_due, 4 _law_told, 5 _law_many, 6 _law_raised
abbrev nn_law_pair_holds : List Str := ["_law_network", "_law_start", "_law_goal", "_law_due", "_law_told", "_law_many", "_law_raised"]
theorem sc_law_pair_holds : FnScope ["_law_network", "_law_start", "_law_goal", "_law_due", "_law_told", "_law_many", "_law_raised"] ["_law_network", "_law_start", "_law_goal", "_law_due"] (defScope s_law_pair_holds) := ⟨rfl, rfl, rfl, by decide +kernel, rfl, by decide +kernel, by decide +kernel⟩
abbrev s_law_turned_round : Stmt := top 57
-- _law_turned_round: slots 0 _law_roads_here, 1 _law_back, 2 _law_point, 3 _law_other, 4 _law_befores
abbrev nn_law_turned_round : List Str := ["_law_roads_here", "_law_back", "_law_point", "_law_other", "_law_befores"]
theorem sc_law_turned_round : FnScope ["_law_roads_here", "_law_back", "_law_point", "_law_other", "_law_befores"] ["_law_roads_here"] (defScope s_law_turned_round) := ⟨rfl, rfl, rfl, by decide +kernel, rfl, by decide +kernel, by decide +kernel⟩
abbrev s_law_is_smaller_first : Stmt := top 58
-- _law_is_smaller_first: slots 0 _law_channels, 1 _law_left, 2 _law_here, 3 _law_move, 4 _law_smaller
abbrev nn_law_is_smaller_first : List Str := ["_law_channels", "_law_left", "_law_here", "_law_move", "_law_smaller"]
theorem sc_law_is_smaller_first : FnScope ["_law_channels", "_law_left", "_law_here", "_law_move", "_law_smaller"] ["_law_channels", "_law_left", "_law_here", "_law_move"] (defScope s_law_is_smaller_first) := ⟨rfl, rfl, rfl, by decide +kernel, rfl, by decide +kernel, by decide +kernel⟩
abbrev s_law_plan_holds : Stmt := top 59
-- _law_plan_holds: slots 0 _law_network, 1 _law_channels, 2 _law_left, 3 _law_start, 4 _law_goal, 5 _law_due, 6 _law_row, 7 _law_raised, 8 _law_here, 9 _law_k, 10 _law_move, 11 _law_other
abbrev nn_law_plan_holds : List Str := ["_law_network", "_law_channels", "_law_left", "_law_start", "_law_goal", "_law_due", "_law_row", "_law_raised", "_law_here", "_law_k", "_law_move", "_law_other"]
theorem sc_law_plan_holds : FnScope ["_law_network", "_law_channels", "_law_left", "_law_start", "_law_goal", "_law_due", "_law_row", "_law_raised", "_law_here", "_law_k", "_law_move", "_law_other"] ["_law_network", "_law_channels", "_law_left", "_law_start", "_law_goal", "_law_due"] (defScope s_law_plan_holds) := ⟨rfl, rfl, rfl, by decide +kernel, rfl, by decide +kernel, by decide +kernel⟩
abbrev s_law_starts : Stmt := top 60
-- _law_starts: slots 0 _law_box_here, 1 _law_roads_here, 2 _law_states_here, 3 _law_lively, 4 _law_point, 5 _law_starts_here, 6 _law_turn
abbrev nn_law_starts : List Str := ["_law_box_here", "_law_roads_here", "_law_states_here", "_law_lively", "_law_point", "_law_starts_here", "_law_turn"]
theorem sc_law_starts : FnScope ["_law_box_here", "_law_roads_here", "_law_states_here", "_law_lively", "_law_point", "_law_starts_here", "_law_turn"] ["_law_box_here", "_law_roads_here", "_law_states_here"] (defScope s_law_starts) := ⟨rfl, rfl, rfl, by decide +kernel, rfl, by decide +kernel, by decide +kernel⟩
abbrev s_law : Stmt := top 61
-- law: slots 0 _law_script, 1 _law_box_here, 2 _law_shape, 3 _law_stages, 4 _law_levels, 5 _law_base, 6 _law_rooms, 7 _law_k, 8 _law_network, 9 _law_channels, 10 _law_states_here, 11 _law_roads_here, 12 _law_back, 13 _law_starts_here, 14 _law_start, 15 _law_far, 16 _law_goal, 17 _law_due, 18 _law_turn, 19 _law_met, 20 _law_left
abbrev nn_law : List Str := ["_law_script", "_law_box_here", "_law_shape", "_law_stages", "_law_levels", "_law_base", "_law_rooms", "_law_k", "_law_network", "_law_channels", "_law_states_here", "_law_roads_here", "_law_back", "_law_starts_here", "_law_start", "_law_far", "_law_goal", "_law_due", "_law_turn", "_law_met", "_law_left"]
theorem sc_law : FnScope ["_law_script", "_law_box_here", "_law_shape", "_law_stages", "_law_levels", "_law_base", "_law_rooms", "_law_k", "_law_network", "_law_channels", "_law_states_here", "_law_roads_here", "_law_back", "_law_starts_here", "_law_start", "_law_far", "_law_goal", "_law_due", "_law_turn", "_law_met", "_law_left"] ["_law_script"] (defScope s_law) := ⟨rfl, rfl, rfl, by decide +kernel, rfl, by decide +kernel, by decide +kernel⟩
end WC

set_option maxHeartbeats 4000000
namespace WC
open PySem PySem.Spec PyProof.Rows L2
/-- built-ins' names that the module leaves alone -/
structure Blt (mg : Str → Option Value) : Prop where
  isi : mg "isinstance" = none
  int : mg "int" = none
  bool : mg "bool" = none
  tuple : mg "tuple" = none
  list : mg "list" = none
  str : mg "str" = none
  len : mg "len" = none
  range : mg "range" = none
  sorted : mg "sorted" = none
  enum : mg "enumerate" = none
  sum : mg "sum" = none
  all : mg "all" = none
  max : mg "max" = none
  min : mg "min" = none
  verr : mg "ValueError" = none
/-- a value that the laws hand about: its type is known -/
def Known (K : PySem.W.Frag) (H : Hp) : V → Prop
  | .int _ => True
  | .bl _ => True
  | .non => True
  | .str _ => True
  | .ref a => (∃ xs, H a = some (.tup xs)) ∨ ∃ xs, H a = some (.lst xs)
  | _ => False
/-- the value's type -/
def tyN (H : Hp) : V → String
  | .int _ => "int"
  | .bl _ => "bool"
  | .non => "NoneType"
  | .str _ => "str"
  | .ref a => match H a with
    | some (.tup _) => "tuple"
    | _ => "list"
  | _ => "list"
theorem Known.ty {K : PySem.W.Frag} {H : Hp} {x : V} (k : Known K H x) : TyX K H x (.type (tyN H x)) := by
  cases x with
  | int i => exact .base (.int i)
  | bl b => exact .base (.bl b)
  | non => exact .base .non
  | str z => exact .base (.str z)
  | ref a =>
    rcases k with ⟨xs, e⟩ | ⟨xs, e⟩
    · have q : tyN H (.ref a) = "tuple" := by simp only [tyN, e]
      rw [q]
      exact .base (.tup e)
    · have q : tyN H (.ref a) = "list" := by simp only [tyN, e]
      rw [q]
      exact .base (.lst e)
  | byt b => exact k.elim
  | flt b => exact k.elim
  | ty n => exact k.elim
theorem tyN_ref {H : Hp} {a : Addr} : tyN H (.ref a) = "tuple" ∨ tyN H (.ref a) = "list" := by
  simp only [tyN]
  split
  · exact .inl rfl
  · exact .inr rfl
/-- an int within the bounds -/
def btw (x : V) (lo hi : Int) : Bool := match x with
  | .int i => decide (lo ≤ i) && decide (i ≤ hi)
  | _ => false
def isIV : V → Bool
  | .int _ => true
  | _ => false
def isBV : V → Bool
  | .bl _ => true
  | _ => false
theorem kb (a b : String) (r : Bool) (h : kitB a b = some r) {K : PySem.W.Frag} {t : String} (e : t = a) : PySem.W.kitOne K (.type t) (.type b) = some r := by
  rw [e]
  exact kit_ty h
theorem kit_int {K : PySem.W.Frag} {H : Hp} {x : V} (k : Known K H x) : PySem.W.kitOne K (.type (tyN H x)) (.type "int") = some (isIV x || isBV x) := by
  cases x with
  | int i => exact kb "int" "int" true (by decide +kernel) rfl
  | bl b => exact kb "bool" "int" true (by decide +kernel) rfl
  | non  => exact kb "NoneType" "int" false (by decide +kernel) rfl
  | str z => exact kb "str" "int" false (by decide +kernel) rfl
  | ref a =>
    rcases @tyN_ref H a with q | q
    · exact kb "tuple" "int" false (by decide +kernel) q
    · exact kb "list" "int" false (by decide +kernel) q
  | byt b => exact k.elim
  | flt b => exact k.elim
  | ty n => exact k.elim
theorem kit_bool {K : PySem.W.Frag} {H : Hp} {x : V} (k : Known K H x) : PySem.W.kitOne K (.type (tyN H x)) (.type "bool") = some (isBV x) := by
  cases x with
  | int i => exact kb "int" "bool" false (by decide +kernel) rfl
  | bl b => exact kb "bool" "bool" true (by decide +kernel) rfl
  | non  => exact kb "NoneType" "bool" false (by decide +kernel) rfl
  | str z => exact kb "str" "bool" false (by decide +kernel) rfl
  | ref a =>
    rcases @tyN_ref H a with q | q
    · exact kb "tuple" "bool" false (by decide +kernel) q
    · exact kb "list" "bool" false (by decide +kernel) q
  | byt b => exact k.elim
  | flt b => exact k.elim
  | ty n => exact k.elim
def spBtw (K : PySem.W.Frag) : Sp := fun vs H Q _ => ∃ (x : V) (lo hi : Int), vs = [x, .int lo, .int hi] ∧ Known K H x ∧ Q (.bl (btw x lo hi)) H
section
variable {P : Program} {w : World} {K : PySem.W.Frag} {mg : Str → Option Value} {base : Heap}
theorem ok_is_between {f : Addr} {fd : FuncData} (F : Fun K "is_between" "is_between" s_is_between f fd) (B : Blt mg) : FnOk P w K mg base (L2.CX P w) 1 f fd ["value", "low", "high"] (spBtw K) := by
  refine F.okX sc_is_between (fun vs H Q E h => ?_) (fun cdv A outer s H vs Q E hr h => ?_)
  · obtain ⟨x, lo, hi, rfl, _⟩ := h
    rfl
  · obtain ⟨x, lo, hi, rfl, hk, k⟩ := h
    refine ⟨_, pss_one (ps_ret (pe_and (pe_callB call_isi (by rfl) B.isi (by decide +kernel) (pa_cons (pv 0) (pa_cons (pe_bltn (v := .ty "int") (by rfl) B.int (by decide +kernel) rfl) pa_nil)))
      (pe_and (pe_not (pe_callB call_isi (by rfl) B.isi (by decide +kernel) (pa_cons (pv 0) (pa_cons (pe_bltn (v := .ty "bool") (by rfl) B.bool (by decide +kernel) rfl) pa_nil))))
        (pe_one (pe_chain op_le op_le (pv 1) (pv 0) (pv 2)))))), ?_⟩
    refine ⟨_, rfl, _, _, _, _, _, rfl, .ty _, hk.ty, kit_int hk, _, rfl, ?_⟩
    cases x with
    | int i =>
      refine iteT ⟨_, rfl, _, _, _, _, _, rfl, .ty _, hk.ty, kit_bool hk, _, rfl, _, rfl, ?_⟩
      refine iteT ⟨_, rfl, _, rfl, _, _, rfl, rfl, _, rfl, ?_⟩
      refine ite2 (fun e => ⟨_, rfl, _, _, rfl, rfl, ?_⟩) (fun e => ?_)
      · have q : btw (.int i) lo hi = decide (i ≤ hi) := by unfold btw; simp [e]
        rw [q] at k
        exact k
      · have q : btw (.int i) lo hi = false := by unfold btw; simp; intro z; simp [z] at e
        rw [q] at k
        exact k
    | bl b => exact iteT ⟨_, rfl, _, _, _, _, _, rfl, .ty _, hk.ty, kit_bool hk, _, rfl, _, rfl, iteF k⟩
    | non => exact iteF k
    | str z => exact iteF k
    | ref a => exact iteF k
    | byt b => exact hk.elim
    | flt b => exact hk.elim
    | ty n => exact hk.elim
end
end WC

set_option maxHeartbeats 4000000
namespace WC
open PySem PySem.Spec PyProof.Rows L2
def flN : List V → List (Str × V)
  | [v] => [("number", v)]
  | _ => []
section
variable {P : Program} {w : World} {K : PySem.W.Frag} {mg : Str → Option Value} {base : Heap}
theorem ok_NotFound_init {f C : Addr} {fd : FuncData} (F : Fun K "__init__" "NotFound.__init__" s_NotFound_init f fd) (T : OexC K C) (hno : PySem.W.findIn K (.ref C) "number" = some none) : FnOk P w K mg base (L2.CX P w) 1 f fd ["self", "number"] (spX C 1 flN) := by
  refine F.okX sc_NotFound_init (fun vs H Q E h => ?_) (fun cdv A outer s H vs Q E hr h => ?_)
  · obtain ⟨a, ws, rfl, hl, _⟩ := h
    simp [hl]
  · obtain ⟨a, ws, rfl, hl, ha, k⟩ := h
    match ws, hl with
    | [v], _ =>
      refine ⟨_, pss_one (ps_ost (pv 0) (pv 1)), ?_⟩
      exact ⟨_, rfl, _, rfl, a, C, rfl, T, hno, .inl ⟨ha, fun d hd hne => k d hd hne⟩⟩
/-- check_number(value, many): nothing, or NotFound(value) -/
def spCheckNumber (K : PySem.W.Frag) (CN : Addr) : Sp := fun vs H Q E => ∃ (x : V) (n : Int), vs = [x, .int n] ∧ Known K H x ∧
  (btw x 0 (n - 1) = true → Q .non H) ∧ (btw x 0 (n - 1) = false → ∀ d, H d = none → E (.ref CN) (some d) (upd H d (.xd [("number", x)])))
theorem ok_check_number {f CN : Addr} {fd : FuncData} {k : Nat} (F : Fun K "check_number" "check_number" s_check_number f fd) (G : DefR P w K mg base "is_between" 1 (spBtw K)) (T : ExcR P w K mg base "NotFound" CN 1 1 flN) : FnOk P w K mg base (L2.CX P w) 3 f fd ["value", "many"] (spCheckNumber K CN) := by
  refine F.okX sc_check_number (fun vs H Q E h => ?_) (fun cdv A outer s H vs Q E hr h => ?_)
  · obtain ⟨x, n, rfl, _⟩ := h
    rfl
  · obtain ⟨x, n, rfl, hk, k1, k2⟩ := h
    refine ⟨_, pss_one (ps_if (pt_not (pt_val (pe_cd G hr psE (pa_cons (pv 0) (pa_cons pe_int (pa_cons (pe_op op_sub (pv 1) pe_int) pa_nil)))))) (pss_one (ps_raise rfl (takes_of rfl rfl rfl rfl) (pmk_x T hr (pa_cons (pv 0) pa_nil)))) pss_nil), ?_⟩
    refine ⟨_, rfl, _, rfl, _, _, rfl, rfl, _, _, _, rfl, hk, _, rfl, ?_⟩
    cases e : btw x 0 (n - 1) with
    | true => exact iteF (k1 e)
    | false => exact iteT ⟨_, rfl, x_use rfl (by decide) fun d hd => k2 e d hd⟩
end
end WC

set_option maxHeartbeats 4000000
namespace WC
open PySem PySem.Spec PyProof.Rows L2
/-- _numbers_at(stages, ends) -/
def spNums : Sp := fun vs H Q _ => ∃ (n : Nat) (l : Addr) (es : List Int), vs = [.int n, .ref l] ∧ n ≤ 40 ∧ H l = some (.lst (es.map V.int)) ∧ es.length ≤ 1000 ∧ (∀ e ∈ es, 0 ≤ e ∧ e < n) ∧
  ∀ H2 r, Same H H2 → H r = none → RowsA H2 r n es → Q (.ref r) H2
/-- the rows while they are filled -/
structure Filling (H0 H : Hp) (D : Addr) (ls : List Addr) (n : Nat) (es : List Int) (m : Nat) : Prop where
  same : Same H0 H
  dN : H0 D = none
  dL : H D = some (.lst (ls.map V.ref))
  len : ls.length = n
  nod : ls.Nodup
  fresh : ∀ l ∈ ls, H0 l = none ∧ l ≠ D
  rows : ∀ (j : Nat) l, ls[j]? = some l → H l = some (.lst ((occ es (j : Int) m).map V.int))
section
variable {P : Program} {w : World} {K : PySem.W.Frag} {mg : Str → Option Value} {base : Heap}
theorem ok_numbers_at {f : Addr} {fd : FuncData} (F : Fun K "_numbers_at" "_numbers_at" s_numbers_at f fd) (B : Blt mg) : FnOk P w K mg base (L2.CX P w) 1 f fd ["stages", "ends"] spNums := by
  refine F.okX sc_numbers_at (fun vs H Q E h => ?_) (fun cdv A outer s H vs Q E hr h => ?_)
  · obtain ⟨n, l, es, rfl, _⟩ := h
    rfl
  · obtain ⟨n, l, es, rfl, hn, hl, hle, hes, k⟩ := h
    -- slots: 0 stages, 1 ends, 2 numbers, 3 _, 4 number, 5 stage, 6 row
    refine ⟨_, pss_cons (ps_setLc (i := 2) (own := [("_", 3)]) rfl sc_numbers_at.nd rfl rfl (sw_true rfl rfl rfl (by decide +kernel)) (pi_range1 (by rfl) B.range (pa_cons (pv 0) pa_nil)) (blkOk_by (N := nn_numbers_at) (sc := defScope s_numbers_at) (own := [("_", 3)]) (by decide +kernel))
        (fun _ _ _ _ _ => pg_name (i := 3) sc_numbers_at.nd rfl (Or.inl rfl)) (fun _ _ _ _ _ => pts_nil) (fun _ _ _ _ _ => pe_lst pa_nil))
      (pss_cons (ps_for (passes_of rfl) rfl (pi_enum (by rfl) B.enum (pa_cons (pv 1) pa_nil)) (pg_tup rfl (pgs_cons (pg_name (i := 4) sc_numbers_at.nd rfl (Or.inl rfl)) (pgs_cons (pg_name (i := 5) sc_numbers_at.nd rfl (Or.inl rfl)) pgs_nil)))
        (pss_one (ps_expr (pe_bm PySem.F.plainAttrs_list PySem.F.slot_list_append PySem.F.type_list_append mt_append (pe_ix ix_list (pv 2) (pv 5) (fun _ _ => rfl)) (pa_cons (pv 4) pa_nil)))))
      (pss_one (ps_ret (pe_callTy call_tuple_of (by rfl) B.tuple (by decide +kernel) (pa_cons
        (pe_lc (own := [("row", 6)]) rfl sc_numbers_at.nd (pi_list (pv 2)) (blkOk_by (N := nn_numbers_at) (sc := defScope s_numbers_at) (own := [("row", 6)]) (by decide +kernel)) (fun _ _ _ _ _ => pg_name (i := 6) sc_numbers_at.nd rfl (Or.inl rfl)) (fun _ _ _ _ _ => pts_nil)
          (fun _ _ _ _ _ => pe_callTy (T := "tuple") (c_tup (K := K)) (by rfl) B.tuple bt_tuple (pa_cons (pv 6) pa_nil))) pa_nil))))), ?_⟩
    -- numbers = [[] for _ in range(stages)]
    refine ⟨_, rfl, (n : Int), rfl, by omega, by omega, fun D hD => lc_range (lo := 0) (n := n) (fun i H2 => ∃ ls, Filling H H2 D ls i es 0) ⟨[], ?_⟩ ?_ ?_⟩
    · exact ⟨Same.new hD, hD, upd_same, rfl, List.nodup_nil, fun _ z => (by cases z), fun j l e => (by simp at e)⟩
    · rintro i H2 hi ⟨ls, Fl⟩
      refine ⟨rfl, ?_⟩
      refine yes ?_
      refine ⟨by decide, fun p hp => ⟨ls.map V.ref, ?_, ?_, ls ++ [p], ?_⟩⟩
      · rw [upd_ne (ne_of_none Fl.dL hp)]
        exact Fl.dL
      · rw [List.length_map, Fl.len]
        exact line_lt (by omega)
      · have pD : p ≠ D := (ne_of_none Fl.dL hp).symm
        have pH : H p = none := Fl.same.free hp
        refine ⟨(Fl.same.newer pH).newer hD, hD, by rw [upd_same, List.map_append]; rfl, by rw [List.length_append, Fl.len]; rfl, ?_, ?_, ?_⟩
        · rw [List.nodup_append]
          refine ⟨Fl.nod, by simp, fun a ha b hb e => ?_⟩
          have hb := List.mem_singleton.mp hb
          obtain ⟨j, hj⟩ := List.mem_iff_getElem?.mp ha
          have z := Fl.rows j a hj
          rw [e, hb, hp] at z
          cases z
        · intro l2 h2
          rcases List.mem_append.mp h2 with h2 | h2
          · exact Fl.fresh l2 h2
          · have e := List.mem_singleton.mp h2
            rw [e]
            exact ⟨pH, pD⟩
        · intro j l2 e
          by_cases hj : j < ls.length
          · rw [List.getElem?_append_left hj] at e
            have z := Fl.rows j l2 e
            have hm := List.mem_of_getElem? e
            rw [upd_ne (Fl.fresh l2 hm).2, upd_ne (ne_of_none z hp)]
            exact z
          · rw [List.getElem?_append_right (by omega)] at e
            have e1 : l2 = p := by
              cases q : j - ls.length with
              | zero => rw [q] at e; exact (Option.some.inj e).symm
              | succ m => rw [q] at e; cases e
            rw [e1, upd_ne pD, upd_same, occ_zero]
            rfl
    · -- for number, stage in enumerate(ends)
      rintro H2 ⟨ls, Fl⟩
      refine ⟨_, rfl, l, _, rfl, SqL.of (Fl.same _ _ hl), for_it (walk_enum (xs := es.map V.int)) (fun m σ H3 => ∃ v4 v5 v3 v6, σ = [some (.int n), some (.ref l), some (.ref D), v3, v4, v5, v6] ∧ ∃ ls, Filling H H3 D ls n es m) ⟨_, _, _, _, rfl, ls, Fl⟩ ?_ ?_ ?_⟩
      · rintro i σ H3 _ ⟨_, _, _, _, _, ls, Fl⟩
        exact SqL.of (Fl.same _ _ hl)
      · rintro i x σ H3 H4 hi ⟨v4, v5, v3, v6, rfl, ls, Fl⟩ ⟨T, x1, y1, rfl, hT, rfl, e1, e2⟩
        cases e1
        rw [List.length_map] at hi
        have he : es[i]? = some es[i] := by simp [hi]
        have e3 : y1 = V.int es[i] := by
          have e2 : (es.map V.int)[i]? = some y1 := e2
          rw [List.getElem?_map, he] at e2
          exact (Option.some.inj e2).symm
        subst e3
        obtain ⟨g0, g1⟩ := hes _ (List.mem_of_getElem? he)
        obtain ⟨j, hj⟩ : ∃ j : Nat, es[i] = (j : Int) := ⟨es[i].toNat, by omega⟩
        have hjn : j < ls.length := by rw [Fl.len]; omega
        have hlj : ls[j]? = some ls[j] := by simp [hjn]
        have rj := Fl.rows j _ hlj
        have fj := Fl.fresh _ (List.mem_of_getElem? hlj)
        have TD : D ≠ T := ne_of_none Fl.dL hT
        have Tj : ls[j] ≠ T := ne_of_none rj hT
        refine ⟨T, _, rfl, SqT.of upd_same, rfl, ?_⟩
        refine ⟨_, _, rfl, _, _, rfl, rfl, _, rfl, _, rfl, D, _, _, .ref ls[j], rfl, rfl, SqL.of (by rw [upd_ne TD]; exact Fl.dL), ?_, ?_⟩
        · rw [hj]
          exact atI_nat (by rw [List.getElem?_map, hlj]; rfl)
        refine ⟨.inl ⟨rfl, _, SqL.of (by rw [upd_ne Tj]; exact rj)⟩, _, rfl, ls[j], _, _, rfl, rfl, by rw [upd_ne Tj]; exact rj, ?_, ?_⟩
        · rw [List.length_map]
          exact line_lt (by have := occ_len es (j : Int) i; omega)
        refine ⟨_, _, _, _, rfl, ls, ?_⟩
        have hTH : H T = none := Fl.same.free hT
        have hit : occ es (j : Int) (i + 1) = occ es (j : Int) i ++ [(i : Int)] := occ_hit (by rw [he, hj])
        refine ⟨(Fl.same.newer hTH).newer fj.1, hD, by rw [upd_ne (Ne.symm fj.2), upd_ne TD]; exact Fl.dL, Fl.len, Fl.nod, Fl.fresh, fun q l2 e => ?_⟩
        by_cases hq : q = j
        · subst hq
          rw [hlj] at e
          cases e
          rw [upd_same, hit, List.map_append]
          rfl
        · have ne : l2 ≠ ls[j] := fun z => hq ((List.getElem?_inj (by have := (List.getElem?_eq_some_iff.mp e).1; omega) Fl.nod).mp (by rw [e, hlj, z]))
          have z := Fl.rows q l2 e
          rw [upd_ne ne, upd_ne (ne_of_none z hT), occ_miss (e := es[i]) he (by rw [hj]; omega)]
          exact z
      · -- the tuples
        rintro σ H3 ⟨v4, v5, v3, v6, rfl, ls, Fl⟩
        rw [List.length_map] at Fl
        refine ⟨_, rfl, D, rfl, ⟨_, SqL.of Fl.dL⟩, fun R hR => lc_list (K := K) (a := D) (xs := ls.map V.ref) (fun m H4 => Same H3 H4 ∧ ∃ ts : List V, H4 R = some (.lst ts) ∧ ts.length = m ∧ ∀ (j : Nat) v, ts[j]? = some v → ∃ t, v = .ref t ∧ H4 t = some (.tup ((occ es (j : Int) es.length).map V.int))) ⟨Same.new hR, [], upd_same, rfl, fun j v e => by simp at e⟩ (fun i H4 _ h4 => SqL.of (h4.1 _ _ Fl.dL)) ?_ ?_⟩
        · rintro i x H4 hx ⟨s4, ts, t1, t2, t3⟩
          rw [List.getElem?_map] at hx
          obtain ⟨lx, e1, e2⟩ : ∃ lx, ls[i]? = some lx ∧ x = V.ref lx := by
            cases q : ls[i]? with
            | none => rw [q] at hx; cases hx
            | some lx => rw [q] at hx; exact ⟨lx, rfl, (Option.some.inj hx).symm⟩
          subst e2
          refine ⟨rfl, ?_⟩
          refine yes ?_
          refine ⟨_, rfl, lx, _, rfl, .inl ⟨SqL.of (s4 _ _ (Fl.rows i lx e1)), fun p hp => ⟨ts, ?_, ?_, ?_, ts ++ [.ref p], upd_same, by rw [List.length_append, t2]; rfl, ?_⟩⟩⟩
          · rw [upd_ne (ne_of_none t1 hp)]
            exact t1
          · have : i < ls.length := (List.getElem?_eq_some_iff.mp e1).1
            have := Fl.len
            exact line_lt (by omega)
          · exact Same.newer (Same.newer s4 (Same.free s4 hp)) hR
          · have pR : p ≠ R := (ne_of_none t1 hp).symm
            intro j v e
            by_cases hj : j < ts.length
            · rw [List.getElem?_append_left hj] at e
              obtain ⟨t, q1, q2⟩ := t3 j v e
              have tR : t ≠ R := fun z => by
                rw [z, t1] at q2
                cases q2
              refine ⟨t, q1, ?_⟩
              rw [upd_ne tR, upd_ne (ne_of_none q2 hp)]
              exact q2
            · rw [List.getElem?_append_right (by omega)] at e
              have e1 : v = V.ref p ∧ j = i := by
                cases q : j - ts.length with
                | zero => rw [q] at e; exact ⟨(Option.some.inj e).symm, by omega⟩
                | succ m => rw [q] at e; cases e
              refine ⟨p, e1.1, ?_⟩
              rw [upd_ne pR, upd_same, e1.2]
        · rintro H4 ⟨s4, ts, t1, t2, t3⟩
          rw [List.length_map, Fl.len] at t2
          refine ⟨R, ts, rfl, .inl ⟨SqL.of t1, fun r hr2 => ?_⟩⟩
          have s5 : Same H H4 := Fl.same.trans s4
          refine k _ r (Same.newer s5 (Same.free s5 hr2)) (Same.free s5 hr2) ⟨ts, upd_same, t2, fun j v e => ?_⟩
          obtain ⟨t, q1, q2⟩ := t3 j v e
          exact ⟨t, q1, by rw [upd_ne (ne_of_none q2 hr2)]; exact q2⟩
end
end WC

set_option maxHeartbeats 4000000
namespace WC
open PySem PySem.Spec PyProof.Rows L2
theorem pr_perm {α β : Type} {F : α → β → Prop} {ys vs : List β} (p : ys.Perm vs) : ∀ {cs : List α}, Paired F cs vs → ∃ cs2 : List α, cs2.Perm cs ∧ Paired F cs2 ys := by
  induction p with
  | nil => intro cs h; exact ⟨cs, .refl _, h⟩
  | cons x p ih =>
    intro cs h
    cases h with
    | cons a t =>
      obtain ⟨c2, q, r⟩ := ih t
      exact ⟨_ :: c2, q.cons _, .cons a r⟩
  | swap x y l =>
    intro cs h
    cases h with
    | cons a t =>
      cases t with
      | cons b t => exact ⟨_, .swap _ _ _, .cons b (.cons a t)⟩
  | trans p q ih1 ih2 =>
    intro cs h
    obtain ⟨c2, q1, r1⟩ := ih2 h
    obtain ⟨c3, q2, r2⟩ := ih1 r1
    exact ⟨c3, q2.trans q1, r2⟩
def key (c : Tri) : Int := (c.1 * 1000 + c.2.1) * 1000 + c.2.2
/-- a channel of a net of n stages -/
def ChOk (n : Nat) (c : Tri) : Prop := (0 ≤ c.1 ∧ c.1 < n) ∧ (0 ≤ c.2.1 ∧ c.2.1 < n) ∧ c.1 ≠ c.2.1 ∧ 1 ≤ c.2.2 ∧ c.2.2 ≤ 999
structure NetAt (H : Hp) (x C : Addr) (n : Nat) (cs : List Tri) : Prop where
  ex : ∃ dx tc ti to vs, H x = some (.ins C dx [("stages", .int n), ("channels", .ref tc), ("_incoming", .ref ti), ("_outgoing", .ref to)]) ∧ H tc = some (.tup vs) ∧ Paired (TriA H) cs vs ∧ RowsA H ti n (cs.map (·.2.1)) ∧ RowsA H to n (cs.map (·.1))
theorem NetAt.same {H H2 : Hp} {x C : Addr} {n : Nat} {cs : List Tri} (s : Same H H2) (h : NetAt H x C n cs) : NetAt H2 x C n cs := by
  obtain ⟨dx, tc, ti, to, vs, h1, h2, h3, h4, h5⟩ := h.ex
  exact ⟨dx, tc, ti, to, vs, s _ _ h1, s _ _ h2, tris_same s h3, h4.same s, h5.same s⟩
structure NetCls (K : PySem.W.Frag) (C : Addr) : Prop where
  cl : Cls K C
  nS : NoAttr K C "stages"
  nC : NoAttr K C "channels"
  nI : NoAttr K C "_incoming"
  nO : NoAttr K C "_outgoing"
def spNetInit (C : Addr) : Sp := fun vs H Q _ => ∃ (x dx l : Addr) (n : Nat) (cs : List Tri) (ws : List V), vs = [.ref x, .int n, .ref l] ∧ H x = some (.ins C dx []) ∧ n ≤ 40 ∧ cs.length ≤ 60 ∧ H l = some (.lst ws) ∧ Paired (TriA H) cs ws ∧ (∀ c ∈ cs, ChOk n c) ∧
  ∀ H2 cs2, cs2.Perm cs → cs2.Pairwise (fun a b => key a ≤ key b) → (∀ b o, H b = some o → b ≠ x → H2 b = some o) → NetAt H2 x C n cs2 → Q .non H2
abbrev flds4 (a b c d : V) : List (Str × V) := [(("stages" : Str), a), (("channels" : Str), b), (("_incoming" : Str), c), (("_outgoing" : Str), d)]
theorem fields4 {a b c d : V} : putF "_outgoing" d (putF "_incoming" c (putF "channels" b (putF "stages" a []))) = flds4 a b c d := by
  have h1 : ¬ (("stages" : Str) = "channels") := by decide +kernel
  have h2 : ¬ (("stages" : Str) = "_incoming") := by decide +kernel
  have h3 : ¬ (("stages" : Str) = "_outgoing") := by decide +kernel
  have h4 : ¬ (("channels" : Str) = "_incoming") := by decide +kernel
  have h5 : ¬ (("channels" : Str) = "_outgoing") := by decide +kernel
  have h6 : ¬ (("_incoming" : Str) = "_outgoing") := by decide +kernel
  simp only [putF, h1, h2, h3, h4, h5, h6, if_false]
theorem lk_st {a b c d : V} : (flds4 a b c d).lookup ("stages" : Str) = some a := by simp [List.lookup]
theorem lk_ch {a b c d : V} : (flds4 a b c d).lookup ("channels" : Str) = some b := by
  have h1 : (("channels" : Str) == ("stages" : Str)) = false := by decide +kernel
  simp [List.lookup, h1]
theorem lk_in {a b c d : V} : (flds4 a b c d).lookup ("_incoming" : Str) = some c := by
  have h1 : (("_incoming" : Str) == ("stages" : Str)) = false := by decide +kernel
  have h2 : (("_incoming" : Str) == ("channels" : Str)) = false := by decide +kernel
  simp [List.lookup, h1, h2]
theorem lk_ou {a b c d : V} : (flds4 a b c d).lookup ("_outgoing" : Str) = some d := by
  have h1 : (("_outgoing" : Str) == ("stages" : Str)) = false := by decide +kernel
  have h2 : (("_outgoing" : Str) == ("channels" : Str)) = false := by decide +kernel
  have h3 : (("_outgoing" : Str) == ("_incoming" : Str)) = false := by decide +kernel
  simp [List.lookup, h1, h2, h3]
theorem lk_ch2 {a b : V} : (putF "channels" b (putF "stages" a [])).lookup ("channels" : Str) = some b := by
  rw [lookup_putF, if_pos rfl]
theorem lk_ch3 {a b c : V} : (putF "_incoming" c (putF "channels" b (putF "stages" a []))).lookup ("channels" : Str) = some b := by
  have h4 : ¬ (("channels" : Str) = "_incoming") := by decide +kernel
  rw [lookup_putF, if_neg h4, lookup_putF, if_pos rfl]
theorem code3 (a b c : Int) : TS.code 1000 [a, b, c] = key (a, b, c) := by
  show a * 1000 ^ 2 + (b * 1000 ^ 1 + (c * 1000 ^ 0 + 0)) = (a * 1000 + b) * 1000 + c
  omega
section
variable {P : Program} {w : World} {K : PySem.W.Frag} {mg : Str → Option Value} {base : Heap}
/-- [channel[i] for channel in self.channels] gives the ends -/
theorem ok_Net_init {C f : Addr} {fd : FuncData} (F : Fun K "__init__" "Net.__init__" s_Net_init f fd) (B : Blt mg) (T : NetCls K C) (G : DefR P w K mg base "_numbers_at" 1 spNums) : FnOk P w K mg base (L2.CX P w) 2 f fd ["self", "stages", "channels"] (spNetInit C) := by
  refine F.okX sc_Net_init (fun vs H Q E h => ?_) (fun cdv A outer s H vs Q E hr h => ?_)
  · obtain ⟨x, dx, l, n, cs, ws, rfl, _⟩ := h
    rfl
  · obtain ⟨x, dx, l, n, cs, ws, rfl, hx, hn, hcs, hl, hp, hok, k⟩ := h
    refine ⟨_, pss_cons (ps_fld (pv 0) (pv 1) rfl) (pss_cons (ps_fld (pv 0) (pe_callTy (T := "tuple") (c_tup (K := K)) (by rfl) B.tuple bt_tuple (pa_cons (pe_callB (cr_sortT (d := 3) (B := 1000) (by decide)) (by rfl) B.sorted bt_sorted (pa_cons (pv 2) pa_nil)) pa_nil)) rfl)
      (pss_cons (ps_fld (pv 0) (pe_cd G hr psE (pa_cons (pv 1) (pa_cons (pe_lc (own := [("channel", 3)]) rfl sc_Net_init.nd (pi_tup (pe_fld (pv 0) rfl)) (blkOk_by (N := nn_Net_init) (sc := defScope s_Net_init) (own := [("channel", 3)]) (by decide +kernel)) (fun _ _ _ _ _ => pg_name (i := 3) sc_Net_init.nd rfl (Or.inl rfl)) (fun _ _ _ _ _ => pts_nil)
          (fun _ _ _ _ _ => pe_ix (i_tup (K := K)) (pv 3) pe_int (fun _ _ => rfl))) pa_nil))) rfl)
      (pss_one (ps_fld (pv 0) (pe_cd G hr psE (pa_cons (pv 1) (pa_cons (pe_lc (own := [("channel", 3)]) rfl sc_Net_init.nd (pi_tup (pe_fld (pv 0) rfl)) (blkOk_by (N := nn_Net_init) (sc := defScope s_Net_init) (own := [("channel", 3)]) (by decide +kernel)) (fun _ _ _ _ _ => pg_name (i := 3) sc_Net_init.nd rfl (Or.inl rfl)) (fun _ _ _ _ _ => pts_nil)
          (fun _ _ _ _ _ => pe_ix (i_tup (K := K)) (pv 3) pe_int (fun _ _ => rfl))) pa_nil))) rfl)))), ?_⟩
    have xl : x ≠ l := ne_of hx hl (by intro z; cases z)
    refine ⟨_, rfl, _, rfl, x, C, dx, _, rfl, hx, T.cl, T.nS, by show 0 < 1000; decide, ?_⟩
    -- self.channels = tuple(sorted(channels))
    have lx : l ≠ x := xl.symm
    refine ⟨_, rfl, l, ws, rfl, SqL.of (by rw [upd_ne lx]; exact hl), by rw [← hp.length]; omega, fun v hv => ?_, fun ys p hperm hpw np => ⟨p, ys, rfl, .inl ⟨SqL.of upd_same, fun q nq => ?_⟩⟩⟩
    · obtain ⟨i, hi⟩ := List.mem_iff_getElem?.mp hv
      obtain ⟨c, hc, t, rfl, ht⟩ := pr_at hp hi
      have tx : t ≠ x := ne_of ht hx (by intro z; cases z)
      obtain ⟨⟨a1, a2⟩, ⟨a3, a4⟩, _, a5, a6⟩ := hok c (List.mem_of_getElem? hc)
      refine ⟨[c.1, c.2.1, c.2.2], ⟨t, rfl, SqT.of (by rw [upd_ne tx]; exact ht)⟩, rfl, fun m hm => ?_⟩
      simp only [List.mem_cons, List.not_mem_nil, or_false] at hm
      rcases hm with e | e | e <;> rw [e] <;> omega
    -- the sorted channels
    obtain ⟨cs2, hcp, hp2⟩ := pr_perm hperm hp
    have hok2 : ∀ c ∈ cs2, ChOk n c := fun c hc => hok c (hcp.mem_iff.mp hc)
    have hlen : cs2.length = cs.length := hcp.length_eq
    have H1x : ∀ {b o}, H b = some o → b ≠ x → upd H x (.ins C dx (putF "stages" (.int n) [])) b = some o := fun {b o} e ne => by rw [upd_ne ne]; exact e
    have np' : H p = none := by
      have px : p ≠ x := fun z => by rw [z, upd_same] at np; cases np
      rw [upd_ne px] at np
      exact np
    have nq1 : upd H x (.ins C dx (putF "stages" (.int n) [])) q = none := Same.free (Same.new np) nq
    have nq' : H q = none := by
      have px : q ≠ x := fun z => by rw [z, upd_same] at nq1; cases nq1
      rw [upd_ne px] at nq1
      exact nq1
    have qx : x ≠ q := ne_of_none hx nq'
    have px : x ≠ p := ne_of_none hx np'
    have hsort : cs2.Pairwise fun a b => key a ≤ key b := by
      rw [List.pairwise_iff_getElem]
      intro i j hi hj hij
      obtain ⟨v1, e1, t1, rfl, f1⟩ := pr_to hp2 (i := i) (a := cs2[i]) (by simp [hi])
      obtain ⟨v2, e2, t2, rfl, f2⟩ := pr_to hp2 (i := j) (a := cs2[j]) (by simp [hj])
      obtain ⟨g1, g2⟩ := List.getElem?_eq_some_iff.mp e1
      obtain ⟨g3, g4⟩ := List.getElem?_eq_some_iff.mp e2
      have z := (List.pairwise_iff_getElem.mp hpw) i j g1 g3 hij
      rw [g2, g4] at z
      have n1 : t1 ≠ x := ne_of f1 hx (by intro z; cases z)
      have n2 : t2 ≠ x := ne_of f2 hx (by intro z; cases z)
      have y := z [cs2[i].1, cs2[i].2.1, cs2[i].2.2] [cs2[j].1, cs2[j].2.1, cs2[j].2.2] ⟨t1, rfl, SqT.of (H1x f1 n1)⟩ ⟨t2, rfl, SqT.of (H1x f2 n2)⟩
      rw [code3, code3] at y
      exact y
    refine ⟨_, rfl, x, C, dx, _, rfl, by rw [upd_ne qx, upd_ne px, upd_same], T.cl, T.nC, by show 1 < 1000; decide, ?_⟩
    -- H3: the channels kept
    obtain ⟨H3, eH3⟩ : ∃ H3, H3 = upd (upd (upd (upd H x (.ins C dx (putF "stages" (.int n) []))) p (.lst ys)) q (.tup ys)) x (.ins C dx (putF "channels" (.ref q) (putF "stages" (.int n) []))) := ⟨_, rfl⟩
    rw [← eH3]
    have hx3 : H3 x = some (.ins C dx (putF "channels" (.ref q) (putF "stages" (.int n) []))) := by rw [eH3, upd_same]
    have hq3 : H3 q = some (.tup ys) := by rw [eH3, upd_ne (Ne.symm qx), upd_same]
    have old3 : ∀ b o, H b = some o → b ≠ x → H3 b = some o := fun b o e ne => by
      rw [eH3, upd_ne ne, upd_ne (ne_of_none e nq'), upd_ne (ne_of_none e np'), upd_ne ne]
      exact e
    have hp3 : Paired (TriA H3) cs2 ys := Paired.mapP hp2 fun c v ⟨t, e, ht⟩ => ⟨t, e, old3 _ _ ht (ne_of ht hx (by intro z; cases z))⟩
    have ends : ∀ g : Tri → Int, (∀ c, g c = c.1 ∨ g c = c.2.1) → ∀ e ∈ cs2.map g, 0 ≤ e ∧ e < n := fun g hg e he => by
      obtain ⟨c, hc, e1⟩ := List.mem_map.mp he
      obtain ⟨b1, b2, _⟩ := hok2 c hc
      rcases hg c with z | z <;> rw [← e1, z] <;> assumption
    -- self._incoming
    refine ⟨_, rfl, ?_⟩
    refine comp_sel (K := K) (tc := q) (cs := cs2) (vs := ys) (fun c => c.2.1) (fun c => atI_nat (j := 1) rfl) (fun R hR => ⟨_, rfl, x, C, dx, _, _, rfl, hx3, T.cl, T.nC, lk_ch2, q, rfl, ⟨_, SqT.of hq3⟩, hR⟩) hq3 hp3 (by omega) (fun _ => rfl) (fun _ => rfl) fun D H4 s4 nD hD => ?_
    refine ⟨n, D, _, rfl, hn, hD, by rw [List.length_map]; omega, ends _ fun c => .inr rfl, fun H5 r s5 nr rows => ?_⟩
    have s35 : Same H3 H5 := s4.trans s5
    refine ⟨_, rfl, x, C, dx, _, rfl, s35 _ _ hx3, T.cl, T.nI, by show 2 < 1000; decide, ?_⟩
    obtain ⟨H6, eH6⟩ : ∃ H6, H6 = upd H5 x (.ins C dx (putF "_incoming" (.ref r) (putF "channels" (.ref q) (putF "stages" (.int n) [])))) := ⟨_, rfl⟩
    rw [← eH6]
    have hx6 : H6 x = some (.ins C dx (putF "_incoming" (.ref r) (putF "channels" (.ref q) (putF "stages" (.int n) [])))) := by rw [eH6, upd_same]
    have old6 : ∀ b o, H3 b = some o → b ≠ x → H6 b = some o := fun b o e ne => by
      rw [eH6, upd_ne ne]
      exact s35 _ _ e
    have rows6 : RowsA H6 r n (cs2.map fun c => c.2.1) := by
      obtain ⟨ts, r1, r2, r3⟩ := rows
      have nx : ∀ {b xs}, H5 b = some (.tup xs) → b ≠ x := fun {b xs} e => ne_of e (s35 _ _ hx3) (by intro z; cases z)
      refine ⟨ts, by rw [eH6, upd_ne (nx r1)]; exact r1, r2, fun j v e => ?_⟩
      obtain ⟨t, e1, e2⟩ := r3 j v e
      exact ⟨t, e1, by rw [eH6, upd_ne (nx e2)]; exact e2⟩
    have hq6 : H6 q = some (.tup ys) := old6 _ _ hq3 (Ne.symm qx)
    have hp6 : Paired (TriA H6) cs2 ys := Paired.mapP hp3 fun c v ⟨t, e, ht⟩ => ⟨t, e, old6 _ _ ht (ne_of ht hx3 (by intro z; cases z))⟩
    -- self._outgoing
    refine ⟨_, rfl, ?_⟩
    refine comp_sel (K := K) (tc := q) (cs := cs2) (vs := ys) (fun c => c.1) (fun c => atI_nat (j := 0) rfl) (fun R hR => ⟨_, rfl, x, C, dx, _, _, rfl, hx6, T.cl, T.nC, lk_ch3, q, rfl, ⟨_, SqT.of hq6⟩, hR⟩) hq6 hp6 (by omega) (fun _ => rfl) (fun _ => rfl) fun D2 H7 s7 nD2 hD2 => ?_
    refine ⟨n, D2, _, rfl, hn, hD2, by rw [List.length_map]; omega, ends _ fun c => .inl rfl, fun H8 r2 s8 nr2 rows2 => ?_⟩
    have s68 : Same H6 H8 := s7.trans s8
    refine ⟨_, rfl, x, C, dx, _, rfl, s68 _ _ hx6, T.cl, T.nO, by show 3 < 1000; decide, ?_⟩
    have nx8 : ∀ {b xs}, H8 b = some (.tup xs) → b ≠ x := fun {b xs} e => ne_of e (s68 _ _ hx6) (by intro z; cases z)
    refine k _ cs2 hcp hsort (fun b o e ne => ?_) ⟨dx, q, r, r2, ys, ?_, ?_, ?_, ?_, ?_⟩
    · rw [upd_ne ne]
      exact s68 _ _ (old6 _ _ (old3 _ _ e ne) ne)
    · rw [upd_same, fields4]
    · rw [upd_ne (Ne.symm qx)]
      exact s68 _ _ hq6
    · exact Paired.mapP hp6 fun c v ⟨t, e, ht⟩ => ⟨t, e, by rw [upd_ne (nx8 (s68 _ _ ht))]; exact s68 _ _ ht⟩
    · obtain ⟨ts, a1, a2, a3⟩ := rows6.same s68
      exact ⟨ts, by rw [upd_ne (nx8 a1)]; exact a1, a2, fun j v e => let ⟨t, e1, e2⟩ := a3 j v e; ⟨t, e1, by rw [upd_ne (nx8 e2)]; exact e2⟩⟩
    · obtain ⟨ts, a1, a2, a3⟩ := rows2
      exact ⟨ts, by rw [upd_ne (nx8 a1)]; exact a1, a2, fun j v e => let ⟨t, e1, e2⟩ := a3 j v e; ⟨t, e1, by rw [upd_ne (nx8 e2)]; exact e2⟩⟩
end
end WC

set_option maxHeartbeats 4000000
namespace WC
open PySem PySem.Spec PyProof.Rows L2
/-- what is read off the class Net, at N -/
structure NetK (K : PySem.W.Frag) (mg : Str → Option Value) (N : Addr) : Prop where
  gN : mg "Net" = some (.ref N)
  cr : ∃ mc, ClX.CRead K N mc ∧ (∃ u, ClX.CVal K N mc "MOST_STAGES" (.int 40) u) ∧ (∃ u, ClX.CVal K N mc "MOST_CHANNELS" (.int 120) u) ∧ (∃ u, ClX.CVal K N mc "MOST_CAPACITY" (.int 999) u) ∧ ∃ u, ClX.CVal K N mc "MOST_COUNTER" (.int 999) u
def spCap (K : PySem.W.Frag) : Sp := fun vs H Q _ => ∃ x, vs = [x] ∧ Known K H x ∧ Q (.bl (btw x 1 999)) H
def spJoins (K : PySem.W.Frag) : Sp := fun vs H Q _ => ∃ (n : Nat) (v : V) (c : Tri), vs = [.int n, v] ∧ TriA H c v ∧ ChOk n c ∧ ∀ H2, Same H H2 → Q (.bl true) H2
def spWith : Sp := fun vs H Q _ => ∃ (v d : V) (c : Tri), vs = [v, d] ∧ TriA H c v ∧ ∀ p, H p = none → Q (.ref p) (upd H p (.tup [.int c.1, .int c.2.1, .int c.2.2]))
theorem nv {K : PySem.W.Frag} {H : Hp} (i : Int) : Known K H (.int i) := trivial
theorem btw_in {i lo hi : Int} (h1 : lo ≤ i) (h2 : i ≤ hi) : btw (.int i) lo hi = true := by simp [btw, h1, h2]
section
variable {P : Program} {w : World} {K : PySem.W.Frag} {mg : Str → Option Value} {base : Heap}
theorem ok_is_capacity {N f : Addr} {fd : FuncData} (F : Fun K "is_capacity" "Net.is_capacity" s_Net_is_capacity f fd) (Z : NetK K mg N) (G : DefR P w K mg base "is_between" 1 (spBtw K)) : FnOk P w K mg base (L2.CX P w) 2 f fd ["value"] (spCap K) := by
  refine F.okX sc_Net_is_capacity (fun vs H Q E h => ?_) (fun cdv A outer s H vs Q E hr h => ?_)
  · obtain ⟨x, rfl, _⟩ := h
    rfl
  · obtain ⟨x, rfl, hk, k⟩ := h
    obtain ⟨mc, r, _, _, ⟨u, c⟩, _⟩ := Z.cr
    refine ⟨_, pss_one (ps_ret (pe_cd G hr psE (pa_cons (pv 0) (pa_cons pe_int (pa_cons (ClX.pe_cval (pe_glob (v := .ref N) (by rfl) Z.gN rfl)) pa_nil))))), ?_⟩
    exact ⟨_, rfl, N, mc, _, u, rfl, r, c, _, _, _, rfl, hk, k⟩
end
end WC

set_option maxHeartbeats 4000000
namespace WC
open PySem PySem.Spec PyProof.Rows L2
/-- has_circle of channels without one -/
def spNoCircle : Sp := fun vs H Q _ => ∃ (l : Addr) (cs : List Tri) (ws : List V), vs = [.ref l] ∧ H l = some (.lst ws) ∧ Paired (TriA H) cs ws ∧ Acyc cs ∧ cs.length ≤ 1000 ∧ ∀ H2, Same H H2 → Q (.bl false) H2
/-- what is fed: the keys of the dict at D -/
def Fed (H : Hp) (D : Addr) (cs : List Tri) (m : Nat) : Prop := ∃ kvs : List (Key × V), H D = some (.dK kvs) ∧ kvs.length ≤ m ∧ ∀ p : Int, (valV kvs (Sum.inl p)).isSome = decide (∃ c ∈ cs, c.2.1 = p)
theorem seqW {c : TT} {tb u : TS} {D : Ends} {σ : L2.St} {H : Hp} (h : tWhile c tb { D with nx := u D } σ H) : tSeq (tWhile c tb) u D σ H := h
def leftLen (σ : L2.St) (H : Hp) : Nat := match σ[1]? with
  | some (some (V.ref a)) => (match H a with
    | some (.lst xs) => xs.length
    | _ => 0)
  | _ => 0
section
variable {P : Program} {w : World} {K : PySem.W.Frag} {mg : Str → Option Value} {base : Heap}
end
end WC

set_option maxHeartbeats 4000000
namespace WC
open PySem PySem.Spec PyProof.Rows L2
def flI : List V → List (Str × V)
  | [r, p] => [("position", p), ("reason", r)]
  | _ => []
def pairOf (c : Tri) : Int × Int := (c.1, c.2.1)
def spCheckCh : Sp := fun vs H Q _ => ∃ (n : Nat) (t : Addr) (cs : List Tri) (ws : List V), vs = [.int n, .ref t] ∧ H t = some (.tup ws) ∧ Paired (TriA H) cs ws ∧ (∀ c ∈ cs, ChOk n c) ∧ (cs.map pairOf).Nodup ∧ cs.length ≤ 1000 ∧ ∀ H2, Same H H2 → Q .non H2
theorem cut2 (a b c : V) : cutV [a, b, c] none (some 2) = [a, b] := rfl
theorem cut2n {a b c : V} : ¬ (HT.sIx [a, b, c].length 0 none = 0 ∧ HT.sIx [a, b, c].length [a, b, c].length (some 2) = [a, b, c].length) := by
  intro z
  have z2 := z.2
  simp [HT.sIx] at z2
section
variable {P : Program} {w : World} {K : PySem.W.Frag} {mg : Str → Option Value} {base : Heap}
theorem ok_InvalidNet_init {f C : Addr} {fd : FuncData} (F : Fun K "__init__" "InvalidNet.__init__" s_InvalidNet_init f fd) (T : OexC K C) (h1 : PySem.W.findIn K (.ref C) "reason" = some none) (h2 : PySem.W.findIn K (.ref C) "position" = some none) :
    FnOk P w K mg base (L2.CX P w) 1 f fd ["self", "reason", "position"] (spX C 2 flI) := by
  refine F.okX sc_InvalidNet_init (fun vs H Q E h => ?_) (fun cdv A outer s H vs Q E hr h => ?_)
  · obtain ⟨a, ws, rfl, hl, _⟩ := h
    simp [hl]
  · obtain ⟨a, ws, rfl, hl, ha, k⟩ := h
    match ws, hl with
    | [v, u], _ =>
      refine ⟨_, pss_cons (ps_ost (pv 0) (pv 1)) (pss_one (ps_ost (pv 0) (pv 2))), ?_⟩
      refine ⟨_, rfl, _, rfl, a, C, rfl, T, h1, .inl ⟨ha, fun d hd hne => ⟨_, rfl, _, rfl, a, C, rfl, T, h2, .inr ⟨d, _, upd_same, by rw [upd_ne hne, upd_same], Nat.le_of_ble_eq_true rfl, ?_⟩⟩⟩⟩
      have q : upd (upd (upd H d (exd d [("reason", v)])) a (exo a C (some d))) d (exd d [("position", u), ("reason", v)]) = upd (upd H d (exd d [("position", u), ("reason", v)])) a (exo a C (some d)) := by
        funext b
        by_cases e : b = d
        · subst e
          rw [upd_same, upd_ne hne, upd_same]
        · by_cases e2 : b = a
          · subst e2
            rw [upd_ne e, upd_same, upd_same]
          · rw [upd_ne e, upd_ne e2, upd_ne e, upd_ne e2, upd_ne e]
      show Q .non (upd (upd (upd H d (exd d [("reason", v)])) a (exo a C (some d))) d (exd d [("position", u), ("reason", v)]))
      rw [q]
      exact k d hd hne
end
end WC

set_option maxHeartbeats 4000000
namespace WC
open PySem PySem.Spec PyProof.Rows L2
/-- a net is made of these channels: what is asked, and what stands behind -/
def spMake (C : Addr) (x : Addr) (n : Nat) (cs : List Tri) (H : Hp) (Q : VK) : Prop := ∀ H2 cs2, cs2.Perm cs → cs2.Pairwise (fun a b => key a ≤ key b) → (∀ b o, H b = some o → b ≠ x → H2 b = some o) → NetAt H2 x C n cs2 → Q .non H2
def spPipe (C : Addr) : Sp := fun vs H Q _ => ∃ (x dx : Addr) (n : Nat) (cs : List Tri) (ws : List V), vs = .ref x :: .int n :: ws ∧ H x = some (.ins C dx []) ∧ 1 ≤ n ∧ n ≤ 40 ∧ Paired (TriA H) cs ws ∧ (∀ c ∈ cs, ChOk n c) ∧ (cs.map pairOf).Nodup ∧ Acyc cs ∧ cs.length ≤ 60 ∧ spMake C x n cs H Q
def spPipeB (C : Addr) : Sp := fun vs H Q _ => ∃ (x dx t : Addr) (n : Nat) (cs : List Tri) (ws : List V), vs = [.ref x, .int n, .int 1, .ref t] ∧ H x = some (.ins C dx []) ∧ 1 ≤ n ∧ n ≤ 40 ∧ H t = some (.tup ws) ∧ Paired (TriA H) cs ws ∧ (∀ c ∈ cs, ChOk n c) ∧ (cs.map pairOf).Nodup ∧ Acyc cs ∧ cs.length ≤ 60 ∧ spMake C x n cs H Q
section
variable {P : Program} {w : World} {K : PySem.W.Frag} {mg : Str → Option Value} {base : Heap}
end
end WC

set_option maxHeartbeats 4000000
namespace WC
open PySem PySem.Spec PyProof.Rows L2
theorem key_lt {n : Nat} {a b : Tri} (hn : n ≤ 40) (ha : ChOk n a) (hb : ChOk n b) (h : a.1 < b.1) : key a < key b := by
  obtain ⟨⟨a1, a2⟩, ⟨a3, a4⟩, a5, a6, a7⟩ := ha
  obtain ⟨⟨b1, b2⟩, ⟨b3, b4⟩, b5, b6, b7⟩ := hb
  unfold key
  omega
theorem keys_inc {n : Nat} {cs : List Tri} (hn : n ≤ 40) (hok : ∀ c ∈ cs, ChOk n c) (h : Inc cs) : cs.Pairwise fun a b => key a < key b := List.Pairwise.imp_of_mem (fun {a b} ma mb z => key_lt hn (hok a ma) (hok b mb) z) h
/-- capacities -/
def CapsOk (ns : List Int) : Prop := ∀ c ∈ ns, 1 ≤ c ∧ c ≤ 999
theorem rowOf_ok {ns : List Int} (h : CapsOk ns) : ∀ c ∈ rowOf ns, ChOk (ns.length + 1) c := fun c hc => by
  obtain ⟨i, q, hq, rfl⟩ := rowOf_mem hc
  have hi := (List.getElem?_eq_some_iff.mp hq).1
  obtain ⟨h1, h2⟩ := h q (List.mem_of_getElem? hq)
  refine ⟨⟨?_, ?_⟩, ⟨?_, ?_⟩, ?_, h1, h2⟩ <;> dsimp only <;> omega
theorem ringOf_ok {ns : List Int} (h : CapsOk ns) (h3 : 3 ≤ ns.length) : ∀ c ∈ ringOf ns, ChOk ns.length c := fun c hc => by
  obtain ⟨i, q, hq, rfl⟩ := ringOf_mem hc
  have hi := (List.getElem?_eq_some_iff.mp hq).1
  obtain ⟨h1, h2⟩ := h q (List.mem_of_getElem? hq)
  have e : ((i : Int) + 1) % (ns.length : Int) = if i + 1 = ns.length then 0 else (i : Int) + 1 := by
    split
    · rename_i z
      have z2 : (i : Int) + 1 = (ns.length : Int) := by omega
      rw [z2, Int.emod_self]
    · exact Int.emod_eq_of_lt (by omega) (by omega)
  refine ⟨⟨?_, ?_⟩, ⟨?_, ?_⟩, ?_, h1, h2⟩ <;> dsimp only <;> (try rw [e]) <;> (try split) <;> omega
def spRow (C : Addr) : Sp := fun vs H Q _ => ∃ ns : List Int, vs = .ref C :: ns.map V.int ∧ CapsOk ns ∧ ns.length ≤ 39 ∧ ∀ H2 x, Same H H2 → H x = none → NetAt H2 x C (ns.length + 1) (rowOf ns) → Q (.ref x) H2
def spRowB (C : Addr) : Sp := fun vs H Q _ => ∃ (ns : List Int) (t : Addr), vs = [.ref C, .ref t] ∧ H t = some (.tup (ns.map V.int)) ∧ CapsOk ns ∧ ns.length ≤ 39 ∧ ∀ H2 x, Same H H2 → H x = none → NetAt H2 x C (ns.length + 1) (rowOf ns) → Q (.ref x) H2
def spRing (C : Addr) : Sp := fun vs H Q _ => ∃ (x dx : Addr) (ns : List Int), vs = .ref x :: ns.map V.int ∧ H x = some (.ins C dx []) ∧ CapsOk ns ∧ 3 ≤ ns.length ∧ ns.length ≤ 40 ∧ ∀ H2, (∀ b o, H b = some o → b ≠ x → H2 b = some o) → NetAt H2 x C ns.length (ringOf ns) → Q .non H2
def spRingB (C : Addr) : Sp := fun vs H Q _ => ∃ (x dx t : Addr) (ns : List Int), vs = [.ref x, .ref t] ∧ H x = some (.ins C dx []) ∧ H t = some (.tup (ns.map V.int)) ∧ CapsOk ns ∧ 3 ≤ ns.length ∧ ns.length ≤ 40 ∧ ∀ H2, (∀ b o, H b = some o → b ≠ x → H2 b = some o) → NetAt H2 x C ns.length (ringOf ns) → Q .non H2
section
variable {P : Program} {w : World} {K : PySem.W.Frag} {mg : Str → Option Value} {base : Heap}
end
end WC

set_option maxHeartbeats 4000000
namespace WC
open PySem PySem.Spec PyProof.Rows L2
section
variable {P : Program} {w : World} {K : PySem.W.Frag} {mg : Str → Option Value} {base : Heap}
theorem ok_Ring_init {f cc C N CI g : Addr} {kV lr : Value} (F : SFun P K "__init__" "Ring.__init__" s_Ring_init f cc C kV) (B : Blt mg) (Z : NetK K mg N) (hL : mg "LEAST_RING" = some lr) (hL3 : RelV (.int 3) lr)
    (G2 : StaR P w K mg base N "is_capacity" 2 (spCap K)) (T : ExcR P w K mg base "InvalidNet" CI 1 2 flI) (SP : SupTxt P K mg C C g "__init__") (G5 : FnR P w K mg base (L2.CX P w) 2 g (spNetInit C)) : FnR P w K mg base (L2.CX P w) 4 f (spRing C) := by
  refine FnR.imp (F.star (k := 3) (ps := ["self"]) (ks := []) (pv := "capacities") (kv := []) (kvV := []) (sp := spRingB C) sc_Ring_init .nil rfl (fun doc pm an cdv ct => .of_eq fun u1 u2 hl => ?_) ⟨_, rfl, rfl⟩ rfl rfl (fun cdv A outer s H vs Q E hr SZ h => ?_)) (fun vs H Q E h => ?_)
  · match u1, u2, hl with
    | [a], [], _ => rfl
    | [a], r :: rs, _ => rfl
  · obtain ⟨x, dx, t, ns, rfl, hx, ht, hc, h3, h40, k⟩ := h
    obtain ⟨mc, cr, ⟨u1, c1⟩, _, _, _⟩ := Z.cr
    -- slots 0 self, 1 capacities, 2 stages, 3 position, 4 capacity, 5 channels, 6 stage
    refine ⟨_, px_cons (ps_set (i := 2) sc_Ring_init.nod rfl (Or.inr rfl) (pe_callB call_len_seq (by rfl) B.len bt_len (pa_cons (pv 1) pa_nil)))
      (px_cons (ps_if (PW.pt (pw_or (pt_cmpR op_lt (pv 2) (pe_glob (v := .int 3) (by rfl) hL hL3) (nomark _)) (pw_or1 (pt_cmpR op_gt (pv 2) (ClX.pe_cval (pe_glob (v := .ref N) (by rfl) Z.gN rfl)) (nomark _))))) (pss_one (ps_raise rfl (takes_of rfl rfl rfl rfl) (pmk_x T hr (pa_cons pe_str (pa_cons pe_non pa_nil))))) pss_nil)
      (px_cons (ps_for (passes_of rfl) rfl (pi_et B.enum (pa_cons (pv 1) pa_nil)) (pg_tup rfl (pgs_cons (pg_name (i := 3) sc_Ring_init.nod rfl (Or.inl rfl)) (pgs_cons (pg_name (i := 4) sc_Ring_init.nod rfl (Or.inl rfl)) pgs_nil)))
        (pss_one (ps_if (pt_not (pt_val (pe_sta G2 (pe_glob (v := .ref N) (by rfl) Z.gN rfl) hr psS (pa_cons (pv 4) pa_nil)))) (pss_one (ps_raise rfl (takes_of rfl rfl rfl rfl) (pmk_x T hr (pa_cons pe_str (pa_cons (pv 3) pa_nil))))) pss_nil)))
      (px_cons (ps_setLc (i := 5) (own := [("stage", 6), ("capacity", 4)]) rfl sc_Ring_init.nod rfl rfl (sw_true rfl rfl rfl (by decide +kernel)) (pi_et B.enum (pa_cons (pv 1) pa_nil)) (blkOk_by (N := nn_Ring_init) (sc := defScope s_Ring_init) (own := [("stage", 6), ("capacity", 4)]) (by decide +kernel))
          (fun _ _ _ _ _ => pg_tupK (K := K) (n := 2) rfl (pgs_cons (pg_name (i := 6) sc_Ring_init.nod rfl (Or.inl rfl)) (pgs_cons (pg_name (i := 4) sc_Ring_init.nod rfl (Or.inl rfl)) pgs_nil))) (fun _ _ _ _ _ => pts_nil) (fun _ _ _ _ _ => pe_tup (pa_cons (pv 6) (pa_cons (pe_op op_modN (pe_op op_add (pv 6) pe_int) (pv 2)) (pa_cons (pv 4) pa_nil)))))
      (px_sup (i := 0) SP SZ G5 (hr.mono (by decide)) psS rfl (pa_cons (pv 2) (pa_cons (pv 5) pa_nil)) (px_of pss_nil))))), ?_⟩
    have hl : (ns.map V.int).length = ns.length := List.length_map _
    refine ⟨_, rfl, t, _, rfl, .inr (SqT.of ht), _, rfl, _, _, rfl, rfl, _, rfl, ?_⟩
    have q1 : decide (((ns.map V.int).length : Int) < 3) = false := by apply decide_eq_false; omega
    rw [q1]
    refine iteF ⟨_, rfl, N, mc, _, u1, rfl, cr, c1, _, _, rfl, rfl, _, rfl, ?_⟩
    have q2 : decide ((40 : Int) < ((ns.map V.int).length : Int)) = false := by apply decide_eq_false; omega
    rw [q2]
    refine iteF ⟨_, rfl, t, _, rfl, SqT.of ht, for_it (walk_et (xs := ns.map V.int)) (fun i σ H2 => ∃ v3 v4, σ = [some (.ref x), some (.ref t), some (.int ns.length), v3, v4, none, none] ∧ Same H H2) ⟨_, _, by rw [← hl]; rfl, Same.refl H⟩ ?_ ?_ ?_⟩
    · rintro i σ H2 _ ⟨_, _, _, s2⟩
      exact SqT.of (s2 _ _ ht)
    · rintro i y σ H2 H3 hi ⟨v3, v4, rfl, s2⟩ ⟨T1, x1, y1, rfl, hT, rfl, e1, e2⟩
      cases e1
      rw [List.length_map] at hi
      have q : ns[i]? = some ns[i] := by simp [hi]
      have e2 : (ns.map V.int)[i]? = some y1 := e2
      rw [List.getElem?_map, q] at e2
      obtain rfl := Option.some.inj e2
      obtain ⟨b1, b2⟩ := hc _ (List.mem_of_getElem? q)
      refine ⟨T1, _, rfl, SqT.of upd_same, rfl, _, _, rfl, _, _, rfl, rfl, rfl, _, rfl, _, rfl, nv _, _, rfl, ?_⟩
      rw [btw_in b1 b2]
      exact iteF ⟨_, _, rfl, Same.newer s2 (Same.free s2 hT)⟩
    · rintro σ H1 ⟨v3, v4, rfl, s1⟩
      have ht1 := s1 _ _ ht
      refine ⟨_, rfl, t, _, rfl, SqT.of ht1, fun D hD => lc_it (walk_et (xs := ns.map V.int)) (fun i H2 => Same H1 H2 ∧ ∃ ks, H2 D = some (.lst ks) ∧ Paired (TriA H2) ((ringOf ns).take i) ks) ⟨Same.new hD, [], upd_same, .nil⟩ (fun i H2 _ q => SqT.of (q.1 _ _ ht1)) ?_ ?_⟩
      · rintro i y H2 H3 hi ⟨s2, ks, k1, k2⟩ ⟨T1, x1, y1, rfl, hT, rfl, e1, e2⟩
        cases e1
        rw [List.length_map] at hi
        have q : ns[i]? = some ns[i] := by simp [hi]
        have e2 : (ns.map V.int)[i]? = some y1 := e2
        rw [List.getElem?_map, q] at e2
        obtain rfl := Option.some.inj e2
        refine ⟨T1, _, rfl, SqT.of upd_same, rfl, _, _, rfl, _, _, rfl, rfl, rfl, yes ⟨_, rfl, _, rfl, _, _, rfl, rfl, _, rfl, _, _, rfl, rfl, by omega, _, rfl, by show 3 ≤ sizeLine; decide, fun p hp => ⟨ks, ?_, ?_, ?_, ks ++ [.ref p], upd_same, ?_⟩⟩⟩
        · rw [upd_ne (ne_of_none (Same.new hT _ _ k1) hp), upd_ne (ne_of_none k1 hT)]
          exact k1
        · rw [← k2.length, List.length_take, ringOf_len]
          exact line_lt (by omega)
        · exact Same.newer (Same.newer (Same.newer s2 (Same.free s2 hT)) (Same.free (Same.newer s2 (Same.free s2 hT)) hp)) hD
        · have pD : p ≠ D := (ne_of_none (Same.new hT _ _ k1) hp).symm
          rw [take_snoc (ringOf_at q)]
          refine pr_snoc (Paired.mapP k2 fun c2 v2 ⟨t2, e1, e2⟩ => ⟨t2, e1, ?_⟩) ⟨p, rfl, ?_⟩
          · rw [upd_ne (ne_of e2 k1 (by intro z; cases z)), upd_ne (ne_of_none (Same.new hT _ _ e2) hp), upd_ne (ne_of_none e2 hT)]
            exact e2
          · have fe : Int.fmod ((i : Int) + 1) (ns.length : Int) = ((i : Int) + 1) % (ns.length : Int) := Int.fmod_eq_emod_of_nonneg _ (by omega)
            rw [upd_ne pD, upd_same]
            dsimp only
            rw [fe]
      · rintro H2 ⟨s2, ks, k1, k2⟩
        have el : (ns.map V.int).length = (ringOf ns).length := by rw [List.length_map, ringOf_len]
        rw [el, List.take_length] at k2
        have hok := ringOf_ok hc h3
        have s02 : Same H H2 := s1.trans s2
        refine ⟨x, dx, _, rfl, s02 _ _ hx, _, rfl, _, rfl, x, dx, D, ns.length, ringOf ns, ks, rfl, s02 _ _ hx, h40, by rw [ringOf_len]; omega, k1, k2, hok, fun H3 cs2 a b c d => ?_⟩
        have e := sorted_one a b (keys_inc h40 hok (ringOf_inc ns))
        subst e
        exact k H3 (fun b2 o e ne => c b2 o (s02 _ _ e) ne) d
  · obtain ⟨x, dx, ns, rfl, hx, hc, h3, h40, k⟩ := h
    refine ⟨[.ref x], ns.map V.int, rfl, rfl, by rw [List.length_map]; exact line_of (by omega), fun p hp => ⟨x, dx, p, ns, rfl, ?_, upd_same, hc, h3, h40, fun H2 a b => k H2 (fun b2 o e ne => a b2 o ?_ ne) b⟩⟩
    · rw [upd_ne (ne_of_none hx hp)]
      exact hx
    · rw [upd_ne (ne_of_none e hp)]
      exact e
end
end WC

set_option maxHeartbeats 4000000
namespace WC
open PySem PySem.Spec PyProof.Rows L2
structure Blt2 (mg : Str → Option Value) : Prop where
  zip : mg "zip" = none
  rev : mg "reversed" = none
/-- a net as it is drawn: of few stages and channels, each right -/
structure NOk (n : Nat) (cs : List Tri) : Prop where
  ok : ∀ c ∈ cs, ChOk n c
  len : cs.length ≤ 60
  n40 : n ≤ 40
  n1 : 1 ≤ n
def flP : List V → List (Str × V)
  | [v] => [("position", v)]
  | _ => []
def StAt (H : Hp) (v : V) (ns : List Int) : Prop := ∃ t, v = .ref t ∧ H t = some (.tup (ns.map V.int))
def StOk (n : Nat) (ns : List Int) : Prop := ns.length = n ∧ ∀ c ∈ ns, 0 ≤ c ∧ c ≤ 999
/-- a value that is handed over as a state -/
def Cand (K : PySem.W.Frag) (H : Hp) (v : V) : Prop := Known K H v ∧ ∀ t xs, v = .ref t → H t = some (.tup xs) → xs.length ≤ 1000 ∧ ∀ y ∈ xs, Known K H y
/-- a value that is no state: what InvalidState tells -/
inductive StBad (K : PySem.W.Frag) (H : Hp) (n : Nat) : V → V → Prop
  | shape {v : V} (k : Known K H v) (h : ∀ t xs, v = .ref t → H t = some (.tup xs) → xs.length ≠ n) : StBad K H n v .non
  | item {t : Addr} {xs : List V} {x : V} {i : Nat} (ht : H t = some (.tup xs)) (hl : xs.length = n) (hi : xs[i]? = some x) (hx : btw x 0 999 = false) (hb : ∀ j y, j < i → xs[j]? = some y → btw y 0 999 = true) (hk : ∀ y ∈ xs, Known K H y) : StBad K H n (.ref t) (.int (i : Nat))
theorem Known.same {K : PySem.W.Frag} {H H2 : Hp} {v : V} (k : Known K H v) (s : Same H H2) : Known K H2 v := by
  cases v with
  | ref a => exact k.imp (fun ⟨xs, e⟩ => ⟨xs, s _ _ e⟩) (fun ⟨xs, e⟩ => ⟨xs, s _ _ e⟩)
  | int i => trivial
  | bl b => trivial
  | non => trivial
  | str z => trivial
  | byt b => exact k
  | flt b => exact k
  | ty n => exact k
theorem StAt.same {H H2 : Hp} {v : V} {ns : List Int} (h : StAt H v ns) (s : Same H H2) : StAt H2 v ns := let ⟨t, e, q⟩ := h; ⟨t, e, s _ _ q⟩
theorem ints_inj : ∀ {ns ms : List Int}, ns.map V.int = ms.map V.int → ns = ms
  | [], [], _ => rfl
  | [], _ :: _, h => by cases h
  | _ :: _, [], h => by cases h
  | a :: ns, b :: ms, h => by
    rw [List.map_cons, List.map_cons] at h
    injection h with h1 h2
    rw [V.int.inj h1, ints_inj h2]
theorem st_one {H : Hp} {v : V} {ns ms : List Int} (h : StAt H v ns) (g : StAt H v ms) : ns = ms := by
  obtain ⟨t, e, q⟩ := h
  obtain ⟨u, e2, q2⟩ := g
  rw [e] at e2
  cases e2
  rw [q] at q2
  injection q2 with q2
  injection q2 with q2
  exact ints_inj q2
theorem st_not {K : PySem.W.Frag} {H : Hp} {n : Nat} {v p : V} {ns : List Int} (h : StAt H v ns) (k : StOk n ns) (b : StBad K H n v p) : False := by
  obtain ⟨t, e, q⟩ := h
  subst e
  cases b with
  | shape _ h2 => exact h2 t _ rfl q (by rw [List.length_map]; exact k.1)
  | @item _ xs x i ht _ hi hx _ _ =>
    rw [q] at ht
    cases ht
    rw [List.getElem?_map] at hi
    cases e3 : ns[i]? with
    | none => rw [e3] at hi; cases hi
    | some c =>
      rw [e3] at hi
      cases hi
      obtain ⟨c0, c1⟩ := k.2 c (List.mem_of_getElem? e3)
      rw [btw_in c0 c1] at hx
      cases hx
theorem st_cand {K : PySem.W.Frag} {H : Hp} {v : V} {n : Nat} {ns : List Int} (h : StAt H v ns) (k : StOk n ns) (hn : n ≤ 1000) : Cand K H v := by
  obtain ⟨t, rfl, q⟩ := h
  refine ⟨.inl ⟨_, q⟩, fun u xs e q2 => ?_⟩
  cases e
  rw [q] at q2
  cases q2
  refine ⟨by rw [List.length_map, k.1]; exact hn, fun y hy => ?_⟩
  obtain ⟨i, _, rfl⟩ := List.mem_map.mp hy
  trivial
theorem Cand.same {K : PySem.W.Frag} {H H2 : Hp} {v : V} (c : Cand K H v) (s : Same H H2) : Cand K H2 v := by
  refine ⟨c.1.same s, fun t xs e q => ?_⟩
  subst e
  rcases c.1 with ⟨ys, e2⟩ | ⟨ys, e2⟩
  · have e3 := s _ _ e2
    rw [q] at e3
    cases e3
    obtain ⟨h1, h2⟩ := c.2 t xs rfl e2
    exact ⟨h1, fun y hy => (h2 y hy).same s⟩
  · have e3 := s _ _ e2
    rw [q] at e3
    cases e3
theorem StBad.same {K : PySem.W.Frag} {H H2 : Hp} {n : Nat} {v p : V} (b : StBad K H n v p) (s : Same H H2) : StBad K H2 n v p := by
  cases b with
  | shape k h =>
    refine .shape (k.same s) fun t xs e q => ?_
    subst e
    rcases k with ⟨ys, e2⟩ | ⟨ys, e2⟩
    · have e3 := s _ _ e2
      rw [q] at e3
      cases e3
      exact h t xs rfl e2
    · have e3 := s _ _ e2
      rw [q] at e3
      cases e3
  | item ht hl hi hx hb hk => exact .item (s _ _ ht) hl hi hx hb fun y hy => (hk y hy).same s
def isTup (H : Hp) : V → Bool
  | .ref a => match H a with
    | some (.tup _) => true
    | _ => false
  | _ => false
theorem kit_tup {K : PySem.W.Frag} {H : Hp} {x : V} (k : Known K H x) : PySem.W.kitOne K (.type (tyN H x)) (.type "tuple") = some (isTup H x) := by
  cases x with
  | int i => exact kb "int" "tuple" false (by decide +kernel) rfl
  | bl b => exact kb "bool" "tuple" false (by decide +kernel) rfl
  | non  => exact kb "NoneType" "tuple" false (by decide +kernel) rfl
  | str z => exact kb "str" "tuple" false (by decide +kernel) rfl
  | ref a =>
    rcases k with ⟨xs, e⟩ | ⟨xs, e⟩
    · have q1 : tyN H (.ref a) = "tuple" := by simp only [tyN, e]
      have q2 : isTup H (.ref a) = true := by simp only [isTup, e]
      rw [q2]
      exact kb "tuple" "tuple" true (by decide +kernel) q1
    · have q1 : tyN H (.ref a) = "list" := by simp only [tyN, e]
      have q2 : isTup H (.ref a) = false := by simp only [isTup, e]
      rw [q2]
      exact kb "list" "tuple" false (by decide +kernel) q1
  | byt b => exact k.elim
  | flt b => exact k.elim
  | ty n => exact k.elim
theorem istup_cases {K : PySem.W.Frag} {H : Hp} {v : V} (k : Known K H v) : (isTup H v = true ∧ ∃ t xs, v = .ref t ∧ H t = some (.tup xs)) ∨ (isTup H v = false ∧ ∀ t xs, v = .ref t → H t ≠ some (.tup xs)) := by
  cases v with
  | ref a =>
    rcases k with ⟨xs, e⟩ | ⟨xs, e⟩
    · exact .inl ⟨by simp only [isTup, e], a, xs, rfl, e⟩
    · refine .inr ⟨by simp only [isTup, e], fun t ys z q => ?_⟩
      cases z
      rw [e] at q
      cases q
  | _ => exact .inr ⟨rfl, fun t xs e => by cases e⟩
/-- a function of a net and a state, and of further arguments -/
def spS (K : PySem.W.Frag) (CS : List Addr) (CX : Addr) (m : Nat) (res : Hp → Nat → List Tri → V → List Int → List V → VK → XK → Prop) : Sp := fun vs H Q E => ∃ (C x : Addr) (v : V) (n : Nat) (cs : List Tri) (rest : List V), C ∈ CS ∧ vs = .ref x :: v :: rest ∧ rest.length = m ∧ NetAt H x C n cs ∧ NOk n cs ∧ Cand K H v ∧
  (∀ ns, StAt H v ns → StOk n ns → res H n cs v ns rest Q E) ∧ (∀ p, StBad K H n v p → ErrX E CX H [("position", p)])
def resState : Hp → Nat → List Tri → V → List Int → List V → VK → XK → Prop := fun H _ _ v _ _ Q _ => ∀ H2, Same H H2 → Q v H2
section
variable {P : Program} {w : World} {K : PySem.W.Frag} {mg : Str → Option Value} {base : Heap}
theorem ok_InvalidState_init {f C : Addr} {fd : FuncData} (F : Fun K "__init__" "InvalidState.__init__" s_InvalidState_init f fd) (T : OexC K C) (hno : PySem.W.findIn K (.ref C) "position" = some none) : FnOk P w K mg base (L2.CX P w) 1 f fd ["self", "position"] (spX C 1 flP) := by
  refine F.okX sc_InvalidState_init (fun vs H Q E h => ?_) (fun cdv A outer s H vs Q E hr h => ?_)
  · obtain ⟨a, ws, rfl, hl, _⟩ := h
    simp [hl]
  · obtain ⟨a, ws, rfl, hl, ha, k⟩ := h
    match ws, hl with
    | [v], _ =>
      refine ⟨_, pss_one (ps_ost (pv 0) (pv 1)), ?_⟩
      exact ⟨_, rfl, _, rfl, a, C, rfl, T, hno, .inl ⟨ha, fun d hd hne => k d hd hne⟩⟩
theorem ok_check_state {f N CX : Addr} {CS : List Addr} {fd : FuncData} (F : Fun K "check_state" "check_state" s_check_state f fd) (B : Blt mg) (Z : NetK K mg N) (T : ∀ C ∈ CS, NetCls K C) (g_is_between : DefR P w K mg base "is_between" 1 (spBtw K)) (t_InvalidState : ExcR P w K mg base "InvalidState" CX 1 1 flP) :
    FnOk P w K mg base (L2.CX P w) 3 f fd ["net", "state"] (spS K CS CX 0 resState) := by
  refine F.okX sc_check_state (fun vs H Q E h => ?_) (fun cdv A outer s H vs Q E hr h => ?_)
  · obtain ⟨C, x, v, n, cs, rest, _, rfl, hl, _⟩ := h
    obtain rfl := List.length_eq_zero_iff.mp hl
    rfl
  · obtain ⟨C, x, v, n, cs, rest, hC, rfl, hl, NA, G, hc, k1, k2⟩ := h
    obtain rfl := List.length_eq_zero_iff.mp hl
    obtain ⟨mc, cr, _, _, _, ⟨u4, c4⟩⟩ := Z.cr
    obtain ⟨dx, tc, ti, to, ws, hx, _⟩ := NA.ex
    have TC := T C hC
    have hk := hc.1
    -- slots: 0 net, 1 state, 2 position, 3 counter
    refine ⟨_, (pss_cons (ps_if (PW.pt (pw_or (pt_not (pt_val (pe_callB call_isi (by rfl) B.isi bt_isi (pa_cons (pv 1) (pa_cons (pe_bltn (v := .ty "tuple") (by rfl) B.tuple bt_tuple rfl) pa_nil))))) (pw_or1 (pt_cmpR op_ne (pe_callB call_len_seq (by rfl) B.len bt_len (pa_cons (pv 1) pa_nil)) (pe_fld (pv 0) rfl) (nomark _))))) (pss_one (ps_raise rfl (takes_of rfl rfl rfl rfl) (pmk_x t_InvalidState hr (pa_cons pe_non pa_nil)))) pss_nil)
      (pss_cons (ps_for (passes_of rfl) rfl (pi_et B.enum (pa_cons (pv 1) pa_nil)) (pg_tup rfl (pgs_cons (pg_name (i := 2) sc_check_state.nd rfl (Or.inl rfl)) (pgs_cons (pg_name (i := 3) sc_check_state.nd rfl (Or.inl rfl)) pgs_nil)))
        (pss_one (ps_if (pt_not (pt_val (pe_cd g_is_between hr psE (pa_cons (pv 3) (pa_cons pe_int (pa_cons (ClX.pe_cval (pe_glob (v := .ref N) (by rfl) Z.gN rfl)) pa_nil)))))) (pss_one (ps_raise rfl (takes_of rfl rfl rfl rfl) (pmk_x t_InvalidState hr (pa_cons (pv 2) pa_nil)))) pss_nil)))
      (pss_one (ps_ret (pv 1))))), ?_⟩
    refine ⟨_, rfl, _, _, _, _, _, rfl, .ty _, hk.ty, kit_tup hk, _, rfl, ?_⟩
    rcases istup_cases hk with ⟨e, t, xs, rfl, ht⟩ | ⟨e, no⟩
    · rw [e]
      refine iteF ⟨_, rfl, t, xs, rfl, .inr (SqT.of ht), _, rfl, x, C, dx, _, _, rfl, hx, TC.cl, TC.nS, lk_st, rfl, _, rfl, ?_⟩
      by_cases hln : xs.length = n
      · rw [show (!decide (V.int (xs.length : Nat) = V.int (n : Nat))) = false by simp [hln]]
        obtain ⟨xl, xk⟩ := hc.2 t xs rfl ht
        refine iteF ⟨_, rfl, t, xs, rfl, SqT.of ht, for_it (walk_et (xs := xs)) (fun i σ H2 => ∃ v2 v3, σ = [some (.ref x), some (.ref t), v2, v3] ∧ Same H H2 ∧ ∀ j y, j < i → xs[j]? = some y → btw y 0 999 = true) ⟨_, _, rfl, Same.refl H, fun j y h => by omega⟩ ?_ ?_ ?_⟩
        · rintro i σ H2 _ ⟨_, _, _, s2, _⟩
          exact SqT.of (s2 _ _ ht)
        · rintro i y σ H2 H3 hi ⟨v2, v3, rfl, s2, hb⟩ ⟨T1, x1, y1, rfl, hT, rfl, e1, e2⟩
          cases e1
          have s3 : Same H (upd H2 T1 (.tup [.int (i : Nat), y1])) := Same.newer s2 (Same.free s2 hT)
          have hky : Known K (upd H2 T1 (.tup [.int (i : Nat), y1])) y1 := (xk y1 (List.mem_of_getElem? e2)).same s3
          refine ⟨T1, _, rfl, SqT.of upd_same, rfl, _, _, rfl, _, _, rfl, rfl, _, rfl, N, mc, _, u4, rfl, cr, c4, y1, 0, 999, rfl, hky, _, rfl, ?_⟩
          cases eb : btw y1 0 999 with
          | true =>
            refine iteF ⟨_, _, rfl, s3, fun j y hj hy => ?_⟩
            rcases Nat.lt_succ_iff_lt_or_eq.mp hj with h | h
            · exact hb j y h hy
            · subst h
              have e2 : xs[j]? = some y1 := e2
              rw [e2] at hy
              cases hy
              exact eb
          | false =>
            refine iteT ⟨_, rfl, x_use rfl (by decide) (((k2 _ (.item ht hln e2 eb hb xk)).on s3).new)⟩
        · rintro σ H2 ⟨v2, v3, rfl, s2, hb⟩
          have hall : ∃ ns : List Int, xs = ns.map V.int ∧ StOk n ns := by
            have q : ∀ (l : List V), (∀ y ∈ l, btw y 0 999 = true) → ∃ ns : List Int, l = ns.map V.int ∧ ∀ c ∈ ns, 0 ≤ c ∧ c ≤ 999 := by
              intro l
              induction l with
              | nil => intro _; exact ⟨[], rfl, fun c hc => by cases hc⟩
              | cons a l ih =>
                intro h
                obtain ⟨ns, e1, e2⟩ := ih fun y hy => h y (List.mem_cons_of_mem _ hy)
                have ha := h a List.mem_cons_self
                cases a with
                | int i =>
                  have ha : (decide (0 ≤ i) && decide (i ≤ 999)) = true := ha
                  rw [Bool.and_eq_true] at ha
                  refine ⟨i :: ns, by rw [e1]; rfl, fun c hc => ?_⟩
                  rcases List.mem_cons.mp hc with z | z
                  · rw [z]; exact ⟨of_decide_eq_true ha.1, of_decide_eq_true ha.2⟩
                  · exact e2 c z
                | _ => cases ha
            obtain ⟨ns, e1, e2⟩ := q xs fun y hy => by
              obtain ⟨j, hj⟩ := List.mem_iff_getElem?.mp hy
              exact hb j y (List.getElem?_eq_some_iff.mp hj).1 hj
            exact ⟨ns, e1, by rw [← hln, e1, List.length_map], e2⟩
          obtain ⟨ns, e1, e2⟩ := hall
          subst e1
          exact ⟨_, rfl, k1 ns ⟨t, rfl, ht⟩ e2 H2 s2⟩
      · rw [show (!decide (V.int (xs.length : Nat) = V.int (n : Nat))) = true by simp; omega]
        refine iteT (x_use rfl (by decide) ((k2 _ (.shape hk fun u ys e2 q => ?_)).new))
        cases e2
        rw [ht] at q
        cases q
        exact hln
    · rw [e]
      exact iteT (x_use rfl (by decide) ((k2 _ (.shape hk fun u ys e2 q => absurd q (no u ys e2))).new))
end
end WC

set_option maxHeartbeats 4000000
namespace WC
open PySem PySem.Spec PyProof.Rows L2
/-- what a method tells that asks for a stage: res of a good one, else NotFound of the argument -/
def spAsk (K : PySem.W.Frag) (C CN : Addr) (res : Hp → Nat → List Tri → Int → VK → Prop) : Sp := fun vs H Q E => ∃ (x : Addr) (v : V) (n : Nat) (cs : List Tri), vs = [.ref x, v] ∧ NetAt H x C n cs ∧ Known K H v ∧ n ≤ 40 ∧ (∀ c ∈ cs, ChOk n c) ∧ cs.length ≤ 1000 ∧
  (∀ i : Int, v = .int i → 0 ≤ i → i < n → res H n cs i Q) ∧ (btw v 0 (n - 1) = false → ∀ d, H d = none → E (.ref CN) (some d) (upd H d (.xd [("number", v)])))
/-- the row of the places of i among the ends -/
def resRow (sel : Tri → Int) : Hp → Nat → List Tri → Int → VK → Prop := fun H _ cs i Q => ∀ t, H t = some (.tup ((occ (cs.map sel) i cs.length).map V.int)) → Q (.ref t) H
theorem btw_cases (v : V) (n : Nat) : (∃ i : Int, v = .int i ∧ 0 ≤ i ∧ i < n ∧ btw v 0 ((n : Int) - 1) = true) ∨ btw v 0 ((n : Int) - 1) = false := by
  cases v with
  | int i =>
    by_cases h : 0 ≤ i ∧ i ≤ (n : Int) - 1
    · exact .inl ⟨i, rfl, h.1, by omega, btw_in h.1 h.2⟩
    · refine .inr ?_
      simp only [btw, Bool.and_eq_false_iff, decide_eq_false_iff_not]
      omega
  | _ => exact .inr rfl
section
variable {P : Program} {w : World} {K : PySem.W.Frag} {mg : Str → Option Value} {base : Heap}
theorem ok_incoming {f C CN : Addr} {fd : FuncData} (F : Fun K "incoming" "Net.incoming" s_Net_incoming f fd) (T : NetCls K C) (G : DefR P w K mg base "check_number" 3 (spCheckNumber K CN)) : FnOk P w K mg base (L2.CX P w) 4 f fd ["self", "stage"] (spAsk K C CN (resRow fun c => c.2.1)) := by
  refine F.okX sc_Net_incoming (fun vs H Q E h => ?_) (fun cdv A outer s H vs Q E hr h => ?_)
  · obtain ⟨x, v, n, cs, rfl, _⟩ := h
    rfl
  · obtain ⟨x, v, n, cs, rfl, N, hk, hn, hok, hlen, k1, k2⟩ := h
    obtain ⟨dx, tc, ti, to, ws, h1, h2, h3, ⟨ts, r1, r2, r3⟩, h5⟩ := N.ex
    refine ⟨_, pss_cons (ps_expr (pe_cd G hr psE (pa_cons (pv 1) (pa_cons (pe_fld (pv 0) rfl) pa_nil)))) (pss_one (ps_ret (pe_ix ix_tup (pe_fld (pv 0) rfl) (pv 1) (fun _ _ => rfl)))), ?_⟩
    refine ⟨_, rfl, _, rfl, x, C, dx, _, _, rfl, h1, T.cl, T.nS, lk_st, v, n, rfl, hk, fun e => ?_, fun e d hd => k2 e d hd⟩
    rcases btw_cases v n with ⟨i, rfl, i0, i1, _⟩ | e2
    · obtain ⟨j, rfl⟩ : ∃ j : Nat, i = (j : Int) := ⟨i.toNat, by omega⟩
      have hj : j < ts.length := by omega
      obtain ⟨t, e3, e4⟩ := r3 j ts[j] (by simp [hj])
      refine ⟨_, rfl, x, C, dx, _, _, rfl, h1, T.cl, T.nI, lk_in, _, rfl, ti, ts, _, .ref t, rfl, rfl, SqT.of r1, ?_, ?_⟩
      · rw [← e3]
        exact atI_nat (by simp [hj])
      · rw [List.length_map] at e4
        exact k1 j rfl i0 i1 t e4
    · rw [e2] at e
      cases e
theorem ok_outgoing {f C CN : Addr} {fd : FuncData} (F : Fun K "outgoing" "Net.outgoing" s_Net_outgoing f fd) (T : NetCls K C) (G : DefR P w K mg base "check_number" 3 (spCheckNumber K CN)) : FnOk P w K mg base (L2.CX P w) 4 f fd ["self", "stage"] (spAsk K C CN (resRow fun c => c.1)) := by
  refine F.okX sc_Net_outgoing (fun vs H Q E h => ?_) (fun cdv A outer s H vs Q E hr h => ?_)
  · obtain ⟨x, v, n, cs, rfl, _⟩ := h
    rfl
  · obtain ⟨x, v, n, cs, rfl, N, hk, hn, hok, hlen, k1, k2⟩ := h
    obtain ⟨dx, tc, ti, to, ws, h1, h2, h3, h5, ⟨ts, r1, r2, r3⟩⟩ := N.ex
    refine ⟨_, pss_cons (ps_expr (pe_cd G hr psE (pa_cons (pv 1) (pa_cons (pe_fld (pv 0) rfl) pa_nil)))) (pss_one (ps_ret (pe_ix ix_tup (pe_fld (pv 0) rfl) (pv 1) (fun _ _ => rfl)))), ?_⟩
    refine ⟨_, rfl, _, rfl, x, C, dx, _, _, rfl, h1, T.cl, T.nS, lk_st, v, n, rfl, hk, fun e => ?_, fun e d hd => k2 e d hd⟩
    rcases btw_cases v n with ⟨i, rfl, i0, i1, _⟩ | e2
    · obtain ⟨j, rfl⟩ : ∃ j : Nat, i = (j : Int) := ⟨i.toNat, by omega⟩
      have hj : j < ts.length := by omega
      obtain ⟨t, e3, e4⟩ := r3 j ts[j] (by simp [hj])
      refine ⟨_, rfl, x, C, dx, _, _, rfl, h1, T.cl, T.nO, lk_ou, _, rfl, to, ts, _, .ref t, rfl, rfl, SqT.of r1, ?_, ?_⟩
      · rw [← e3]
        exact atI_nat (by simp [hj])
      · rw [List.length_map] at e4
        exact k1 j rfl i0 i1 t e4
    · rw [e2] at e
      cases e
end
end WC

set_option maxHeartbeats 8000000
namespace WC
open PySem PySem.Spec PyProof.Rows L2
def gi (ns : List Int) (a : Int) : Int := ns.getD a.toNat 0
theorem at_st {ns : List Int} {n : Nat} {a : Int} (hl : ns.length = n) (h0 : 0 ≤ a) (h1 : a < n) : atI (ns.map V.int) a = some (.int (gi ns a)) := by
  obtain ⟨k, rfl⟩ : ∃ k : Nat, a = (k : Int) := ⟨a.toNat, by omega⟩
  have hk : k < ns.length := by omega
  refine atI_nat ?_
  rw [List.getElem?_map, List.getElem?_eq_getElem hk]
  unfold gi
  rw [Int.toNat_natCast, List.getD_eq_getElem?_getD, List.getElem?_eq_getElem hk]
  rfl
theorem gi_at {ns : List Int} {k : Nat} {c : Int} (h : ns[k]? = some c) : gi ns (k : Int) = c := by
  unfold gi
  rw [Int.toNat_natCast, List.getD_eq_getElem?_getD, h]
  rfl
theorem un65 {k : Nat} {A : Around} (r : Room k A) : A.units + 65 < cLine := by have := r.un; omega
theorem dep_n (ns : List Int) : PyData.depthAll (ns.map PyData.int) ≤ 3 := by
  induction ns with
  | nil => simp only [List.map_nil, PyData.depthAll]; omega
  | cons c cs ih => simp only [List.map_cons, PyData.depthAll, PyData.depth]; omega
theorem alike_n (ns : List Int) : PySem.W.AlikeAll (ns.map PyData.int) := by
  refine ⟨fun x hx y hy => ?_, fun x hx => ?_⟩
  · obtain ⟨a, _, rfl⟩ := List.mem_map.mp hx
    obtain ⟨b, _, rfl⟩ := List.mem_map.mp hy
    rfl
  · obtain ⟨a, _, rfl⟩ := List.mem_map.mp hx
    intro z
    cases z
theorem fold_min : ∀ (ns : List Int) (n : Int), ns.foldl min n ∈ n :: ns ∧ ∀ y ∈ n :: ns, ns.foldl min n ≤ y
  | [], n => ⟨List.mem_cons_self, fun y hy => by rw [List.mem_singleton.mp hy]; exact Int.le_refl _⟩
  | k :: r, n => by
    obtain ⟨h1, h2⟩ := fold_min r (min n k)
    have e : (k :: r).foldl min n = r.foldl min (min n k) := rfl
    rw [e]
    refine ⟨?_, fun y hy => ?_⟩
    · rcases List.mem_cons.mp h1 with z | z
      · rw [z]
        rcases Int.le_total n k with q | q
        · rw [Int.min_eq_left q]; exact List.mem_cons_self
        · rw [Int.min_eq_right q]; exact List.mem_cons_of_mem _ List.mem_cons_self
      · exact List.mem_cons_of_mem _ (List.mem_cons_of_mem _ z)
    · have h3 := h2 _ List.mem_cons_self
      rcases List.mem_cons.mp hy with z | hy
      · rw [z]; omega
      · rcases List.mem_cons.mp hy with z | hy
        · rw [z]; omega
        · exact h2 y (List.mem_cons_of_mem _ hy)
theorem fold_max : ∀ (ns : List Int) (n : Int), ns.foldl max n ∈ n :: ns ∧ ∀ y ∈ n :: ns, y ≤ ns.foldl max n
  | [], n => ⟨List.mem_cons_self, fun y hy => by rw [List.mem_singleton.mp hy]; exact Int.le_refl _⟩
  | k :: r, n => by
    obtain ⟨h1, h2⟩ := fold_max r (max n k)
    have e : (k :: r).foldl max n = r.foldl max (max n k) := rfl
    rw [e]
    refine ⟨?_, fun y hy => ?_⟩
    · rcases List.mem_cons.mp h1 with z | z
      · rw [z]
        rcases Int.le_total n k with q | q
        · rw [Int.max_eq_right q]; exact List.mem_cons_of_mem _ List.mem_cons_self
        · rw [Int.max_eq_left q]; exact List.mem_cons_self
      · exact List.mem_cons_of_mem _ (List.mem_cons_of_mem _ z)
    · have h3 := h2 _ List.mem_cons_self
      rcases List.mem_cons.mp hy with z | hy
      · rw [z]; omega
      · rcases List.mem_cons.mp hy with z | hy
        · rw [z]; omega
        · exact h2 y (List.mem_cons_of_mem _ hy)
def rMinT (K : PySem.W.Frag) : List V → Hp → VK → Prop := fun vs H Q => ∃ (a : Addr) (ns : List Int), vs = [V.ref a] ∧ SqT K H a (ns.map V.int) ∧ 0 < ns.length ∧ ∀ m, m ∈ ns → (∀ y, y ∈ ns → m ≤ y) → Q (.int m) H
def rMaxT (K : PySem.W.Frag) : List V → Hp → VK → Prop := fun vs H Q => ∃ (a : Addr) (ns : List Int), vs = [V.ref a] ∧ SqT K H a (ns.map V.int) ∧ 0 < ns.length ∧ ∀ m, m ∈ ns → (∀ y, y ∈ ns → y ≤ m) → Q (.int m) H
section
variable {X : Cx}
theorem dp_n {K : PySem.W.Frag} {H : Hp} : ∀ cs : List Int, DpAll K H (cs.map V.int) (cs.map PyData.int)
  | [] => .nil
  | c :: cs => .cons (.int c) (dp_n cs)
theorem cr_minT (hc : X.calm = true) (hu : X.A.units + 65 < cLine) : CallR X (.builtin "min") (rMinT X.K) := by
  intro pins s σ H vs us Q I r h
  obtain ⟨a, ns, rfl, hs, hne, q⟩ := h
  match ns, hne, hs, q with
  | n :: ns, _, hs, q =>
    obtain ⟨its, rv, ht, _⟩ := I.tuple hs
    rw [Vals.ref1 r]
    obtain ⟨as, hr⟩ := Dp.readsAll I _ _ its (dp_n (n :: ns)) rv
    have hd := dep_n (n :: ns)
    refine PySem.W.min_tuple_data (x := .int n) (xs := ns.map PyData.int) (I.ok.hd hc) (vs := its.toArray) ?_ (by simpa using hr) (alike_n (n :: ns)) (by show X.A.units + 1 + PyData.depthAll ((n :: ns).map PyData.int) < cLine; omega) fun i v h' tk bs _ hv hk => ?_
    · exact ht
    · rw [PySem.W.minD_ints] at hv
      cases hv
      obtain ⟨h1, h2⟩ := fold_min ns n
      exact ⟨.int _, H, I.kept hk, ⟨_, rfl⟩, q _ h1 h2⟩
theorem cr_maxT (hc : X.calm = true) (hu : X.A.units + 65 < cLine) : CallR X (.builtin "max") (rMaxT X.K) := by
  intro pins s σ H vs us Q I r h
  obtain ⟨a, ns, rfl, hs, hne, q⟩ := h
  match ns, hne, hs, q with
  | n :: ns, _, hs, q =>
    obtain ⟨its, rv, ht, _⟩ := I.tuple hs
    rw [Vals.ref1 r]
    obtain ⟨as, hr⟩ := Dp.readsAll I _ _ its (dp_n (n :: ns)) rv
    have hd := dep_n (n :: ns)
    refine PySem.W.max_tuple_data (x := .int n) (xs := ns.map PyData.int) (I.ok.hd hc) (vs := its.toArray) ?_ (by simpa using hr) (alike_n (n :: ns)) (by show X.A.units + 1 + PyData.depthAll ((n :: ns).map PyData.int) < cLine; omega) fun i v h' tk bs _ hv hk => ?_
    · exact ht
    · rw [PySem.W.maxD_ints] at hv
      cases hv
      obtain ⟨h1, h2⟩ := fold_max ns n
      exact ⟨.int _, H, I.kept hk, ⟨_, rfl⟩, q _ h1 h2⟩
end
/-- an objection: its word and its number -/
abbrev Obj_ := Str × Int
def ObA (H : Hp) (o : Obj_) (v : V) : Prop := ∃ t, v = .ref t ∧ H t = some (.tup [.str o.1, .int o.2])
theorem obs_same {H H2 : Hp} {os : List Obj_} {vs : List V} (h : Paired (ObA H) os vs) (s : Same H H2) : Paired (ObA H2) os vs := Paired.mapP h fun _ _ ⟨t, e, ht⟩ => ⟨t, e, s _ _ ht⟩
theorem obs_add {H H2 : Hp} {L T : Addr} {os : List Obj_} {ks : List V} {w : Str} {k : Int} (s : Same H H2) (nL : H L = none) (hL : H2 L = some (.lst ks)) (hp : Paired (ObA H2) os ks) (nT : H2 T = none) :
    upd H2 T (.tup [.str w, .int k]) L = some (.lst ks) ∧ Same H (upd (upd H2 T (.tup [.str w, .int k])) L (.lst (ks ++ [.ref T]))) ∧ Paired (ObA (upd (upd H2 T (.tup [.str w, .int k])) L (.lst (ks ++ [.ref T])))) (os ++ [(w, k)]) (ks ++ [.ref T]) := by
  have pD : T ≠ L := (ne_of_none hL nT).symm
  refine ⟨by rw [upd_ne pD.symm]; exact hL, Same.newer (Same.newer s (s.free nT)) nL, ?_⟩
  refine pr_snoc (Paired.mapP hp fun c2 v2 ⟨t2, e1, e2⟩ => ⟨t2, e1, ?_⟩) ⟨T, rfl, by rw [upd_ne pD, upd_same]⟩
  rw [upd_ne (ne_of e2 hL (by intro z; cases z)), upd_ne (ne_of_none e2 nT)]
  exact e2
def drawsM (st tg : List Int) (c : Tri) : Bool := decide (gi tg c.1 < gi st c.1) || decide (gi st c.2.1 < gi tg c.2.1)
def stageOb (cs : List Tri) (st tg : List Int) (k : Nat) : List Obj_ :=
  (if gi st k < gi tg k ∧ occ (cs.map fun c => c.2.1) k cs.length = [] then [(("source" : Str), (k : Int))] else []) ++ (if gi tg k < gi st k ∧ occ (cs.map fun c => c.1) k cs.length = [] then [(("sink" : Str), (k : Int))] else [])
def stageObs (cs : List Tri) (st tg : List Int) (n : Nat) : List Obj_ := (List.range n).flatMap (stageOb cs st tg)
theorem stageObs_succ (cs : List Tri) (st tg : List Int) (n : Nat) : stageObs cs st tg (n + 1) = stageObs cs st tg n ++ stageOb cs st tg n := by
  unfold stageObs
  rw [List.range_succ, List.flatMap_append, List.flatMap_singleton]
theorem stageOb_len (cs : List Tri) (st tg : List Int) (k : Nat) : (stageOb cs st tg k).length ≤ 2 := by
  unfold stageOb
  rw [List.length_append]
  split <;> split <;> simp
theorem stageObs_len (cs : List Tri) (st tg : List Int) : ∀ n, (stageObs cs st tg n).length ≤ 2 * n
  | 0 => by simp [stageObs]
  | n + 1 => by
    rw [stageObs_succ, List.length_append]
    have := stageObs_len cs st tg n
    have := stageOb_len cs st tg n
    omega
/-- the objections of a channel that draws from its producer -/
def chanOb (cs : List Tri) (st tg : List Int) (k : Int) : List Obj_ :=
  let c := cs.getD k.toNat (0, 0, 0)
  if drawsM st tg c = true then (if c.2.2 < gi st c.1 - gi st c.2.1 then [(("jammed" : Str), k)] else []) ++ (if gi tg c.1 < gi tg c.2.1 then [(("orphan" : Str), k)] else []) else []
def spDrw : Sp := fun vs H Q _ => ∃ (s t : Addr) (v : V) (n : Nat) (st tg : List Int) (c : Tri), vs = [.ref s, .ref t, v] ∧ H s = some (.tup (st.map V.int)) ∧ st.length = n ∧ H t = some (.tup (tg.map V.int)) ∧ tg.length = n ∧ TriA H c v ∧ ChOk n c ∧ Q (.bl (drawsM st tg c)) H
def spStO (CS : List Addr) : Sp := fun vs H Q _ => ∃ (C x s t : Addr) (n : Nat) (cs : List Tri) (st tg : List Int), C ∈ CS ∧ vs = [.ref x, .ref s, .ref t] ∧ NetAt H x C n cs ∧ NOk n cs ∧ H s = some (.tup (st.map V.int)) ∧ st.length = n ∧ H t = some (.tup (tg.map V.int)) ∧ tg.length = n ∧
  ∀ L ks H2, Same H H2 → H L = none → H2 L = some (.lst ks) → Paired (ObA H2) (stageObs cs st tg n) ks → Q (.ref L) H2
def spChO (CS : List Addr) : Sp := fun vs H Q _ => ∃ (C x s t M : Addr) (n : Nat) (cs : List Tri) (st tg ms : List Int), C ∈ CS ∧ vs = [.ref x, .ref s, .ref t, .ref M] ∧ NetAt H x C n cs ∧ NOk n cs ∧ H s = some (.tup (st.map V.int)) ∧ st.length = n ∧ H t = some (.tup (tg.map V.int)) ∧ tg.length = n ∧ H M = some (.lst (ms.map V.int)) ∧ (∀ k ∈ ms, 0 ≤ k ∧ k < cs.length) ∧ ms.length ≤ 1000 ∧
  ∀ L ks H2, Same H H2 → H L = none → H2 L = some (.lst ks) → Paired (ObA H2) (ms.flatMap (chanOb cs st tg)) ks → Q (.ref L) H2
section
variable {P : Program} {w : World} {K : PySem.W.Frag} {mg : Str → Option Value} {base : Heap}
theorem ok_draws_from {f : Addr} {fd : FuncData} (F : Fun K "draws_from" "draws_from" s_draws_from f fd) : FnOk P w K mg base (L2.CX P w) 1 f fd ["start", "target", "channel"] spDrw := by
  refine F.okX sc_draws_from (fun vs H Q E h => ?_) (fun cdv A outer s H vs Q E hr h => ?_)
  · obtain ⟨s, t, v, n, st, tg, c, rfl, _⟩ := h
    rfl
  · obtain ⟨s, t, v, n, st, tg, c, rfl, hs, ls, ht, lt, ⟨tc, rfl, htc⟩, ⟨⟨a1, a2⟩, ⟨a3, a4⟩, _⟩, q⟩ := h
    -- slots: 0 start, 1 target, 2 channel, 3 producer, 4 consumer, 5 _
    refine ⟨_, (pss_cons (ps_asg (pv 2) (pg_tup rfl (pgs_cons (pg_name (i := 3) sc_draws_from.nd rfl (Or.inl rfl)) (pgs_cons (pg_name (i := 4) sc_draws_from.nd rfl (Or.inl rfl)) (pgs_cons (pg_name (i := 5) sc_draws_from.nd rfl (Or.inl rfl)) pgs_nil)))))
      (pss_one (ps_ret (pe_or (pe_cmpR op_lt (pe_ix ix_tup (pv 1) (pv 3) (fun _ _ => rfl)) (pe_ix ix_tup (pv 0) (pv 3) (fun _ _ => rfl)) (nomark _)) (pe_one (pe_cmpR op_gt (pe_ix ix_tup (pv 1) (pv 4) (fun _ _ => rfl)) (pe_ix ix_tup (pv 0) (pv 4) (fun _ _ => rfl)) (nomark _))))))), ?_⟩
    refine ⟨_, rfl, tc, _, rfl, SqT.of htc, rfl, _, _, rfl, _, _, rfl, _, _, rfl, rfl, ?_⟩
    refine ⟨_, rfl, _, rfl, t, _, _, _, rfl, rfl, SqT.of ht, at_st lt a1 a2, _, rfl, _, rfl, s, _, _, _, rfl, rfl, SqT.of hs, at_st ls a1 a2, _, _, rfl, rfl, _, rfl, ?_⟩
    unfold drawsM at q
    cases e : decide (gi tg c.1 < gi st c.1) with
    | true =>
      rw [e] at q
      exact iteT q
    | false =>
      rw [e, Bool.false_or] at q
      exact iteF ⟨_, rfl, _, rfl, t, _, _, _, rfl, rfl, SqT.of ht, at_st lt a3 a4, _, rfl, _, rfl, s, _, _, _, rfl, rfl, SqT.of hs, at_st ls a3 a4, _, _, rfl, rfl, q⟩
theorem ok_stage_objections {f CN : Addr} {CS : List Addr} {fd : FuncData} (F : Fun K "_stage_objections" "_stage_objections" s_stage_objections f fd) (B : Blt mg) (TC : ∀ C ∈ CS, NetCls K C) (g_incoming : ∀ C ∈ CS, MetR P w K mg base C "incoming" 4 (spAsk K C CN (resRow fun c => c.2.1))) (g_outgoing : ∀ C ∈ CS, MetR P w K mg base C "outgoing" 4 (spAsk K C CN (resRow fun c => c.1))) :
    FnOk P w K mg base (L2.CX P w) 5 f fd ["net", "start", "target"] (spStO CS) := by
  refine F.okX sc_stage_objections (fun vs H Q E h => ?_) (fun cdv A outer s H vs Q E hr h => ?_)
  · obtain ⟨C, x, s, t, n, cs, st, tg, _, rfl, _⟩ := h
    rfl
  · obtain ⟨C, x, s, t, n, cs, st, tg, hC, rfl, NA, G, hs, ls, ht, lt, q⟩ := h
    have n40 := G.n40
    have hlen := G.len
    obtain ⟨dx, tc, ti, to, ws, hx, _⟩ := NA.ex
    -- slots: 0 net, 1 start, 2 target, 3 found, 4 stage
    refine ⟨_, (pss_cons (ps_set (i := 3) sc_stage_objections.nd rfl (Or.inl rfl) (pe_lst pa_nil))
      (pss_cons (ps_for (passes_of rfl) rfl (pi_range1 (by rfl) B.range (pa_cons (pe_fld (pv 0) rfl) pa_nil)) (pg_name (i := 4) sc_stage_objections.nd rfl (Or.inl rfl))
        (pss_cons (ps_if (PW.pt (pw_and (pt_cmpR op_gt (pe_ix ix_tup (pv 2) (pv 4) (fun _ _ => rfl)) (pe_ix ix_tup (pv 1) (pv 4) (fun _ _ => rfl)) (nomark _)) (pw_and1 (pt_not (pt_truth (pe_mtr (g_incoming C hC) (pv 0) hr psE (pa_cons (pv 4) pa_nil)) (by intro _; rfl)))))) (pss_one (ps_expr (pe_bm PySem.F.plainAttrs_list PySem.F.slot_list_append PySem.F.type_list_append mt_append (pv 3) (pa_cons (pe_tup (pa_cons pe_str (pa_cons (pv 4) pa_nil))) pa_nil)))) pss_nil)
      (pss_one (ps_if (PW.pt (pw_and (pt_cmpR op_lt (pe_ix ix_tup (pv 2) (pv 4) (fun _ _ => rfl)) (pe_ix ix_tup (pv 1) (pv 4) (fun _ _ => rfl)) (nomark _)) (pw_and1 (pt_not (pt_truth (pe_mtr (g_outgoing C hC) (pv 0) hr psE (pa_cons (pv 4) pa_nil)) (by intro _; rfl)))))) (pss_one (ps_expr (pe_bm PySem.F.plainAttrs_list PySem.F.slot_list_append PySem.F.type_list_append mt_append (pv 3) (pa_cons (pe_tup (pa_cons pe_str (pa_cons (pv 4) pa_nil))) pa_nil)))) pss_nil))))
      (pss_one (ps_ret (pv 3))))), ?_⟩
    refine ⟨by show 0 ≤ sizeLine; decide, fun L nL => ?_⟩
    refine ⟨_, rfl, x, C, dx, _, _, rfl, Same.new nL _ _ hx, (TC C hC).cl, (TC C hC).nS, lk_st, (n : Int), rfl, by omega, by omega, for_range (lo := 0) (n := n) (fun i σ H2 => ∃ ks v4, σ = [some (.ref x), some (.ref s), some (.ref t), some (.ref L), v4] ∧ Same H H2 ∧ H2 L = some (.lst ks) ∧ Paired (ObA H2) (stageObs cs st tg i) ks) ⟨[], _, rfl, Same.new nL, upd_same, .nil⟩ ?_ ?_⟩
    rotate_left
    · rintro σ H2 ⟨ks, v4, rfl, s2, hL, hp⟩
      exact ⟨_, rfl, q L ks H2 s2 nL hL hp⟩
    rintro i σ H2 hi ⟨ks, v4, rfl, s2, hL, hp⟩
    have at1 : atI (tg.map V.int) ((0 : Int) + i) = some (.int (gi tg i)) := by rw [Int.zero_add]; exact at_st lt (by omega) (by omega)
    have at2 : atI (st.map V.int) ((0 : Int) + i) = some (.int (gi st i)) := by rw [Int.zero_add]; exact at_st ls (by omega) (by omega)
    have bb : btw (V.int ((0 : Int) + i)) 0 ((n : Int) - 1) = true := btw_in (by omega) (by omega)
    have lob := stageObs_len cs st tg i
    dsimp only [gName]
    refine seq_mid (fun σ H3 => ∃ ks, σ = [some (.ref x), some (.ref s), some (.ref t), some (.ref L), some (.int ((0 : Int) + i))] ∧ Same H H3 ∧ H3 L = some (.lst ks) ∧ Paired (ObA H3) (stageObs cs st tg i ++ (if gi st i < gi tg i ∧ occ (cs.map fun c => c.2.1) i cs.length = [] then [(("source" : Str), (i : Int))] else [])) ks) (fun N hN => ?_) ?_
    · refine ⟨_, rfl, _, rfl, t, _, _, _, rfl, rfl, SqT.of (s2 _ _ ht), at1, _, rfl, _, rfl, s, _, _, _, rfl, rfl, SqT.of (s2 _ _ hs), at2, _, _, rfl, rfl, _, rfl, ite2 (fun e => ?_) (fun e => ?_)⟩
      rotate_left
      · refine hN _ _ ⟨ks, rfl, s2, hL, ?_⟩
        rw [if_neg (fun z => e (decide_eq_true z.1)), List.append_nil]
        exact hp
      have e := of_decide_eq_true e
      refine ⟨_, rfl, x, dx, _, rfl, s2 _ _ hx, fld4_none (by decide +kernel) (by decide +kernel) (by decide +kernel) (by decide +kernel), _, rfl, x, .int ((0 : Int) + i), n, cs, rfl, NA.same s2, trivial, n40, G.ok, by omega, fun j ej _ _ t2 h2 => ?_, fun z => by rw [bb] at z; cases z⟩
      obtain rfl : j = (i : Int) := by have := V.int.inj ej; omega
      refine ⟨_, .inr (.inl ⟨_, SqT.of h2, rfl⟩), ite2 (fun e2 => ?_) (fun e2 => ?_)⟩
      · have e3 : occ (cs.map fun c => c.2.1) i cs.length = [] := by simpa using e2
        refine ⟨_, rfl, .inl ⟨rfl, _, SqL.of hL⟩, _, rfl, by show 2 ≤ sizeLine; decide, fun T nT => ?_⟩
        obtain ⟨g1, g2, g3⟩ := obs_add (w := "source") (k := (0 : Int) + i) s2 nL hL hp nT
        refine ⟨L, _, _, rfl, rfl, g1, line_lt (by have := hp.length; omega), hN _ _ ⟨_, rfl, g2, upd_same, ?_⟩⟩
        rw [if_pos ⟨e, e3⟩]
        rw [Int.zero_add] at g3 ⊢
        exact g3
      · refine hN _ _ ⟨ks, rfl, s2, hL, ?_⟩
        rw [if_neg (fun z => e2 (by rw [z.2]; rfl)), List.append_nil]
        exact hp
    clear hp hL s2
    clear ks H2
    rintro σ H2 ⟨ks, rfl, s2, hL, hp⟩
    have fin : ∀ {H3 : Hp} {ks2 : List V} {os : List Obj_}, Same H H3 → H3 L = some (.lst ks2) → Paired (ObA H3) (stageObs cs st tg i ++ (if gi st i < gi tg i ∧ occ (cs.map fun c => c.2.1) i cs.length = [] then [(("source" : Str), (i : Int))] else []) ++ os) ks2 → os = (if gi tg i < gi st i ∧ occ (cs.map fun c => c.1) i cs.length = [] then [(("sink" : Str), (i : Int))] else []) → ∃ ks v4, [some (V.ref x), some (.ref s), some (.ref t), some (.ref L), some (.int ((0 : Int) + i))] = [some (V.ref x), some (.ref s), some (.ref t), some (.ref L), v4] ∧ Same H H3 ∧ H3 L = some (.lst ks) ∧ Paired (ObA H3) (stageObs cs st tg (i + 1)) ks := fun a b c d => by
      subst d
      refine ⟨_, _, rfl, a, b, ?_⟩
      rw [stageObs_succ]
      unfold stageOb
      rw [← List.append_assoc]
      exact c
    refine ⟨_, rfl, _, rfl, t, _, _, _, rfl, rfl, SqT.of (s2 _ _ ht), at1, _, rfl, _, rfl, s, _, _, _, rfl, rfl, SqT.of (s2 _ _ hs), at2, _, _, rfl, rfl, _, rfl, ite2 (fun e => ?_) (fun e => ?_)⟩
    rotate_left
    · exact fin s2 hL (by rw [List.append_nil]; exact hp) (by rw [if_neg (fun z => e (decide_eq_true z.1))])
    have e := of_decide_eq_true e
    refine ⟨_, rfl, x, dx, _, rfl, s2 _ _ hx, fld4_none (by decide +kernel) (by decide +kernel) (by decide +kernel) (by decide +kernel), _, rfl, x, .int ((0 : Int) + i), n, cs, rfl, NA.same s2, trivial, n40, G.ok, by omega, fun j ej _ _ t2 h2 => ?_, fun z => by rw [bb] at z; cases z⟩
    obtain rfl : j = (i : Int) := by have := V.int.inj ej; omega
    refine ⟨_, .inr (.inl ⟨_, SqT.of h2, rfl⟩), ite2 (fun e2 => ?_) (fun e2 => ?_)⟩
    · have e3 : occ (cs.map fun c => c.1) i cs.length = [] := by simpa using e2
      refine ⟨_, rfl, .inl ⟨rfl, _, SqL.of hL⟩, _, rfl, by show 2 ≤ sizeLine; decide, fun T nT => ?_⟩
      obtain ⟨g1, g2, g3⟩ := obs_add (w := "sink") (k := (0 : Int) + i) s2 nL hL hp nT
      have lk : ks.length ≤ 2 * i + 1 := by
        rw [← hp.length, List.length_append]
        split <;> simp <;> omega
      exact ⟨L, _, _, rfl, rfl, g1, line_lt (by omega), fin g2 upd_same g3 (by rw [if_pos ⟨e, e3⟩, Int.zero_add])⟩
    · exact fin s2 hL (by rw [List.append_nil]; exact hp) (by rw [if_neg (fun z => e2 (by rw [z.2]; rfl))])
end
end WC

set_option maxHeartbeats 4000000
namespace WC
open PySem PySem.Spec PyProof.Rows L2 L2H HotX
/-! min and max of a tuple while an error is handled -/
section
variable {prog : Program} {w : World} {A : Around} {E : Value → Shared → Prop} {s : Shared}
theorem walks_tupH {it x1 : Addr} {oH : Obj} {vH : Array Value} (hh : A.handled = some (.ref x1)) (dH : oH.data = .fields vH) (cH : vH[2]? = some .none) (t : Addr) (hne : t ≠ it) (x1it : x1 ≠ it) (items : Array Value) :
    Walks prog w A it [it, t, x1] [it] items.size (fun i v => items[i]? = some v) (fun i h => h.IsTupleIter it t i ∧ h.IsTuple t items ∧ h.get? x1 = some oH) where
  sub := fun b hb => by rw [List.mem_singleton.mp hb]; exact List.mem_cons_self
  frame := fun _ _ _ st hk => ⟨st.1.at fun o e => hk it (by simp) o e, st.2.1.at fun o e => hk t (by simp) o e, hk x1 (by simp) _ st.2.2⟩
  item := fun i s Q E hi st hQ => by
    refine wpAny_pyNext_tuple_item st.1 st.2.1 (x := items[i]) (by simp [hi]) fun g hit sb => ?_
    exact hQ _ g s.toks (by simp [hi]) ⟨hit, st.2.1.extBut sb.extBut hne, (sb.2 x1 x1it).trans st.2.2⟩ fun b o nb e => sb.extBut b o (fun z => nb (by simp [z])) e
  done := fun s Q E st hQ => tup_out_hot ⟨hh, oH, vH, st.2.2, dH, cH⟩ st.1 st.2.1 (by simp) fun g kg => hQ g s.toks fun b o nb e => kg b o (fun z => nb (by simp [z])) e
  self := fun _ _ _ _ st hQ => wpAny_pyIter_tupleiter st.1 hQ
theorem min_hot {l x1 : Addr} {vs : Array Value} {x : PyData} {xs : List PyData} {as : List Addr} {Q : Value → Shared → Prop} (hot : HotAt A x1 s.heap) (hl : s.heap.IsTuple l vs) (hr : ReadsAll s.heap vs.toList (x :: xs) as) (ha : PySem.W.AlikeAll (x :: xs)) (hu : A.units + 1 + PyData.depthAll (x :: xs) < cLine)
    (h : ∀ (i : Nat) v g tk bs, vs[i]? = some v → Reads g v (PySem.W.minD x xs) bs → (∀ b o, s.heap.get? b = some o → g.get? b = some o) → Q v { s with heap := g, toks := tk }) :
    wpAny (model prog w) A (call (.builtin "min") [.ref l]) Q E s := by
  obtain ⟨hh, oH, vH, gH, dH, cH⟩ := hot
  have hn : vs.size = xs.length + 1 := PySem.W.readsAll_len hr
  have ll : l < s.heap.objs.size := let ⟨_, e, _⟩ := hl; Heap.lt_size e
  have lx : x1 < s.heap.objs.size := Heap.lt_size gH
  have old : ∀ b o, s.heap.get? b = some o → b ∉ [s.heap.objs.size] := fun b o e z => absurd (Heap.lt_size e) (by rw [List.mem_singleton.mp z]; exact Nat.lt_irrefl _)
  refine PySem.call_min_walkH (wpAny_pyIter_tuple hl ⟨_, _, _, _, _, _, _, s.heap, _, rfl, (walks_tupH (A := A.in1) hh dH cH l (Nat.ne_of_lt ll) (Nat.ne_of_lt lx) vs).toS, ⟨⟨_, Heap.get?_push_size _ rfl, rfl, rfl⟩, hl.push _, Heap.get?_push_of_some _ gH⟩, fun b hb => ?_, by omega, old, fun b o e => Heap.get?_push_of_some _ e, PySem.W.cmpIn_lt (A := A.in1) hr ha (by show A.units + 1 + _ < _; exact hu), fun v s2 hP m => ?_⟩)
  · show b < (s.heap.push _).objs.size
    rw [Heap.size_push]
    simp only [List.mem_cons, List.not_mem_nil, or_false] at hb
    rcases hb with e | e | e <;> rw [e]
    · exact Nat.lt_succ_self _
    · exact Nat.lt_succ_of_lt ll
    · exact Nat.lt_succ_of_lt lx
  · obtain ⟨g, tk, rfl, kg⟩ := PySem.W.moved_old rfl rfl m
    obtain ⟨bs, r, _, _, _⟩ := PySem.W.readsAll_atA hr _ v hP
    have e2 := (PySem.W.argBest_fold PySem.W.dataLt PyData.none x xs xs.length (Nat.le_refl _)).2
    rw [List.take_length] at e2
    rw [show vs.size - 1 = xs.length by omega] at r
    exact h _ v g tk bs hP (PySem.W.reads_keeps kg (by unfold PySem.W.minD; rw [← e2]; exact r)) kg
theorem max_hot {l x1 : Addr} {vs : Array Value} {x : PyData} {xs : List PyData} {as : List Addr} {Q : Value → Shared → Prop} (hot : HotAt A x1 s.heap) (hl : s.heap.IsTuple l vs) (hr : ReadsAll s.heap vs.toList (x :: xs) as) (ha : PySem.W.AlikeAll (x :: xs)) (hu : A.units + 1 + PyData.depthAll (x :: xs) < cLine)
    (h : ∀ (i : Nat) v g tk bs, vs[i]? = some v → Reads g v (PySem.W.maxD x xs) bs → (∀ b o, s.heap.get? b = some o → g.get? b = some o) → Q v { s with heap := g, toks := tk }) :
    wpAny (model prog w) A (call (.builtin "max") [.ref l]) Q E s := by
  obtain ⟨hh, oH, vH, gH, dH, cH⟩ := hot
  have hn : vs.size = xs.length + 1 := PySem.W.readsAll_len hr
  have ll : l < s.heap.objs.size := let ⟨_, e, _⟩ := hl; Heap.lt_size e
  have lx : x1 < s.heap.objs.size := Heap.lt_size gH
  have old : ∀ b o, s.heap.get? b = some o → b ∉ [s.heap.objs.size] := fun b o e z => absurd (Heap.lt_size e) (by rw [List.mem_singleton.mp z]; exact Nat.lt_irrefl _)
  refine PySem.call_max_walkH (wpAny_pyIter_tuple hl ⟨_, _, _, _, _, _, _, s.heap, _, rfl, (walks_tupH (A := A.in1) hh dH cH l (Nat.ne_of_lt ll) (Nat.ne_of_lt lx) vs).toS, ⟨⟨_, Heap.get?_push_size _ rfl, rfl, rfl⟩, hl.push _, Heap.get?_push_of_some _ gH⟩, fun b hb => ?_, by omega, old, fun b o e => Heap.get?_push_of_some _ e, PySem.W.cmpIn_gt (A := A.in1) hr ha (by show A.units + 1 + _ < _; exact hu), fun v s2 hP m => ?_⟩)
  · show b < (s.heap.push _).objs.size
    rw [Heap.size_push]
    simp only [List.mem_cons, List.not_mem_nil, or_false] at hb
    rcases hb with e | e | e <;> rw [e]
    · exact Nat.lt_succ_self _
    · exact Nat.lt_succ_of_lt ll
    · exact Nat.lt_succ_of_lt lx
  · obtain ⟨g, tk, rfl, kg⟩ := PySem.W.moved_old rfl rfl m
    obtain ⟨bs, r, _, _, _⟩ := PySem.W.readsAll_atA hr _ v hP
    have e2 := (PySem.W.argBest_fold (fun a b => PySem.W.dataLt b a) PyData.none x xs xs.length (Nat.le_refl _)).2
    rw [List.take_length] at e2
    rw [show vs.size - 1 = xs.length by omega] at r
    exact h _ v g tk bs hP (PySem.W.reads_keeps kg (by unfold PySem.W.maxD; rw [← e2]; exact r)) kg
end
theorem cr_minTH {X : Cx} (hc : HotC X) (hu : X.A.units + 65 < cLine) : CallR X (.builtin "min") (rMinT X.K) := by
  intro pins s σ H vs us Q I r h
  obtain ⟨a, ns, rfl, hs, hne, q⟩ := h
  obtain ⟨x1, hot⟩ := hc.at I
  cases ns with
  | nil => simp at hne
  | cons n ns =>
    obtain ⟨its, rv, ht, _⟩ := I.tuple hs
    rw [Vals.ref1 r]
    obtain ⟨as, hr⟩ := Dp.readsAll I _ _ its (dp_n (n :: ns)) rv
    have hd := dep_n (n :: ns)
    refine min_hot hot (x := .int n) (xs := ns.map PyData.int) (vs := its.toArray) ht (by simpa using hr) (alike_n (n :: ns)) (by show X.A.units + 1 + PyData.depthAll ((n :: ns).map PyData.int) < cLine; omega) fun i v g tk bs _ hv hk => ?_
    rw [PySem.W.minD_ints] at hv
    cases hv
    obtain ⟨h1, h2⟩ := fold_min ns n
    exact ⟨.int _, H, I.kept hk, ⟨_, rfl⟩, q _ h1 h2⟩
theorem cr_maxTH {X : Cx} (hc : HotC X) (hu : X.A.units + 65 < cLine) : CallR X (.builtin "max") (rMaxT X.K) := by
  intro pins s σ H vs us Q I r h
  obtain ⟨a, ns, rfl, hs, hne, q⟩ := h
  obtain ⟨x1, hot⟩ := hc.at I
  cases ns with
  | nil => simp at hne
  | cons n ns =>
    obtain ⟨its, rv, ht, _⟩ := I.tuple hs
    rw [Vals.ref1 r]
    obtain ⟨as, hr⟩ := Dp.readsAll I _ _ its (dp_n (n :: ns)) rv
    have hd := dep_n (n :: ns)
    refine max_hot hot (x := .int n) (xs := ns.map PyData.int) (vs := its.toArray) ht (by simpa using hr) (alike_n (n :: ns)) (by show X.A.units + 1 + PyData.depthAll ((n :: ns).map PyData.int) < cLine; omega) fun i v g tk bs _ hv hk => ?_
    rw [PySem.W.maxD_ints] at hv
    cases hv
    obtain ⟨h1, h2⟩ := fold_max ns n
    exact ⟨.int _, H, I.kept hk, ⟨_, rfl⟩, q _ h1 h2⟩
end WC

set_option maxHeartbeats 4000000
namespace WC
open PySem PySem.Spec PyProof.Rows L2 L2H HotX
/-! list(range(..)) while an error is handled -/
section
variable {prog : Program} {w : World} {A : Around} {E : Value → Shared → Prop} {s : Shared}
theorem walks_rngH {x1 : Addr} {oH : Obj} {vH : Array Value} (hh : A.handled = some (.ref x1)) (dH : oH.data = .fields vH) (cH : vH[2]? = some .none) (it : Addr) (x1it : x1 ≠ it) (a c : Int) (n : Nat) :
    Walks prog w A it [it, x1] [it] n (fun i v => ∃ t, v = .int (a + i * c) t) (fun i h => IsRangeIter h it (a + (i : Nat) * c) ((n : Int) - (i : Nat)) c ∧ h.get? x1 = some oH) where
  sub := fun b hb => by rw [List.mem_singleton.mp hb]; exact List.mem_cons_self
  frame := fun _ _ _ st hk => ⟨hk it (by simp) _ st.1, hk x1 (by simp) _ st.2⟩
  item := fun i s Q E hi st hQ => by
    refine wpAny_pyNext_range_item st.1 (by omega) fun g it2 sb => ?_
    refine hQ _ g _ ⟨_, rfl⟩ ⟨?_, (sb.2 x1 x1it).trans st.2⟩ fun b o nb e => sb.extBut b o (fun z => nb (by simp [z])) e
    rw [show a + ((i + 1 : Nat) : Int) * c = a + (i : Int) * c + c by push_cast; rw [Int.add_mul, Int.one_mul, Int.add_assoc], show (n : Int) - ((i + 1 : Nat) : Int) = (n : Int) - (i : Int) - 1 by push_cast; omega]
    exact it2
  done := fun s Q E st hQ => pyNext_range_end_hot ⟨hh, oH, vH, st.2, dH, cH⟩ st.1 (by omega) fun g kg => hQ g s.toks fun b o _ e => kg b o e
  self := fun _ _ _ _ st hQ => wpAny_pyIter_rangeiter st.1 hQ
end
section
variable {prog : Program} {w : World} {A : Around} {s : Shared}
theorem ext_rngH {Rr : Result → Shared → Prop} {r S x1 : Addr} {a b c : Int} {t u v : Tok} {n c0 : Nat} {res : Value} (hot : HotAt A x1 s.heap) (hr : IsRange s.heap r a b c t u v) (sm : Builtin.Range.small a b c = true) (hn : Builtin.Range.rangeSize a b c = n) (hl : n ≤ 2 ^ 24)
    (hS : s.heap.get? S = some { cls := .type "list", data := .seq #[] c0 })
    (hR : ∀ g tk acc c2, (∀ d o, d ≠ S → s.heap.get? d = some o → g.get? d = some o) → g.get? S = some { cls := .type "list", dict := none, data := .seq acc c2, slots := #[] } → ItemsOf (fun i v => ∃ t, v = .int (a + i * c) t) acc n → Rr (.ok (.ret res)) { s with heap := g, toks := tk }) :
    wpAny (model prog w) A.in1 (Builtin.List.listExtendWith (.ref S) (.ref r) res)
      (fun fin s2 => match fin with | .done f => Rr (.ok f) s2 | .again c2 => c2.quiet = true ∧ codeAny (model prog w) A c2 Rr s2) (fun e s2 => Rr (.error e) s2) s := by
  obtain ⟨hh, oH, vH, gH, dH, cH⟩ := hot
  have nSr : S ≠ r := fun e => by rw [e, hr] at hS; simp at hS
  have nSI : S ≠ s.heap.objs.size := Nat.ne_of_lt (Heap.lt_size hS)
  have nxI : x1 ≠ s.heap.objs.size := Nat.ne_of_lt (Heap.lt_size gH)
  have nSx : S ≠ x1 := fun e => by
    rw [e, gH] at hS
    cases hS
    cases dH
  have nSf : S ∉ [s.heap.objs.size, x1] := fun m => by
    simp only [List.mem_cons, List.not_mem_nil, or_false] at m
    exact m.elim nSI nSx
  have W := (walks_rngH (prog := prog) (w := w) (A := A.in1) hh dH cH s.heap.objs.size nxI a c n).toS
  have go : ∀ (g : Heap) (c1 tk : Nat), IsRangeIter g s.heap.objs.size (a + ((0 : Nat) : Int) * c) ((n : Int) - ((0 : Nat) : Int)) c → (∀ d o, d ≠ S → s.heap.get? d = some o → g.get? d = some o) →
      g.get? S = some { cls := .type "list", data := .seq #[] c1 } → codeAny (model prog w) A (.builtin "list.extend.loop" ⟨[.ref S, .ref s.heap.objs.size, res], []⟩) Rr { s with heap := g, toks := tk } := fun g c1 tk it0 kg gS => by
    refine codeAny_extend_loopS W (by rw [sizeLine_eq]; omega) S nSf res n 0 _ #[] c1 rfl (Nat.zero_le _) ⟨it0, kg x1 _ (Ne.symm nSx) gH⟩ gS (ItemsOf.nil _) fun s2 acc c2 mv hS2 ia => ?_
    rw [Moved.eq_with mv]
    refine hR s2.heap s2.toks acc c2 (fun d o nd e => mv.heap d o (fun m => ?_) (kg d o nd e)) hS2 ia
    rcases List.mem_cons.mp m with z | z
    · exact nd z
    · exact Nat.ne_of_lt (Heap.lt_size e) (List.mem_singleton.mp z)
  unfold Builtin.List.listExtendWith
  refine wpAny_bind (wpAny_typeOf (T := "range") ⟨_, hr, rfl⟩ ?_)
  simp only [show Builtin.List.listSameRef (.ref S) (.ref r) = false by simp [Builtin.List.listSameRef, nSr], show (Value.type "range" == Value.type "list") = false by decide, show (Value.type "range" == Value.type "tuple") = false by decide, Bool.or_false, Bool.false_eq_true, if_false]
  refine wpAny_bind (wpAny_pyIter_range hr sm ?_)
  refine wpAny_bind (wpAny_holding (wpAny_hint_range (n := n) (Heap.get?_push_of_some _ hr) hn hl ?_))
  obtain ⟨it, eit⟩ : ∃ it : Obj, it = { cls := .type "range_iterator", data := .fields #[rawInt a, rawInt (Builtin.Range.rangeSize a b c), rawInt c] } := ⟨_, rfl⟩
  have it1 : IsRangeIter (s.heap.push it) s.heap.objs.size (a + ((0 : Nat) : Int) * c) ((n : Int) - ((0 : Nat) : Int)) c := by
    rw [eit]
    show IsRangeIter _ _ _ _ _
    rw [hn]
    simpa using Heap.get?_push_size _ rfl
  have S1 := Heap.get?_push_of_some it hS
  rw [← eit]
  refine wpAny_ite_split (fun _ => ?_) (fun _ => wpAny_pure ⟨plainId_quiet F.plain_extend_loop _, go _ _ _ it1 (fun d o _ e => Heap.get?_push_of_some _ e) S1⟩)
  refine wpAny_bind (wpAny_rule ?_)
  refine wpAny_bind ?_
  show wpAny _ _ (updateSeq S (·.push .none) >>= fun _ => updateSeq S (·.pop)) _ _ _
  refine wpAny_bind (wpAny_updateSeq S1 rfl ?_)
  have S2 := Heap.get?_update_self (Obj.mapSeq (·.push Value.none)) S1 rfl
  refine wpAny_updateSeq (hz := by seq_fits) S2 rfl ?_
  have S3 := Heap.get?_update_self (Obj.mapSeq (·.pop)) S2 rfl
  refine wpAny_pure ⟨plainId_quiet F.plain_extend_loop _, go _ _ _ ?_ (fun d o nd e => ?_) S3⟩
  · exact (Heap.get?_update_other _ _ nSI).trans ((Heap.get?_update_other _ _ nSI).trans it1)
  · exact (Heap.get?_update_other _ _ (Ne.symm nd)).trans ((Heap.get?_update_other _ _ (Ne.symm nd)).trans (Heap.get?_push_of_some _ e))
end
section
variable {prog : Program} {w : World} {A : Around} {E : Value → Shared → Prop} {s : Shared}
theorem init_rngH {Rr : Result → Shared → Prop} {r S x1 : Addr} {a b c : Int} {t u v : Tok} {n : Nat} (hot : HotAt A x1 s.heap) (hr : IsRange s.heap r a b c t u v) (sm : Builtin.Range.small a b c = true) (hn : Builtin.Range.rangeSize a b c = n) (hl : n ≤ 2 ^ 24)
    (hS : s.heap.get? S = some { cls := .type "list", data := .seq #[] })
    (hR : ∀ g tk acc c2, (∀ d o, d ≠ S → s.heap.get? d = some o → g.get? d = some o) → g.get? S = some { cls := .type "list", dict := none, data := .seq acc c2, slots := #[] } → ItemsOf (fun i v => ∃ t, v = .int (a + i * c) t) acc n → Rr (.ok (.ret .none)) { s with heap := g, toks := tk }) :
    wpAny (model prog w) A.in1 (Builtin.«list.__init__» ⟨[.ref S, .ref r], []⟩)
      (fun fin s2 => match fin with | .done f => Rr (.ok f) s2 | .again c2 => c2.quiet = true ∧ codeAny (model prog w) A c2 Rr s2) (fun e s2 => Rr (.error e) s2) s := by
  obtain ⟨hh, oH, vH, gH, dH, cH⟩ := hot
  have nSr : S ≠ r := fun e => by rw [e, hr] at hS; simp at hS
  have nSx : x1 ≠ S := fun e => by
    rw [← e, gH] at hS
    cases hS
    cases dH
  show wpAny _ _ (do let old ← Builtin.List.listItems (.ref S); Builtin.List.listUpdate (.ref S) (fun _ => #[]); letGo old.toList.reverse; Builtin.List.listExtendWith (.ref S) (.ref r) .none) _ _ s
  refine wpAny_bind ?_
  unfold Builtin.List.listItems
  refine wpAny_bind (wpAny_seqItems hS rfl (wpAny_pure ?_))
  show wpAny _ _ (updateSeq S (fun _ => #[]) >>= fun _ => letGo (#[] : Array Value).toList.reverse >>= fun _ => Builtin.List.listExtendWith (.ref S) (.ref r) .none) _ _ s
  refine wpAny_bind (wpAny_updateSeq hS rfl ?_)
  have keep : ∀ d o, d ≠ S → s.heap.get? d = some o → (s.heap.update S (Obj.mapSeq (fun _ => (#[] : Array Value)))).get? d = some o := fun d o nd e => by rw [Heap.get?_update_other _ _ (Ne.symm nd)]; exact e
  refine wpAny_bind (wpAny_letGo (ext_rngH ⟨hh, oH, vH, keep x1 _ nSx gH, dH, cH⟩ (keep r _ (Ne.symm nSr) hr) sm hn hl (Heap.get?_update_self (Obj.mapSeq (fun _ => (#[] : Array Value))) hS rfl) fun g tk acc c2 kg gS ia => ?_))
  exact hR g tk acc c2 (fun d o nd e => kg d o nd (keep d o nd e)) gS ia
theorem list_rngH {Q : Value → Shared → Prop} {r x1 : Addr} {a b c : Int} {t u v : Tok} {n : Nat} (hot : HotAt A x1 s.heap) (hr : IsRange s.heap r a b c t u v) (sm : Builtin.Range.small a b c = true) (hn : Builtin.Range.rangeSize a b c = n) (hl : n ≤ 2 ^ 24)
    (hQ : ∀ g tk acc c2, (∀ d o, s.heap.get? d = some o → g.get? d = some o) → g.get? s.heap.objs.size = some { cls := .type "list", dict := none, data := .seq acc c2, slots := #[] } → ItemsOf (fun i v => ∃ t, v = .int (a + i * c) t) acc n → Q (.ref s.heap.objs.size) { s with heap := g, toks := tk }) :
    wpAny (model prog w) A (call (.type "list") [.ref r]) Q E s := by
  obtain ⟨hh, oH, vH, gH, dH, cH⟩ := hot
  refine callType_codes (Q₁ := fun obj s2 => obj = .ref s.heap.objs.size ∧ s2 = { s with heap := s.heap.push { cls := .type "list", data := .seq #[] } }) F.called_list (F.typeCall_list_1 _) F.entry_list_init (code_list_new _ ⟨rfl, rfl⟩) fun obj s2 h2 => ?_
  obtain ⟨rfl, rfl⟩ := h2
  have gS : (s.heap.push { cls := .type "list", data := .seq #[] }).get? s.heap.objs.size = some { cls := .type "list", data := .seq #[] } := Heap.get?_push_size _ rfl
  exact ⟨⟨_, gS, rfl⟩, F.args_list_init_2 _ _, init_rngH (A := A.in1) ⟨hh, oH, vH, Heap.get?_push_of_some _ gH, dH, cH⟩ (Heap.get?_push_of_some _ hr) sm hn hl gS fun g tk acc c2 kg g2 ia => ⟨rfl, hQ g tk acc c2 (fun d o e => kg d o (Nat.ne_of_lt (Heap.lt_size e)) (Heap.get?_push_of_some _ e)) g2 ia⟩⟩
end
theorem pe_listRgH {X : Cx} {e : Expr} {te : L2.St → Hp → (Int → Int → Hp → Prop) → Prop} {p pos : Pos} (hc : HotC X) (hg : Gl X "list") (hm : X.mg "list" = none) (he : PRg X e te) (na : starEach [e] X.env = (false, eval e X.env) :: starEach [] X.env := by rfl) : PE X (.Call (.Name "list" p) [e] [] pos) (tLstRg te) := by
  refine ⟨fun pins s σ H Q I h => Call_ (ld_blt I hg hm boot_list (PyProof.Rows.callWith_type1 (args_cons (thn (he pins s σ H _ I h) fun x s2 ⟨r, a, b, t, u, v, H1, ex, hr, J, ok, q⟩ => args_nil ?_) na) na))⟩
  subst ex
  obtain ⟨x1, hot⟩ := hc.at J
  obtain ⟨b1, b2, b3, b4, b5⟩ := ok
  refine list_rngH (n := (b - a).toNat) hot hr (small_one b1 b2 b3 b4) (rangeSize_nat a b) b5 fun g tk acc c2 kg g2 ia => ?_
  refine ⟨.ref s2.heap.objs.size, upd H1 s2.heap.objs.size (.lst (rgV a b)), J.laid kg (Nat.le_refl _) (show ObjOk X.prog X.w _ _ _ (.lst (rgV a b)) from ⟨by rw [rgV_length, sizeLine_eq]; omega, acc.toList, c2, vals_rg ia, by rw [Array.toArray_toList]; exact g2⟩), rfl, q _ (J.hok.fresh (Nat.le_refl _))⟩
end WC

set_option maxHeartbeats 8000000
namespace WC
open PySem PySem.Spec PyProof.Rows L2
theorem chanOb_at {cs : List Tri} {st tg : List Int} {k : Nat} {c : Tri} (h : cs[k]? = some c) : chanOb cs st tg (k : Int) = if drawsM st tg c = true then (if c.2.2 < gi st c.1 - gi st c.2.1 then [(("jammed" : Str), (k : Int))] else []) ++ (if gi tg c.1 < gi tg c.2.1 then [(("orphan" : Str), (k : Int))] else []) else [] := by
  unfold chanOb
  rw [Int.toNat_natCast, List.getD_eq_getElem?_getD, h]
  rfl
theorem chanOb_len (cs : List Tri) (st tg : List Int) (k : Int) : (chanOb cs st tg k).length ≤ 2 := by
  unfold chanOb
  dsimp only
  split
  · rw [List.length_append]
    split <;> split <;> simp
  · simp
theorem chanObs_len (cs : List Tri) (st tg : List Int) : ∀ ms : List Int, (ms.flatMap (chanOb cs st tg)).length ≤ 2 * ms.length
  | [] => by simp
  | m :: ms => by
    rw [List.flatMap_cons, List.length_append, List.length_cons]
    have := chanObs_len cs st tg ms
    have := chanOb_len cs st tg m
    omega
section
variable {P : Program} {w : World} {K : PySem.W.Frag} {mg : Str → Option Value} {base : Heap}
theorem ok_channel_objections {f : Addr} {CS : List Addr} {fd : FuncData} (F : Fun K "_channel_objections" "_channel_objections" s_channel_objections f fd) (TC : ∀ C ∈ CS, NetCls K C) (g_draws_from : DefR P w K mg base "draws_from" 1 spDrw) :
    FnOk P w K mg base (L2.CX P w) 2 f fd ["net", "start", "target", "channels"] (spChO CS) := by
  refine F.okX sc_channel_objections (fun vs H Q E h => ?_) (fun cdv A outer s H vs Q E hr h => ?_)
  · obtain ⟨C, x, s, t, M, n, cs, st, tg, ms, _, rfl, _⟩ := h
    rfl
  · obtain ⟨C, x, s, t, M, n, cs, st, tg, ms, hC, rfl, NA, G, hs, ls, ht, lt, hM, hb, lm, q⟩ := h
    have hlen := G.len
    obtain ⟨dx, tc, ti, to, ws, hx, htc, hpw, _⟩ := NA.ex
    have T1 := TC C hC
    -- slots: 0 net, 1 start, 2 target, 3 channels, 4 found, 5 channel, 6 producer, 7 consumer, 8 capacity
    refine ⟨_, (pss_cons (ps_set (i := 4) sc_channel_objections.nd rfl (Or.inl rfl) (pe_lst pa_nil))
      (pss_cons (ps_for (passes_of rfl) rfl (pi_list (pv 3)) (pg_name (i := 5) sc_channel_objections.nd rfl (Or.inl rfl))
        (pss_one (ps_if (pt_val (pe_cd g_draws_from hr psE (pa_cons (pv 1) (pa_cons (pv 2) (pa_cons (pe_ix ix_tup (pe_fld (pv 0) rfl) (pv 5) (fun _ _ => rfl)) pa_nil))))) (pss_cons (ps_asg (pe_ix ix_tup (pe_fld (pv 0) rfl) (pv 5) (fun _ _ => rfl)) (pg_tup rfl (pgs_cons (pg_name (i := 6) sc_channel_objections.nd rfl (Or.inl rfl)) (pgs_cons (pg_name (i := 7) sc_channel_objections.nd rfl (Or.inl rfl)) (pgs_cons (pg_name (i := 8) sc_channel_objections.nd rfl (Or.inl rfl)) pgs_nil)))))
      (pss_cons (ps_if (pt_cmpR op_gt (pe_op op_sub (pe_ix ix_tup (pv 1) (pv 6) (fun _ _ => rfl)) (pe_ix ix_tup (pv 1) (pv 7) (fun _ _ => rfl))) (pv 8) (nomark _)) (pss_one (ps_expr (pe_bm PySem.F.plainAttrs_list PySem.F.slot_list_append PySem.F.type_list_append mt_append (pv 4) (pa_cons (pe_tup (pa_cons pe_str (pa_cons (pv 5) pa_nil))) pa_nil)))) pss_nil)
      (pss_one (ps_if (pt_cmpR op_lt (pe_ix ix_tup (pv 2) (pv 6) (fun _ _ => rfl)) (pe_ix ix_tup (pv 2) (pv 7) (fun _ _ => rfl)) (nomark _)) (pss_one (ps_expr (pe_bm PySem.F.plainAttrs_list PySem.F.slot_list_append PySem.F.type_list_append mt_append (pv 4) (pa_cons (pe_tup (pa_cons pe_str (pa_cons (pv 5) pa_nil))) pa_nil)))) pss_nil)))) pss_nil)))
      (pss_one (ps_ret (pv 4))))), ?_⟩
    refine ⟨by show 0 ≤ sizeLine; decide, fun L nL => ?_⟩
    refine ⟨_, rfl, M, rfl, ⟨_, SqL.of (Same.new nL _ _ hM)⟩, for_list (K := K) (a := M) (xs := ms.map V.int) (fun i σ H2 => ∃ ks v5 v6 v7 v8, σ = [some (.ref x), some (.ref s), some (.ref t), some (.ref M), some (.ref L), v5, v6, v7, v8] ∧ Same H H2 ∧ H2 L = some (.lst ks) ∧ Paired (ObA H2) ((ms.take i).flatMap (chanOb cs st tg)) ks) ⟨[], _, _, _, _, rfl, Same.new nL, upd_same, .nil⟩ (fun i σ H2 _ ⟨_, _, _, _, _, _, s2, _⟩ => SqL.of (s2 _ _ hM)) ?_ ?_⟩
    rotate_left
    · rintro σ H2 ⟨ks, v5, v6, v7, v8, rfl, s2, hL, hp⟩
      rw [List.length_map, List.take_length] at hp
      exact ⟨_, rfl, q L ks H2 s2 nL hL hp⟩
    rintro i y σ H2 hy ⟨ks, v5, v6, v7, v8, rfl, s2, hL, hp⟩
    rw [List.getElem?_map] at hy
    obtain ⟨k0, hk0, rfl⟩ : ∃ k0, ms[i]? = some k0 ∧ V.int k0 = y := by
      cases e : ms[i]? with
      | none => rw [e] at hy; cases hy
      | some k0 => rw [e] at hy; exact ⟨k0, rfl, Option.some.inj hy⟩
    obtain ⟨b0, b1⟩ := hb k0 (List.mem_of_getElem? hk0)
    obtain ⟨k, rfl⟩ : ∃ k : Nat, k0 = k := ⟨k0.toNat, by omega⟩
    obtain ⟨c, hc⟩ : ∃ c, cs[k]? = some c := ⟨_, List.getElem?_eq_getElem (by omega)⟩
    obtain ⟨u, hu, hcA⟩ := pr_to hpw hc
    have okc := G.ok c (List.mem_of_getElem? hc)
    obtain ⟨⟨c1, c2⟩, ⟨c3, c4⟩, _⟩ := okc
    have im := (List.getElem?_eq_some_iff.mp hk0).1
    have lks : ks.length ≤ 2 * i := by
      rw [← hp.length]
      have := chanObs_len cs st tg (ms.take i)
      rw [List.length_take] at this
      omega
    have fin : ∀ {H3 : Hp} {ks2 : List V} {os : List Obj_} {v6 v7 v8 : Option V}, Same H H3 → H3 L = some (.lst ks2) → Paired (ObA H3) ((ms.take i).flatMap (chanOb cs st tg) ++ os) ks2 → os = chanOb cs st tg k → ∃ ks v5' v6' v7' v8', [some (V.ref x), some (.ref s), some (.ref t), some (.ref M), some (.ref L), some (.int k), v6, v7, v8] = [some (V.ref x), some (.ref s), some (.ref t), some (.ref M), some (.ref L), v5', v6', v7', v8'] ∧ Same H H3 ∧ H3 L = some (.lst ks) ∧ Paired (ObA H3) ((ms.take (i + 1)).flatMap (chanOb cs st tg)) ks := fun a b c d => by
      subst d
      refine ⟨_, _, _, _, _, rfl, a, b, ?_⟩
      rw [take_snoc hk0, List.flatMap_append, List.flatMap_singleton]
      exact c
    have ecb := chanOb_at (st := st) (tg := tg) hc
    obtain ⟨tu, rfl, htu⟩ := hcA
    refine ⟨_, rfl, _, rfl, _, rfl, x, C, dx, _, _, rfl, s2 _ _ hx, T1.cl, T1.nC, lk_ch, _, rfl, tc, _, _, _, rfl, rfl, SqT.of (s2 _ _ htc), atI_nat hu, s, t, .ref tu, n, st, tg, c, rfl, s2 _ _ hs, ls, s2 _ _ ht, lt, ⟨tu, rfl, s2 _ _ htu⟩, G.ok c (List.mem_of_getElem? hc), _, rfl, ite2 (fun ed => ?_) (fun ed => ?_)⟩
    rotate_left
    · exact fin s2 hL (by rw [List.append_nil]; exact hp) (by rw [ecb, if_neg ed])
    rw [if_pos ed] at ecb
    refine ⟨_, rfl, x, C, dx, _, _, rfl, s2 _ _ hx, T1.cl, T1.nC, lk_ch, _, rfl, tc, _, _, _, rfl, rfl, SqT.of (s2 _ _ htc), atI_nat hu, tu, _, rfl, SqT.of (s2 _ _ htu), rfl, _, _, rfl, _, _, rfl, _, _, rfl, rfl, ?_⟩
    dsimp only
    refine seq_mid (fun σ H3 => ∃ ks, σ = [some (.ref x), some (.ref s), some (.ref t), some (.ref M), some (.ref L), some (.int k), some (.int c.1), some (.int c.2.1), some (.int c.2.2)] ∧ Same H H3 ∧ H3 L = some (.lst ks) ∧ ks.length ≤ 2 * i + 1 ∧ Paired (ObA H3) ((ms.take i).flatMap (chanOb cs st tg) ++ (if c.2.2 < gi st c.1 - gi st c.2.1 then [(("jammed" : Str), (k : Int))] else [])) ks) (fun N hN => ?_) ?_
    · refine ⟨_, rfl, _, rfl, s, _, _, _, rfl, rfl, SqT.of (s2 _ _ hs), at_st ls c1 c2, _, rfl, _, rfl, s, _, _, _, rfl, rfl, SqT.of (s2 _ _ hs), at_st ls c3 c4, _, _, rfl, rfl, _, rfl, _, _, rfl, rfl, _, rfl, ite2 (fun e => ?_) (fun e => ?_)⟩
      · refine ⟨_, rfl, .inl ⟨rfl, _, SqL.of hL⟩, _, rfl, by show 2 ≤ sizeLine; decide, fun T nT => ?_⟩
        obtain ⟨g1, g2, g3⟩ := obs_add (w := "jammed") (k := (k : Int)) s2 nL hL hp nT
        refine ⟨L, _, _, rfl, rfl, g1, line_lt (by omega), hN _ _ ⟨_, rfl, g2, upd_same, by rw [List.length_append]; show _ + 1 ≤ _; omega, ?_⟩⟩
        rw [if_pos (of_decide_eq_true e)]
        exact g3
      · refine hN _ _ ⟨ks, rfl, s2, hL, by omega, ?_⟩
        rw [if_neg (fun z => e (decide_eq_true z)), List.append_nil]
        exact hp
    clear hp hL s2 lks
    clear ks H2
    rintro σ H2 ⟨ks, rfl, s2, hL, lks, hp⟩
    refine ⟨_, rfl, _, rfl, t, _, _, _, rfl, rfl, SqT.of (s2 _ _ ht), at_st lt c1 c2, _, rfl, _, rfl, t, _, _, _, rfl, rfl, SqT.of (s2 _ _ ht), at_st lt c3 c4, _, _, rfl, rfl, _, rfl, ite2 (fun e => ?_) (fun e => ?_)⟩
    · refine ⟨_, rfl, .inl ⟨rfl, _, SqL.of hL⟩, _, rfl, by show 2 ≤ sizeLine; decide, fun T nT => ?_⟩
      obtain ⟨g1, g2, g3⟩ := obs_add (w := "orphan") (k := (k : Int)) s2 nL hL hp nT
      exact ⟨L, _, _, rfl, rfl, g1, line_lt (by omega), fin g2 upd_same (by rw [← List.append_assoc]; exact g3) (by rw [ecb, if_pos (of_decide_eq_true e)])⟩
    · exact fin s2 hL hp (by rw [ecb, if_neg (fun z => e (decide_eq_true z)), List.append_nil])
end
end WC

set_option maxHeartbeats 8000000
namespace WC
open PySem PySem.Spec PyProof.Rows L2
/-- the stages whose counter is so -/
def obsP (w : Str) (p : Int → Bool) (tg : List Int) (n : Nat) : List Obj_ := ((List.range n).filter fun (k : Nat) => p (gi tg k)).map fun (k : Nat) => (w, (k : Int))
theorem obsP_succ (w : Str) (p : Int → Bool) (tg : List Int) (n : Nat) : obsP w p tg (n + 1) = obsP w p tg n ++ if p (gi tg n) = true then [(w, (n : Int))] else [] := by
  unfold obsP
  rw [List.range_succ, List.filter_append, List.map_append]
  congr 1
  by_cases h : p (gi tg n) = true
  · rw [if_pos h, List.filter_cons, if_pos h]
    rfl
  · rw [if_neg h, List.filter_cons, if_neg h]
    rfl
theorem obsP_len (w : Str) (p : Int → Bool) (tg : List Int) (n : Nat) : (obsP w p tg n).length ≤ n := by
  unfold obsP
  rw [List.length_map]
  exact Nat.le_trans (List.length_filter_le _ _) (by rw [List.length_range]; exact Nat.le_refl _)
def spRgO : Sp := fun vs H Q _ => ∃ (s t : Addr) (n : Nat) (st tg : List Int), vs = [.ref s, .ref t] ∧ H s = some (.tup (st.map V.int)) ∧ st.length = n ∧ 1 ≤ n ∧ n ≤ 40 ∧ H t = some (.tup (tg.map V.int)) ∧ tg.length = n ∧
  ∀ lo hi L ks H2, (lo ∈ st ∧ ∀ y ∈ st, lo ≤ y) → (hi ∈ st ∧ ∀ y ∈ st, y ≤ hi) → Same H H2 → H L = none → H2 L = some (.lst ks) → Paired (ObA H2) (obsP "above" (fun c => decide (hi < c)) tg n ++ obsP "below" (fun c => decide (c < lo)) tg n) ks → Q (.ref L) H2
theorem pr_app {α β : Type} {F : α → β → Prop} : ∀ {l l2 : List α} {r r2 : List β}, Paired F l r → Paired F l2 r2 → Paired F (l ++ l2) (r ++ r2)
  | _, _, _, _, .nil, h => h
  | _, _, _, _, .cons p q, h => .cons p (pr_app q h)
section
variable {P : Program} {w : World} {K : PySem.W.Frag} {mg : Str → Option Value} {base : Heap}
theorem ok_range_objections {f : Addr} {fd : FuncData} (F : Fun K "_range_objections" "_range_objections" s_range_objections f fd) (B : Blt mg) : FnOk P w K mg base (L2.CX P w) 1 f fd ["start", "target"] spRgO := by
  refine F.okX sc_range_objections (fun vs H Q E h => ?_) (fun cdv A outer s H vs Q E hr h => ?_)
  · obtain ⟨s, t, n, st, tg, rfl, _⟩ := h
    rfl
  · obtain ⟨s, t, n, st, tg, rfl, hs, ls, n1, n40, ht, lt, q⟩ := h
    -- slots: 0 start, 1 target, 2 low*, 3 high*, 4 above, 5 stage, 6 counter, 7 below
    refine ⟨_, (pss_cons (ps_set (i := 2) sc_range_objections.nd rfl (Or.inr rfl) (pe_callB (cr_minT rfl (un65 hr)) (by rfl) B.min bt_min (pa_cons (pv 0) pa_nil)))
      (pss_cons (ps_set (i := 3) sc_range_objections.nd rfl (Or.inr rfl) (pe_callB (cr_maxT rfl (un65 hr)) (by rfl) B.max bt_max (pa_cons (pv 0) pa_nil)))
      (pss_cons (ps_setLc (i := 4) (own := [("stage", 5), ("counter", 6)]) rfl sc_range_objections.nd rfl rfl (sw_true rfl rfl rfl (by decide +kernel)) (pi_et B.enum (pa_cons (pv 1) pa_nil)) (blkOk_by (N := nn_range_objections) (sc := defScope s_range_objections) (own := [("stage", 5), ("counter", 6)]) (by decide +kernel)) (fun _ _ _ _ _ => (pg_tupK (K := K) (n := 2) rfl (pgs_cons (pg_name (i := 5) sc_range_objections.nd rfl (Or.inl rfl)) (pgs_cons (pg_name (i := 6) sc_range_objections.nd rfl (Or.inl rfl)) pgs_nil)))) (fun _ _ _ _ _ => (pts_one (pt_cmpR op_gt (pv 6) (pv 3) (nomark _)))) (fun _ _ _ _ _ => (pe_tup (pa_cons pe_str (pa_cons (pv 5) pa_nil)))))
      (pss_cons (ps_setLc (i := 7) (own := [("stage", 5), ("counter", 6)]) rfl sc_range_objections.nd rfl rfl (sw_true rfl rfl rfl (by decide +kernel)) (pi_et B.enum (pa_cons (pv 1) pa_nil)) (blkOk_by (N := nn_range_objections) (sc := defScope s_range_objections) (own := [("stage", 5), ("counter", 6)]) (by decide +kernel)) (fun _ _ _ _ _ => (pg_tupK (K := K) (n := 2) rfl (pgs_cons (pg_name (i := 5) sc_range_objections.nd rfl (Or.inl rfl)) (pgs_cons (pg_name (i := 6) sc_range_objections.nd rfl (Or.inl rfl)) pgs_nil)))) (fun _ _ _ _ _ => (pts_one (pt_cmpR op_lt (pv 6) (pv 2) (nomark _)))) (fun _ _ _ _ _ => (pe_tup (pa_cons pe_str (pa_cons (pv 5) pa_nil)))))
      (pss_one (ps_ret (pe_op op_cat (pv 4) (pv 7)))))))), ?_⟩
    refine ⟨_, rfl, s, st, rfl, SqT.of hs, by omega, fun lo m1 m2 => ⟨_, rfl, s, st, rfl, SqT.of hs, by omega, fun hi m3 m4 => ?_⟩⟩
    have lw : (tg.map V.int).length = n := by rw [List.length_map]; exact lt
    refine ⟨_, rfl, t, _, rfl, SqT.of ht, fun D hD => lc_it (walk_et (xs := tg.map V.int)) (fun i H2 => Same H H2 ∧ ∃ ks, H2 D = some (.lst ks) ∧ Paired (ObA H2) (obsP "above" (fun c => decide (hi < c)) tg i) ks) ⟨Same.new hD, [], upd_same, .nil⟩ (fun i H2 _ z => SqT.of (z.1 _ _ ht)) ?_ ?_⟩
    · rintro i x H2 H3 hil ⟨s2, ks, k1, k2⟩ ⟨T1, x1, y1, rfl, hT, rfl, e1, e2⟩
      cases e1
      rw [lw] at hil
      have ey : (tg.map V.int)[i]? = some (.int (gi tg i)) := by rw [List.getElem?_map, List.getElem?_eq_getElem (by omega)]; exact congrArg some (congrArg V.int (gi_at (List.getElem?_eq_getElem (by omega))).symm)
      have e2 : (tg.map V.int)[i]? = some y1 := e2
      rw [ey] at e2
      obtain rfl := Option.some.inj e2
      have s3 : Same H2 (upd H2 T1 (.tup [.int (i : Nat), .int (gi tg i)])) := Same.new hT
      have lks : ks.length ≤ i := by rw [← k2.length]; exact obsP_len _ _ _ _
      refine ⟨T1, _, rfl, SqT.of upd_same, rfl, _, _, rfl, _, _, rfl, rfl, rfl, _, rfl, _, rfl, _, _, rfl, rfl, _, rfl, ite2 (fun e => ?_) (fun e => ?_)⟩
      · refine ⟨_, rfl, by show 2 ≤ sizeLine; decide, fun T nT => ?_⟩
        obtain ⟨g1, g2, g3⟩ := obs_add (w := "above") (k := (i : Int)) (s2.trans s3) hD (s3 _ _ k1) (obs_same k2 s3) nT
        refine ⟨ks, g1, line_lt (by omega), g2, _, upd_same, ?_⟩
        rw [obsP_succ, if_pos (show decide (hi < gi tg i) = true from e)]
        exact g3
      · refine ⟨s2.trans s3, ks, s3 _ _ k1, ?_⟩
        rw [obsP_succ, if_neg (show ¬ decide (hi < gi tg i) = true from e), List.append_nil]
        exact obs_same k2 s3
    rintro H2 ⟨s2, ka, hka, pka⟩
    rw [lw] at pka
    have ht2 := s2 _ _ ht
    refine ⟨_, rfl, t, _, rfl, SqT.of ht2, fun D2 hD2 => lc_it (walk_et (xs := tg.map V.int)) (fun i H3 => Same H2 H3 ∧ ∃ ks, H3 D2 = some (.lst ks) ∧ Paired (ObA H3) (obsP "below" (fun c => decide (c < lo)) tg i) ks) ⟨Same.new hD2, [], upd_same, .nil⟩ (fun i H3 _ z => SqT.of (z.1 _ _ ht2)) ?_ ?_⟩
    · rintro i x H3 H4 hil ⟨s3, ks, k1, k2⟩ ⟨T1, x1, y1, rfl, hT, rfl, e1, e2⟩
      cases e1
      rw [lw] at hil
      have ey : (tg.map V.int)[i]? = some (.int (gi tg i)) := by rw [List.getElem?_map, List.getElem?_eq_getElem (by omega)]; exact congrArg some (congrArg V.int (gi_at (List.getElem?_eq_getElem (by omega))).symm)
      have e2 : (tg.map V.int)[i]? = some y1 := e2
      rw [ey] at e2
      obtain rfl := Option.some.inj e2
      have s4 : Same H3 (upd H3 T1 (.tup [.int (i : Nat), .int (gi tg i)])) := Same.new hT
      have lks : ks.length ≤ i := by rw [← k2.length]; exact obsP_len _ _ _ _
      refine ⟨T1, _, rfl, SqT.of upd_same, rfl, _, _, rfl, _, _, rfl, rfl, rfl, _, rfl, _, rfl, _, _, rfl, rfl, _, rfl, ite2 (fun e => ?_) (fun e => ?_)⟩
      · refine ⟨_, rfl, by show 2 ≤ sizeLine; decide, fun T nT => ?_⟩
        obtain ⟨g1, g2, g3⟩ := obs_add (w := "below") (k := (i : Int)) (s3.trans s4) hD2 (s4 _ _ k1) (obs_same k2 s4) nT
        refine ⟨ks, g1, line_lt (by omega), g2, _, upd_same, ?_⟩
        rw [obsP_succ, if_pos (show decide (gi tg i < lo) = true from e)]
        exact g3
      · refine ⟨s3.trans s4, ks, s4 _ _ k1, ?_⟩
        rw [obsP_succ, if_neg (show ¬ decide (gi tg i < lo) = true from e), List.append_nil]
        exact obs_same k2 s4
    rintro H3 ⟨s3, kb, hkb, pkb⟩
    rw [lw] at pkb
    have l1 := pka.length
    have l2 := pkb.length
    have l3 := obsP_len "above" (fun c => decide (hi < c)) tg n
    have l4 := obsP_len "below" (fun c => decide (c < lo)) tg n
    refine ⟨_, rfl, _, rfl, D, D2, _, _, rfl, rfl, s3 _ _ hka, hkb, line_of (by omega), fun L nL => ?_⟩
    have s4 : Same H3 (upd H3 L (.lst (ka ++ kb))) := Same.new nL
    have s04 := s2.trans (s3.trans s4)
    exact q lo hi L _ _ ⟨m1, m2⟩ ⟨m3, m4⟩ s04 ((s2.trans s3).free nL) upd_same (obs_same (pr_app (obs_same pka s3) pkb) s4)
end
end WC

set_option maxHeartbeats 8000000
namespace WC
open PySem PySem.Spec PyProof.Rows L2
def spRing1 (CS : List Addr) (b : Bool) : Sp := fun vs H Q _ => ∃ x : Addr, vs = [.ref x] ∧ Q (.bl b) H
def KC (CP CR C : Addr) (ring : Bool) : Prop := C = CR ∧ ring = true
theorem KC.mem {CP CR C : Addr} {ring : Bool} (h : KC CP CR C ring) : C ∈ [CP, CR] := by
  rw [h.1]
  exact List.mem_cons_of_mem _ List.mem_cons_self
def nums (n : Nat) : List Int := (List.range n).map Int.ofNat
theorem nums_len (n : Nat) : (nums n).length = n := by unfold nums; simp
theorem nums_rg (n : Nat) : rgV 0 (n : Int) = (nums n).map V.int := by
  unfold rgV nums
  rw [List.map_map, show ((n : Int) - 0).toNat = n by omega]
  refine List.map_congr_left fun i _ => ?_
  show V.int (0 + (i : Int)) = V.int (i : Int)
  rw [Int.zero_add]
theorem nums_mem {n : Nat} {k : Int} (h : k ∈ nums n) : 0 ≤ k ∧ k < n := by
  unfold nums at h
  obtain ⟨i, hi, rfl⟩ := List.mem_map.mp h
  have := List.mem_range.mp hi
  exact ⟨Int.natCast_nonneg _, by show (i : Int) < n; omega⟩
/-- all the objections, in the order in which they are found -/
def AllOb (cs : List Tri) (st tg : List Int) (n : Nat) (ring : Bool) (U : List Obj_) : Prop :=
  (ring = false ∧ U = stageObs cs st tg n ++ (nums cs.length).flatMap (chanOb cs st tg)) ∨
  (ring = true ∧ ∃ lo hi, (lo ∈ st ∧ ∀ y ∈ st, lo ≤ y) ∧ (hi ∈ st ∧ ∀ y ∈ st, y ≤ hi) ∧ U = stageObs cs st tg n ++ (nums cs.length).flatMap (chanOb cs st tg) ++ (obsP "above" (fun c => decide (hi < c)) tg n ++ obsP "below" (fun c => decide (c < lo)) tg n))
def spAllO (CP CR : Addr) : Sp := fun vs H Q _ => ∃ (C x s t : Addr) (ring : Bool) (n : Nat) (cs : List Tri) (st tg : List Int), KC CP CR C ring ∧ vs = [.ref x, .ref s, .ref t] ∧ NetAt H x C n cs ∧ NOk n cs ∧ H s = some (.tup (st.map V.int)) ∧ st.length = n ∧ H t = some (.tup (tg.map V.int)) ∧ tg.length = n ∧
  ∀ T ks os U H2, Same H H2 → H T = none → H2 T = some (.tup ks) → Paired (ObA H2) os ks → AllOb cs st tg n ring U → os.Perm U → os.Pairwise (fun a b => lexSI b a = false) → Q (.ref T) H2
theorem ob_key (H : Hp) : ∃ kf : V → SI, ∀ c v, ObA H c v → kf v = c := by
  classical
  refine ⟨fun v => if h : ∃ c, ObA H c v then h.choose else ("", 0), fun c v hc => ?_⟩
  have h : ∃ c, ObA H c v := ⟨c, hc⟩
  dsimp only
  rw [dif_pos h]
  obtain ⟨t1, e1, e2⟩ := h.choose_spec
  obtain ⟨t2, e3, e4⟩ := hc
  rw [e1] at e3
  cases e3
  rw [e2] at e4
  injection e4 with e4
  injection e4 with e4
  simp only [List.cons.injEq, V.int.injEq, V.str.injEq, and_true] at e4
  exact Prod.ext e4.1 e4.2
section
variable {P : Program} {w : World} {K : PySem.W.Frag} {mg : Str → Option Value} {base : Heap}
theorem ok_all_objections {f CP CR : Addr} {fd : FuncData} (F : Fun K "all_objections" "all_objections" s_all_objections f fd) (B : Blt mg) (TC : ∀ C ∈ [CP, CR], NetCls K C) (g_stage_objections : DefR P w K mg base "_stage_objections" 5 (spStO [CP, CR])) (g_channel_objections : DefR P w K mg base "_channel_objections" 2 (spChO [CP, CR])) (g_is_ring : ∀ C ring, KC CP CR C ring → MetR P w K mg base C "is_ring" 1 (spRing1 [CP, CR] ring)) (g_range_objections : DefR P w K mg base "_range_objections" 1 spRgO) :
    FnOk P w K mg base (L2.CX P w) 6 f fd ["net", "start", "target"] (spAllO CP CR) := by
  refine F.okX sc_all_objections (fun vs H Q E h => ?_) (fun cdv A outer s H vs Q E hr h => ?_)
  · obtain ⟨C, x, s, t, ring, n, cs, st, tg, _, rfl, _⟩ := h
    rfl
  · obtain ⟨C, x, s, t, ring, n, cs, st, tg, hK, rfl, NA, G, hs, ls, ht, lt, q⟩ := h
    have hC := hK.mem
    have T1 := TC C hC
    have n40 := G.n40
    have hlen := G.len
    obtain ⟨dx, tc, ti, to, ws, hx, htc, hpw, _⟩ := NA.ex
    have lws := hpw.length
    -- slots: 0 net, 1 start, 2 target, 3 channels, 4 found
    refine ⟨_, (pss_cons (ps_set (i := 3) sc_all_objections.nd rfl (Or.inl rfl) (pe_listRg rfl (by rfl) B.list (prg_1 (by rfl) B.range (pe_callB call_len_seq (by rfl) B.len bt_len (pa_cons (pe_fld (pv 0) rfl) pa_nil)))))
      (pss_cons (ps_set (i := 4) sc_all_objections.nd rfl (Or.inl rfl) (pe_op op_cat (pe_cd g_stage_objections hr psE (pa_cons (pv 0) (pa_cons (pv 1) (pa_cons (pv 2) pa_nil)))) (pe_cd g_channel_objections hr psE (pa_cons (pv 0) (pa_cons (pv 1) (pa_cons (pv 2) (pa_cons (pv 3) pa_nil)))))))
      (pss_cons (ps_if (pt_val (pe_mtr0 (g_is_ring C ring hK) (pv 0) hr psE)) (pss_one (ps_set (i := 4) sc_all_objections.nd rfl (Or.inl rfl) (pe_op op_cat (pv 4) (pe_cd g_range_objections hr psE (pa_cons (pv 1) (pa_cons (pv 2) pa_nil)))))) pss_nil)
      (pss_one (ps_ret (pe_callTy (T := "tuple") (c_tup (K := K)) (by rfl) B.tuple bt_tuple (pa_cons (pe_callB (cr_sortSI (K := K)) (by rfl) B.sorted bt_sorted (pa_cons (pv 4) pa_nil)) pa_nil))))))), ?_⟩
    refine ⟨_, rfl, x, C, dx, _, _, rfl, hx, T1.cl, T1.nC, lk_ch, tc, ws, rfl, .inr (SqT.of htc), (ws.length : Int), rfl, RgOk.of_le (by omega) (by omega) (by omega) (by omega), fun M nM => ?_⟩
    rw [← lws, nums_rg]
    have s1 : Same H (upd H M (.lst ((nums cs.length).map V.int))) := Same.new nM
    have hM : (upd H M (.lst ((nums cs.length).map V.int))) M = some (.lst ((nums cs.length).map V.int)) := upd_same
    obtain ⟨H1, e1⟩ : ∃ H1, H1 = upd H M (.lst ((nums cs.length).map V.int)) := ⟨_, rfl⟩
    rw [← e1] at s1 hM ⊢
    refine ⟨_, rfl, _, rfl, _, rfl, C, x, s, t, n, cs, st, tg, hC, rfl, NA.same s1, G, s1 _ _ hs, ls, s1 _ _ ht, lt, fun L1 k1 H2 s2 nL1 hL1 p1 => ?_⟩
    have s02 := s1.trans s2
    refine ⟨_, rfl, _, rfl, _, rfl, _, rfl, C, x, s, t, M, n, cs, st, tg, nums cs.length, hC, rfl, NA.same s02, G, s02 _ _ hs, ls, s02 _ _ ht, lt, s2 _ _ hM, fun k hk => nums_mem hk, by rw [nums_len]; omega, fun L2 k2 H3 s3 nL2 hL2 p2 => ?_⟩
    have l1 := p1.length
    have l2 := p2.length
    have l3 := stageObs_len cs st tg n
    have l4 := chanObs_len cs st tg (nums cs.length)
    rw [nums_len] at l4
    refine ⟨L1, L2, _, _, rfl, rfl, s3 _ _ hL1, hL2, line_of (by omega), fun L3 nL3 => ?_⟩
    have s4 : Same H3 (upd H3 L3 (.lst (k1 ++ k2))) := Same.new nL3
    have s04 := s02.trans (s3.trans s4)
    have p3 : Paired (ObA (upd H3 L3 (.lst (k1 ++ k2)))) (stageObs cs st tg n ++ (nums cs.length).flatMap (chanOb cs st tg)) (k1 ++ k2) := obs_same (pr_app (obs_same p1 s3) p2) s4
    dsimp only [gName]
    refine seq_mid (fun σ H5 => ∃ (L : Addr) (ks : List V) (U : List Obj_), σ = [some (.ref x), some (.ref s), some (.ref t), some (.ref M), some (.ref L)] ∧ Same H H5 ∧ H5 L = some (.lst ks) ∧ Paired (ObA H5) U ks ∧ AllOb cs st tg n ring U) (fun N hN => ?_) ?_
    · refine ⟨_, rfl, x, dx, _, rfl, s04 _ _ hx, fld4_none (by decide +kernel) (by decide +kernel) (by decide +kernel) (by decide +kernel), x, rfl, _, rfl, ?_⟩
      cases ring with
      | false => exact iteF (hN _ _ ⟨L3, _, _, rfl, s04, upd_same, p3, .inl ⟨rfl, rfl⟩⟩)
      | true =>
        refine iteT ⟨_, rfl, _, rfl, _, rfl, s, t, n, st, tg, rfl, s04 _ _ hs, ls, G.n1, n40, s04 _ _ ht, lt, fun lo hi L4 k4 H5 b1 b2 s5 nL4 hL4 p4 => ?_⟩
        have l5 := p4.length
        rw [List.length_append] at l5
        have l6 := obsP_len "above" (fun c => decide (hi < c)) tg n
        have l7 := obsP_len "below" (fun c => decide (c < lo)) tg n
        refine ⟨L3, L4, _, _, rfl, rfl, s5 _ _ upd_same, hL4, line_of (by rw [List.length_append]; omega), fun L5 nL5 => ?_⟩
        have s6 : Same H5 (upd H5 L5 (.lst (k1 ++ k2 ++ k4))) := Same.new nL5
        exact hN _ _ ⟨L5, _, _, rfl, s04.trans (s5.trans s6), upd_same, obs_same (pr_app (obs_same p3 s5) p4) s6, .inr ⟨rfl, lo, hi, b1, b2, rfl⟩⟩
    rintro σ H5 ⟨L, ks, U, rfl, s05, hL, pU, hU⟩
    obtain ⟨kf, hkf⟩ := ob_key H5
    refine ⟨_, rfl, L, ks, kf, rfl, SqL.of hL, fun v hv => ?_, fun ys p hperm hpw np => ⟨p, ys, rfl, .inl ⟨SqL.of upd_same, fun T nT => ?_⟩⟩⟩
    · obtain ⟨i, hi⟩ := List.mem_iff_getElem?.mp hv
      obtain ⟨c, hc, hcv⟩ := pr_at pU hi
      have ek := hkf c v hcv
      obtain ⟨t1, rfl, ht1⟩ := hcv
      exact ⟨t1, rfl, by rw [ek]; exact ht1⟩
    obtain ⟨os, hos, po⟩ := pr_perm hperm pU
    have s6 : Same H5 (upd H5 p (.lst ys)) := Same.new np
    have s7 : Same (upd H5 p (.lst ys)) (upd (upd H5 p (.lst ys)) T (.tup ys)) := Same.new nT
    have s67 := s6.trans s7
    refine q T ys os U _ (s05.trans s67) (s05.free (s6.free nT)) upd_same (obs_same po s67) hU hos ?_
    rw [List.pairwise_iff_getElem]
    intro i j hi hj hij
    obtain ⟨v1, g1, f1⟩ := pr_to po (i := i) (a := os[i]) (by simp [hi])
    obtain ⟨v2, g2, f2⟩ := pr_to po (i := j) (a := os[j]) (by simp [hj])
    obtain ⟨x1, x2⟩ := List.getElem?_eq_some_iff.mp g1
    obtain ⟨x3, x4⟩ := List.getElem?_eq_some_iff.mp g2
    have z := (List.pairwise_iff_getElem.mp hpw) i j x1 x3 hij
    rw [x2, x4, hkf os[i] _ f1, hkf os[j] _ f2] at z
    exact z
end
end WC

set_option maxHeartbeats 8000000
namespace WC
open PySem PySem.Spec PyProof.Rows L2
theorem st_back {K : PySem.W.Frag} {H H2 : Hp} {v : V} {ns : List Int} (c : Cand K H v) (z : Same H H2) (h : StAt H2 v ns) : StAt H v ns := by
  obtain ⟨t, rfl, q⟩ := h
  rcases c.1 with ⟨xs, e⟩ | ⟨xs, e⟩
  · have e2 := z _ _ e
    rw [q] at e2
    cases e2
    exact ⟨t, rfl, e⟩
  · have e2 := z _ _ e
    rw [q] at e2
    cases e2
theorem bad_back {K : PySem.W.Frag} {H H2 : Hp} {n : Nat} {v p : V} (c : Cand K H v) (z : Same H H2) (b : StBad K H2 n v p) : StBad K H n v p := by
  cases b with
  | shape k h => exact .shape c.1 fun t xs e q => h t xs e (z _ _ q)
  | @item t xs x i ht hl hi hx hb hk =>
    have q : H t = some (.tup xs) := by
      rcases c.1 with ⟨ys, e⟩ | ⟨ys, e⟩
      · have e2 := z _ _ e
        rw [ht] at e2
        cases e2
        exact e
      · have e2 := z _ _ e
        rw [ht] at e2
        cases e2
    exact .item q hl hi hx hb fun y hy => (c.2 t xs rfl q).2 y hy
/-- what is told of two states -/
def spO2 (K : PySem.W.Frag) (CP CR CX : Addr) (res : Hp → Nat → List Tri → Bool → List Int → List Int → VK → XK → Prop) : Sp := fun vs H Q E => ∃ (C x : Addr) (v1 v2 : V) (ring : Bool) (n : Nat) (cs : List Tri), KC CP CR C ring ∧ vs = [.ref x, v1, v2] ∧ NetAt H x C n cs ∧ NOk n cs ∧ Cand K H v1 ∧ Cand K H v2 ∧
  (∀ st tg, StAt H v1 st → StOk n st → StAt H v2 tg → StOk n tg → res H n cs ring st tg Q E) ∧ (∀ p, StBad K H n v1 p → ErrX E CX H [("position", p)]) ∧ (∀ st p, StAt H v1 st → StOk n st → StBad K H n v2 p → ErrX E CX H [("position", p)])
def resObs : Hp → Nat → List Tri → Bool → List Int → List Int → VK → XK → Prop := fun H n cs ring st tg Q _ => ∀ T ks os U H2, Same H H2 → H T = none → H2 T = some (.tup ks) → Paired (ObA H2) os ks → AllOb cs st tg n ring U → os.Perm U → os.Pairwise (fun a b => lexSI b a = false) → Q (.ref T) H2
def resRch : Hp → Nat → List Tri → Bool → List Int → List Int → VK → XK → Prop := fun H n cs ring st tg Q _ => ∀ U H2, Same H H2 → AllOb cs st tg n ring U → Q (.bl (decide (U.length = 0))) H2
section
variable {P : Program} {w : World} {K : PySem.W.Frag} {mg : Str → Option Value} {base : Heap}
theorem ok_objections {f CX CP CR : Addr} {fd : FuncData} (F : Fun K "objections" "objections" s_objections f fd) (g_check_state : DefR P w K mg base "check_state" 3 (spS K [CP, CR] CX 0 resState)) (g_all_objections : DefR P w K mg base "all_objections" 6 (spAllO CP CR)) :
    FnOk P w K mg base (L2.CX P w) 7 f fd ["net", "start", "target"] (spO2 K CP CR CX resObs) := by
  refine F.okX sc_objections (fun vs H Q E h => ?_) (fun cdv A outer s H vs Q E hr h => ?_)
  · obtain ⟨C, x, v1, v2, ring, n, cs, _, rfl, _⟩ := h
    rfl
  · obtain ⟨C, x, v1, v2, ring, n, cs, hK, rfl, NA, G, c1, c2, k1, k2, k3⟩ := h
    -- slots: 0 net, 1 start, 2 target
    refine ⟨_, (pss_cons (ps_expr (pe_cd g_check_state hr psE (pa_cons (pv 0) (pa_cons (pv 1) pa_nil))))
      (pss_cons (ps_expr (pe_cd g_check_state hr psE (pa_cons (pv 0) (pa_cons (pv 2) pa_nil))))
      (pss_one (ps_ret (pe_cd g_all_objections hr psE (pa_cons (pv 0) (pa_cons (pv 1) (pa_cons (pv 2) pa_nil)))))))), ?_⟩
    refine ⟨_, rfl, _, rfl, C, x, v1, n, cs, [], hK.mem, rfl, rfl, NA, G, c1, fun st ha hk H2 s2 => ?_, k2⟩
    refine ⟨_, rfl, _, rfl, C, x, v2, n, cs, [], hK.mem, rfl, rfl, NA.same s2, G, c2.same s2, fun tg hb hl H3 s3 => ?_, fun p b => (k3 st p ha hk (bad_back c2 s2 b)).on s2⟩
    have hb0 := st_back c2 s2 hb
    have s03 := s2.trans s3
    have r := k1 st tg ha hk hb0 hl
    obtain ⟨t1, rfl, h1⟩ := ha.same s03
    obtain ⟨t2, rfl, h2⟩ := hb0.same s03
    exact ⟨_, rfl, _, rfl, _, rfl, C, x, t1, t2, ring, n, cs, st, tg, hK, rfl, NA.same s03, G, h1, hk.1, h2, hl.1, fun T ks os U H4 s4 nT hT po hU pm so => r T ks os U H4 (s03.trans s4) (s03.free nT) hT po hU pm so⟩
theorem ok_reaches {f CX CP CR : Addr} {fd : FuncData} (F : Fun K "reaches" "reaches" s_reaches f fd) (B : Blt mg) (g_objections : DefR P w K mg base "objections" 7 (spO2 K CP CR CX resObs)) :
    FnOk P w K mg base (L2.CX P w) 8 f fd ["net", "start", "target"] (spO2 K CP CR CX resRch) := by
  refine F.okX sc_reaches (fun vs H Q E h => ?_) (fun cdv A outer s H vs Q E hr h => ?_)
  · obtain ⟨C, x, v1, v2, ring, n, cs, _, rfl, _⟩ := h
    rfl
  · obtain ⟨C, x, v1, v2, ring, n, cs, hK, rfl, NA, G, c1, c2, k1, k2, k3⟩ := h
    -- slots: 0 net, 1 start, 2 target
    refine ⟨_, (pss_one (ps_ret (pe_cmpR op_eq (pe_callB call_len_seq (by rfl) B.len bt_len (pa_cons (pe_cd g_objections hr psE (pa_cons (pv 0) (pa_cons (pv 1) (pa_cons (pv 2) pa_nil)))) pa_nil)) pe_int (nomark _)))), ?_⟩
    refine ⟨_, rfl, _, rfl, _, rfl, C, x, v1, v2, ring, n, cs, hK, rfl, NA, G, c1, c2, fun st tg ha hk hb hl T ks os U H2 s2 nT hT po hU pm so => ?_, k2, k3⟩
    refine ⟨T, _, rfl, .inr (SqT.of hT), rfl, ?_⟩
    have e : ks.length = U.length := by rw [← po.length, pm.length_eq]
    have z := k1 st tg ha hk hb hl U H2 s2 hU
    have y : decide (V.int (ks.length : Nat) = V.int 0) = decide (U.length = 0) := by
      rw [e]
      by_cases g : U.length = 0
      · rw [decide_eq_true g, decide_eq_true (show V.int (U.length : Nat) = V.int 0 by rw [g]; rfl)]
      · rw [decide_eq_false g, decide_eq_false (fun q => g (by have := V.int.inj q; omega))]
    rw [y]
    exact z
end
end WC

set_option maxHeartbeats 8000000
namespace WC
open PySem PySem.Spec PyProof.Rows L2
structure Blt3 (mg : Str → Option Value) : Prop where
  zip : mg "zip" = none
  abs : mg "abs" = none
def diffM (st tg : List Int) (n : Nat) : List Int := (List.range n).map fun (k : Nat) => if gi st k - gi tg k < 0 then -(gi st k - gi tg k) else gi st k - gi tg k
theorem diffM_succ (st tg : List Int) (n : Nat) : diffM st tg (n + 1) = diffM st tg n ++ [if gi st n - gi tg n < 0 then -(gi st n - gi tg n) else gi st n - gi tg n] := by
  unfold diffM
  rw [List.range_succ, List.map_append]
  rfl
def distM (st tg : List Int) (n : Nat) : Int := (diffM st tg n).sum
def spMvB : Sp := fun vs H Q _ => ∃ (s t : Addr) (n : Nat) (st tg : List Int), vs = [.ref s, .ref t] ∧ H s = some (.tup (st.map V.int)) ∧ st.length = n ∧ n ≤ 40 ∧ H t = some (.tup (tg.map V.int)) ∧ tg.length = n ∧ ∀ H2, Same H H2 → Q (.int (distM st tg n)) H2
section
variable {P : Program} {w : World} {K : PySem.W.Frag} {mg : Str → Option Value} {base : Heap}
theorem ok_moves_between {f : Addr} {fd : FuncData} (F : Fun K "moves_between" "moves_between" s_moves_between f fd) (B : Blt mg) (B2 : Blt3 mg) : FnOk P w K mg base (L2.CX P w) 1 f fd ["start", "target"] spMvB := by
  refine F.okX sc_moves_between (fun vs H Q E h => ?_) (fun cdv A outer s H vs Q E hr h => ?_)
  · obtain ⟨s, t, n, st, tg, rfl, _⟩ := h
    rfl
  · obtain ⟨s, t, n, st, tg, rfl, hs, ls, n40, ht, lt, q⟩ := h
    have ll : (st.map V.int).length = (tg.map V.int).length := by rw [List.length_map, List.length_map, ls, lt]
    have lw : (st.map V.int).length = n := by rw [List.length_map]; exact ls
    -- slots: 0 start, 1 target, 2 counter, 3 wanted
    refine ⟨_, (pss_one (ps_ret (pe_callB (cr_sum rfl) (by rfl) B.sum bt_sum (pa_cons (pe_lc (own := [("counter", 2), ("wanted", 3)]) rfl sc_moves_between.nd (pi_zipM B2.zip (pa_cons (pv 0) (pa_cons (pv 1) pa_nil))) (blkOk_by (N := nn_moves_between) (sc := defScope s_moves_between) (own := [("counter", 2), ("wanted", 3)]) (by decide +kernel)) (fun _ _ _ _ _ => (pg_tupK (K := K) (n := 2) rfl (pgs_cons (pg_name (i := 2) sc_moves_between.nd rfl (Or.inl rfl)) (pgs_cons (pg_name (i := 3) sc_moves_between.nd rfl (Or.inl rfl)) pgs_nil)))) (fun _ _ _ _ _ => pts_nil) (fun _ _ _ _ _ => (pe_callB call_abs (by rfl) B2.abs boot_abs (pa_cons (pe_op op_sub (pv 2) (pv 3)) pa_nil)))) pa_nil)))), ?_⟩
    refine ⟨_, rfl, _, rfl, s, t, _, _, true, true, rfl, SqT.of hs, SqT.of ht, fun D hD => lc_it (walk_zipM ll) (fun i H4 => Same H H4 ∧ H4 D = some (.lst ((diffM st tg i).map V.int))) ⟨Same.new hD, upd_same⟩ (fun i H4 _ z => ⟨SqT.of (z.1 _ _ hs), SqT.of (z.1 _ _ ht)⟩) ?_ ?_⟩
    · rintro i x H2 H3 hil ⟨s2, hd⟩ ⟨T1, x1, y1, rfl, hT, rfl, e1, e2⟩
      rw [lw] at hil
      have q1 : (st.map V.int)[i]? = some (.int (gi st i)) := by rw [List.getElem?_map, List.getElem?_eq_getElem (by omega)]; exact congrArg some (congrArg V.int (gi_at (List.getElem?_eq_getElem (by omega))).symm)
      have q2 : (tg.map V.int)[i]? = some (.int (gi tg i)) := by rw [List.getElem?_map, List.getElem?_eq_getElem (by omega)]; exact congrArg some (congrArg V.int (gi_at (List.getElem?_eq_getElem (by omega))).symm)
      have e1 : (st.map V.int)[i]? = some x1 := e1
      have e2 : (tg.map V.int)[i]? = some y1 := e2
      rw [q1] at e1
      rw [q2] at e2
      obtain rfl := Option.some.inj e1
      obtain rfl := Option.some.inj e2
      have s3 : Same H2 (upd H2 T1 (.tup [.int (gi st i), .int (gi tg i)])) := Same.new hT
      refine ⟨T1, _, rfl, SqT.of upd_same, rfl, _, _, rfl, _, _, rfl, rfl, rfl, yes ⟨_, rfl, _, rfl, _, _, rfl, rfl, _, rfl, _, s3 _ _ hd, ?_, Same.newer (s2.trans s3) hD, ?_⟩⟩
      · rw [List.length_map]
        unfold diffM
        rw [List.length_map, List.length_range]
        exact line_lt (by omega)
      · rw [upd_same, diffM_succ, List.map_append]
        rfl
    rintro H2 ⟨s2, hd⟩
    rw [lw] at hd
    exact ⟨D, _, rfl, SqL.of hd, q H2 s2⟩
end
end WC

set_option maxHeartbeats 8000000
namespace WC
open PySem PySem.Spec PyProof.Rows L2
def flU : List V → List (Str × V)
  | [v] => [("objection", v)]
  | _ => []
/-- the distance, or the first objection -/
def resDist (CU : Addr) : Hp → Nat → List Tri → Bool → List Int → List Int → VK → XK → Prop := fun H n cs ring st tg Q E =>
  (∀ U, AllOb cs st tg n ring U → U = [] → ∀ H2, Same H H2 → Q (.int (distM st tg n)) H2) ∧
  (∀ (U os : List Obj_) (o : Obj_), AllOb cs st tg n ring U → os.Perm U → os.Pairwise (fun a b => lexSI b a = false) → os[0]? = some o → ∀ H2 r d, Same H H2 → ObA H2 o r → H2 d = some (.xd [("objection", r)]) → E (.ref CU) (some d) H2)
section
variable {P : Program} {w : World} {K : PySem.W.Frag} {mg : Str → Option Value} {base : Heap}
theorem ok_Unreachable_init {f C : Addr} {fd : FuncData} (F : Fun K "__init__" "Unreachable.__init__" s_Unreachable_init f fd) (T : OexC K C) (hno : PySem.W.findIn K (.ref C) "objection" = some none) : FnOk P w K mg base (L2.CX P w) 1 f fd ["self", "objection"] (spX C 1 flU) := by
  refine F.okX sc_Unreachable_init (fun vs H Q E h => ?_) (fun cdv A outer s H vs Q E hr h => ?_)
  · obtain ⟨a, ws, rfl, hl, _⟩ := h
    simp [hl]
  · obtain ⟨a, ws, rfl, hl, ha, k⟩ := h
    match ws, hl with
    | [v], _ =>
      refine ⟨_, pss_one (ps_ost (pv 0) (pv 1)), ?_⟩
      exact ⟨_, rfl, _, rfl, a, C, rfl, T, hno, .inl ⟨ha, fun d hd hne => k d hd hne⟩⟩
theorem ok_distance {f CX CU CP CR : Addr} {fd : FuncData} (F : Fun K "distance" "distance" s_distance f fd) (g_objections : DefR P w K mg base "objections" 7 (spO2 K CP CR CX resObs)) (g_moves_between : DefR P w K mg base "moves_between" 1 spMvB) (t_Unreachable : ExcR P w K mg base "Unreachable" CU 1 1 flU) :
    FnOk P w K mg base (L2.CX P w) 8 f fd ["net", "start", "target"] (spO2 K CP CR CX (resDist CU)) := by
  refine F.okX sc_distance (fun vs H Q E h => ?_) (fun cdv A outer s H vs Q E hr h => ?_)
  · obtain ⟨C, x, v1, v2, ring, n, cs, _, rfl, _⟩ := h
    rfl
  · obtain ⟨C, x, v1, v2, ring, n, cs, hK, rfl, NA, G, c1, c2, k1, k2, k3⟩ := h
    have n40 := G.n40
    -- slots: 0 net, 1 start, 2 target, 3 found
    refine ⟨_, (pss_cons (ps_set (i := 3) sc_distance.nd rfl (Or.inl rfl) (pe_cd g_objections hr psE (pa_cons (pv 0) (pa_cons (pv 1) (pa_cons (pv 2) pa_nil)))))
      (pss_cons (ps_if (pt_truth (pv 3) (by intro _; rfl)) (pss_one (ps_raise rfl (takes_of rfl rfl rfl rfl) (pmk_x t_Unreachable hr (pa_cons (pe_ix ix_tup (pv 3) pe_int (fun _ _ => rfl)) pa_nil)))) pss_nil)
      (pss_one (ps_ret (pe_cd g_moves_between hr psE (pa_cons (pv 1) (pa_cons (pv 2) pa_nil))))))), ?_⟩
    refine ⟨_, rfl, _, rfl, _, rfl, C, x, v1, v2, ring, n, cs, hK, rfl, NA, G, c1, c2, fun st tg ha hk hb hl T ks os U H2 s2 nT hT po hU pm so => ?_, k2, k3⟩
    obtain ⟨r1, r2⟩ := k1 st tg ha hk hb hl
    refine ⟨_, rfl, _, .inr (.inl ⟨_, SqT.of hT, rfl⟩), ?_⟩
    cases po with
    | nil =>
      obtain ⟨t1, rfl, h1⟩ := ha.same s2
      obtain ⟨t2, rfl, h2⟩ := hb.same s2
      exact iteF ⟨_, rfl, _, rfl, t1, t2, n, st, tg, rfl, h1, hk.1, n40, h2, hl.1, fun H3 s3 => r1 U hU (List.nil_perm.mp pm) H3 (s2.trans s3)⟩
    | @cons o v os ks p q =>
      refine iteT ⟨_, rfl, T, _, _, _, rfl, rfl, SqT.of hT, atI_nat (j := 0) rfl, x_use rfl (by decide) fun d hd => ?_⟩
      obtain ⟨tv, ev, hv⟩ := p
      exact r2 U _ o hU pm so rfl _ v d (s2.trans (Same.new hd)) ⟨tv, ev, Same.new hd _ _ hv⟩ upd_same
end
end WC

set_option maxHeartbeats 8000000
namespace WC
open PySem PySem.Spec PyProof.Rows L2
def isStrM : V → Bool
  | .str _ => true
  | _ => false
theorem kit_strM {K : PySem.W.Frag} {H : Hp} {x : V} (k : Known K H x) : PySem.W.kitOne K (.type (tyN H x)) (.type "str") = some (isStrM x) := by
  cases x with
  | int i => exact kb "int" "str" false (by decide +kernel) rfl
  | bl b => exact kb "bool" "str" false (by decide +kernel) rfl
  | non  => exact kb "NoneType" "str" false (by decide +kernel) rfl
  | str z => exact kb "str" "str" true (by decide +kernel) rfl
  | ref a =>
    rcases k with ⟨xs, e⟩ | ⟨xs, e⟩
    · have q1 : tyN H (.ref a) = "tuple" := by simp only [tyN, e]
      exact kb "tuple" "str" false (by decide +kernel) q1
    · have q1 : tyN H (.ref a) = "list" := by simp only [tyN, e]
      exact kb "list" "str" false (by decide +kernel) q1
  | byt b => exact k.elim
  | flt b => exact k.elim
  | ty n => exact k.elim
/-- a value in a tuple, both of data -/
def rInT (K : PySem.W.Frag) : R2 := fun x y H Q => ∃ d ds, Dp K H x d ∧ Dp K H y (.tuple ds) ∧ SeqAt.shaped d = true ∧ PyData.canLayAll0 ds = true ∧ Q (.bl (ds.any fun z => PyData.eqv z d)) H
theorem op_inT {X : Cx} {K : PySem.W.Frag} (hu : X.A.units + 65 < cLine) (hK : X.K = K := by rfl) : OpR X (compareOp .In) (rInT K) := by
  subst hK
  rintro pins s σ H x y v u Q I rx ry ⟨d, ds, hd, he, sd, hz, q⟩
  obtain ⟨_, rd⟩ := Dp.reads I d x v hd rx
  obtain ⟨_, rs⟩ := Dp.reads I (.tuple ds) y u he ry
  exact SeqAt.in_tuple_reads rs rd hz (SeqAt.canLay_of_shaped sd) (room_in_shaped sd hu) ⟨.bl _, H, I, rfl, q⟩
def obD (p : Obj_) : PyData := .tuple [.str p.1, .int p.2]
theorem ob_dp {K : PySem.W.Frag} {H : Hp} : ∀ {os : List Obj_} {ks : List V}, Paired (ObA H) os ks → DpAll K H ks (os.map obD)
  | _, _, .nil => .nil
  | _, _, .cons ⟨t, e, ht⟩ q => by
    subst e
    exact .cons (.tup (SqT.of ht) (.cons (.str _) (.cons (.int _) .nil))) (ob_dp q)
theorem ob_lay : ∀ os : List Obj_, (∀ p ∈ os, PyData.strOk p.1 = true) → PyData.canLayAll0 (os.map obD) = true
  | [], _ => by simp only [List.map_nil, PyData.canLayAll0]
  | p :: os, h => by
    have h1 := h p List.mem_cons_self
    simp only [List.map_cons, obD, PyData.canLayAll0, PyData.canLay0, Bool.and_true, Bool.true_and, h1]
    exact ob_lay os fun q hq => h q (List.mem_cons_of_mem _ hq)
theorem ob_shaped (p : Obj_) (h : PyData.strOk p.1 = true) : SeqAt.shaped (obD p) = true := by
  unfold SeqAt.shaped obD
  rw [Bool.and_eq_true, decide_eq_true_iff]
  refine ⟨by simp only [PyData.canLay0, PyData.canLayAll0, Bool.and_true, h], ?_⟩
  simp only [PyData.depth, PyData.depthAll]
  omega
theorem mem_if {c : Prop} [Decidable c] {a p : Obj_} (h : p ∈ (if c then [a] else [])) : p = a := by
  split at h
  · exact List.mem_singleton.mp h
  · cases h
theorem words_ok {cs : List Tri} {st tg : List Int} {n : Nat} {ring : Bool} {U : List Obj_} (h : AllOb cs st tg n ring U) : ∀ p ∈ U, PyData.strOk p.1 = true := by
  have h1 : ∀ p ∈ stageObs cs st tg n, PyData.strOk p.1 = true := fun p hp => by
    unfold stageObs at hp
    obtain ⟨k, _, hk⟩ := List.mem_flatMap.mp hp
    unfold stageOb at hk
    rcases List.mem_append.mp hk with z | z
    · rw [mem_if z]; show PyData.strOk "source" = true; decide +kernel
    · rw [mem_if z]; show PyData.strOk "sink" = true; decide +kernel
  have h2 : ∀ p ∈ (nums cs.length).flatMap (chanOb cs st tg), PyData.strOk p.1 = true := fun p hp => by
    obtain ⟨k, _, hk⟩ := List.mem_flatMap.mp hp
    unfold chanOb at hk
    dsimp only at hk
    split at hk
    · rcases List.mem_append.mp hk with z | z
      · rw [mem_if z]; show PyData.strOk "jammed" = true; decide +kernel
      · rw [mem_if z]; show PyData.strOk "orphan" = true; decide +kernel
    · cases hk
  have h3 : ∀ {w : PySem.Str} {f : Int → Bool}, PyData.strOk w = true → ∀ p ∈ obsP w f tg n, PyData.strOk p.1 = true := fun hw p hp => by
    unfold obsP at hp
    obtain ⟨k, _, rfl⟩ := List.mem_map.mp hp
    exact hw
  rcases h with ⟨_, rfl⟩ | ⟨_, lo, hi, _, _, rfl⟩
  · exact fun p hp => (List.mem_append.mp hp).elim (h1 p) (h2 p)
  · intro p hp
    rcases List.mem_append.mp hp with hp | hp
    · exact (List.mem_append.mp hp).elim (h1 p) (h2 p)
    · exact (List.mem_append.mp hp).elim (h3 (by decide +kernel) p) (h3 (by decide +kernel) p)
theorem ob_any (p : Obj_) (os : List Obj_) : ((os.map obD).any fun z => PyData.eqv z (obD p)) = decide (p ∈ os) := by
  rw [Bool.eq_iff_iff, List.any_eq_true, decide_eq_true_eq]
  have one : ∀ q : Obj_, PyData.eqv (obD q) (obD p) = true ↔ q = p := fun q => by
    obtain ⟨a, b⟩ := q
    obtain ⟨c, d⟩ := p
    unfold obD
    simp only [PyData.eqv, PyData.eqvAll, Bool.and_true, Bool.and_eq_true, Prod.mk.injEq]
    constructor
    · rintro ⟨h1, h2⟩
      exact ⟨by simpa using h1, by simpa using h2⟩
    · rintro ⟨h1, h2⟩
      exact ⟨by simpa using h1, by simpa using h2⟩
  refine ⟨fun ⟨y, hy, e⟩ => ?_, fun h => ⟨obD p, List.mem_map.mpr ⟨p, h, rfl⟩, (one p).mpr rfl⟩⟩
  obtain ⟨q, hq, rfl⟩ := List.mem_map.mp hy
  rw [← (one q).mp e]
  exact hq
/-- which objection a value writes, if it writes one -/
def ObVal (H : Hp) (o : Option Obj_) (v : V) : Prop := match o with
  | some p => ObA H p v
  | none => ∀ t (w : PySem.Str) (k : Int), v = .ref t → H t ≠ some (.tup [.str w, .int k])
def isOb (o : Option Obj_) (U : List Obj_) : Bool := match o with
  | some p => btw (.int p.2) 0 120 && decide (p ∈ U)
  | none => false
def spIsO (K : PySem.W.Frag) (CP CR CX : Addr) : Sp := fun vs H Q E => ∃ (C x : Addr) (v1 v2 ov : V) (o : Option Obj_) (ring : Bool) (n : Nat) (cs : List Tri), KC CP CR C ring ∧ vs = [.ref x, v1, v2, ov] ∧ NetAt H x C n cs ∧ NOk n cs ∧ Cand K H v1 ∧ Cand K H v2 ∧ Cand K H ov ∧ ObVal H o ov ∧ (∀ p, o = some p → PyData.strOk p.1 = true) ∧
  (∀ st tg, StAt H v1 st → StOk n st → StAt H v2 tg → StOk n tg → ∀ U H2, Same H H2 → AllOb cs st tg n ring U → Q (.bl (isOb o U)) H2) ∧ (∀ p, StBad K H n v1 p → ErrX E CX H [("position", p)]) ∧ (∀ st p, StAt H v1 st → StOk n st → StBad K H n v2 p → ErrX E CX H [("position", p)])
section
variable {P : Program} {w : World} {K : PySem.W.Frag} {mg : Str → Option Value} {base : Heap}
theorem ok_is_objection {f N CX CP CR : Addr} {fd : FuncData} (F : Fun K "is_objection" "is_objection" s_is_objection f fd) (B : Blt mg) (Z : NetK K mg N) (g_objections : DefR P w K mg base "objections" 7 (spO2 K CP CR CX resObs)) (g_is_between : DefR P w K mg base "is_between" 1 (spBtw K)) :
    FnOk P w K mg base (L2.CX P w) 8 f fd ["net", "start", "target", "objection"] (spIsO K CP CR CX) := by
  refine F.okX sc_is_objection (fun vs H Q E h => ?_) (fun cdv A outer s H vs Q E hr h => ?_)
  · obtain ⟨C, x, v1, v2, ov, o, ring, n, cs, _, rfl, _⟩ := h
    rfl
  · obtain ⟨C, x, v1, v2, ov, o, ring, n, cs, hK, rfl, NA, G, c1, c2, c3, hov, hso, k1, k2, k3⟩ := h
    obtain ⟨mc, cr, _, ⟨u2, c2v⟩, _, _⟩ := Z.cr
    -- slots: 0 net, 1 start, 2 target, 3 objection, 4 found, 5 reason, 6 number
    refine ⟨_, (pss_cons (ps_set (i := 4) sc_is_objection.nd rfl (Or.inl rfl) (pe_cd g_objections hr psE (pa_cons (pv 0) (pa_cons (pv 1) (pa_cons (pv 2) pa_nil)))))
      (pss_cons (ps_if (PW.pt (pw_or (pt_not (pt_val (pe_callB call_isi (by rfl) B.isi bt_isi (pa_cons (pv 3) (pa_cons (pe_bltn (v := .ty "tuple") (by rfl) B.tuple bt_tuple rfl) pa_nil))))) (pw_or1 (pt_cmpR op_ne (pe_callB call_len_seq (by rfl) B.len bt_len (pa_cons (pv 3) pa_nil)) pe_int (nomark _))))) (pss_one (ps_ret pe_bl)) pss_nil)
      (pss_cons (ps_asg (pv 3) (pg_tup rfl (pgs_cons (pg_name (i := 5) sc_is_objection.nd rfl (Or.inl rfl)) (pgs_cons (pg_name (i := 6) sc_is_objection.nd rfl (Or.inl rfl)) pgs_nil))))
      (pss_one (ps_ret (pe_and (pe_callB call_isi (by rfl) B.isi bt_isi (pa_cons (pv 5) (pa_cons (pe_bltn (v := .ty "str") (by rfl) B.str bt_str rfl) pa_nil))) (pe_and (pe_cd g_is_between hr psE (pa_cons (pv 6) (pa_cons pe_int (pa_cons (ClX.pe_cval (pe_glob (v := .ref N) (by rfl) Z.gN rfl)) pa_nil)))) (pe_one (pe_cmpR (op_inT (K := K) (un65 hr)) (pv 3) (pv 4) (by rfl)))))))))), ?_⟩
    refine ⟨_, rfl, _, rfl, _, rfl, C, x, v1, v2, ring, n, cs, hK, rfl, NA, G, c1, c2, fun st tg ha hk hb hl T ks os U H2 s2 nT hT po hU pm so => ?_, k2, k3⟩
    have fin := k1 st tg ha hk hb hl U H2 s2 hU
    have c32 := c3.same s2
    have hv := c32.1
    have no : (∀ (p : Obj_), ¬ ObA H2 p ov) → Q (.bl false) H2 := fun z => by
      cases o with
      | none => exact fin
      | some p => obtain ⟨t, e, ht⟩ := hov; exact absurd ⟨t, e, s2 _ _ ht⟩ (z p)
    have yes_ : ∀ p : Obj_, ObA H2 p ov → PyData.strOk p.1 = true ∧ Q (.bl (btw (.int p.2) 0 120 && decide (p ∈ U))) H2 := fun p hp => by
      obtain ⟨t, e, ht⟩ := hp
      cases o with
      | some p2 =>
        obtain ⟨t2, e2, h2⟩ := hov
        have h3 := s2 _ _ h2
        rw [e] at e2
        cases e2
        rw [ht] at h3
        injection h3 with h3
        injection h3 with h3
        simp only [List.cons.injEq, V.str.injEq, V.int.injEq, and_true] at h3
        have : p = p2 := Prod.ext h3.1 h3.2
        subst this
        exact ⟨hso _ rfl, fin⟩
      | none =>
        subst e
        rcases c3.1 with ⟨xs, e⟩ | ⟨xs, e⟩
        · have e2 := s2 _ _ e
          rw [ht] at e2
          cases e2
          exact absurd e (hov t p.1 p.2 rfl)
        · have e2 := s2 _ _ e
          rw [ht] at e2
          cases e2
    refine ⟨_, rfl, _, _, _, _, _, rfl, .ty _, hv.ty, kit_tup hv, _, rfl, ?_⟩
    rcases istup_cases hv with ⟨e, t, xs, rfl, ht⟩ | ⟨e, nt⟩
    rotate_left
    · rw [e]
      exact iteT (no fun p ⟨t, e2, h2⟩ => nt t _ e2 h2)
    rw [e]
    refine iteF ⟨_, rfl, t, xs, rfl, .inr (SqT.of ht), rfl, _, rfl, ?_⟩
    by_cases hl2 : xs.length = 2
    rotate_left
    · rw [show (!decide (V.int (xs.length : Nat) = V.int 2)) = true by simp; omega]
      refine iteT (no fun p ⟨t2, e2, h2⟩ => ?_)
      cases e2
      rw [ht] at h2
      cases h2
      exact hl2 rfl
    rw [show (!decide (V.int (xs.length : Nat) = V.int 2)) = false by simp [hl2]]
    refine iteF ?_
    match xs, hl2 with
    | [a, b], _ =>
      obtain ⟨_, kk⟩ := c32.2 t _ rfl ht
      have ka := kk a (by simp)
      have kb_ := kk b (by simp)
      have no2 : (∀ (w : PySem.Str) (k : Int), a = .str w → b = .int k → False) → Q (.bl false) H2 := fun z => no fun p ⟨t2, e2, h2⟩ => by
        cases e2
        rw [ht] at h2
        injection h2 with h2
        injection h2 with h2
        simp only [List.cons.injEq, and_true] at h2
        exact z _ _ h2.1 h2.2
      refine ⟨_, rfl, t, _, rfl, SqT.of ht, rfl, _, _, rfl, _, _, rfl, rfl, ?_⟩
      refine ⟨_, rfl, _, _, _, _, _, rfl, .ty _, ka.ty, kit_strM ka, _, rfl, ?_⟩
      cases es : isStrM a with
      | false => exact iteF (no2 fun w k ea _ => by rw [ea] at es; cases es)
      | true =>
        obtain ⟨z, rfl⟩ : ∃ z, a = .str z := by
          cases a <;> first | exact ⟨_, rfl⟩ | cases es
        refine iteT ⟨_, rfl, N, mc, _, u2, rfl, cr, c2v, b, 0, 120, rfl, kb_, _, rfl, ?_⟩
        cases eb : btw b 0 120 with
        | false => exact iteF (by
            cases b with
            | int i =>
              obtain ⟨_, y⟩ := yes_ (z, i) ⟨t, rfl, ht⟩
              have eb : btw (.int i) 0 120 = false := eb
              rw [eb, Bool.false_and] at y
              exact y
            | _ => exact no2 fun w k _ e2 => by cases e2)
        | true =>
          obtain ⟨i, rfl⟩ : ∃ i, b = .int i := by
            cases b with
            | int i => exact ⟨i, rfl⟩
            | _ => cases eb
          obtain ⟨hw, y⟩ := yes_ (z, i) ⟨t, rfl, ht⟩
          have eb : btw (.int i) 0 120 = true := eb
          rw [eb, Bool.true_and] at y
          refine iteT ⟨_, rfl, _, rfl, obD (z, i), os.map obD, .tup (SqT.of ht) (.cons (.str _) (.cons (.int _) .nil)), .tup (SqT.of hT) (ob_dp po), ob_shaped (z, i) hw, ob_lay os (fun p hp => words_ok hU p (pm.mem_iff.mp hp)), ?_⟩
          rw [ob_any, show decide ((z, i) ∈ os) = decide ((z, i) ∈ U) from decide_eq_decide.mpr pm.mem_iff]
          exact y
end
end WC

set_option maxHeartbeats 8000000
namespace WC
open PySem PySem.Spec PyProof.Rows L2
def kw (adv : Bool) : Str := if adv then "advance" else "rollback"
def MvAt (H : Hp) (v : V) (s : Int) (adv : Bool) : Prop := ∃ t, v = .ref t ∧ H t = some (.tup [.int s, .str (kw adv)])
def MvG (H : Hp) (n : Nat) (v : V) : Prop := ∃ s adv, MvAt H v s adv ∧ 0 ≤ s ∧ s < n
abbrev KINDS_ : List V := [.str "advance", .str "rollback"]
theorem MvAt.same {H H2 : Hp} {v : V} {s : Int} {adv : Bool} (h : MvAt H v s adv) (z : Same H H2) : MvAt H2 v s adv := let ⟨t, e, q⟩ := h; ⟨t, e, z _ _ q⟩
theorem kw_inj {a b : Bool} (h : kw a = kw b) : a = b := by
  cases a <;> cases b <;> first | rfl | (exact absurd h (by decide))
theorem mv_one {H : Hp} {v : V} {s s2 : Int} {a a2 : Bool} (h : MvAt H v s a) (g : MvAt H v s2 a2) : s = s2 ∧ a = a2 := by
  obtain ⟨t, e, q⟩ := h
  obtain ⟨u, e2, q2⟩ := g
  rw [e] at e2
  cases e2
  rw [q] at q2
  simp only [Option.some.injEq, HO.tup.injEq, List.cons.injEq, V.int.injEq, V.str.injEq, and_true] at q2
  exact ⟨q2.1, kw_inj q2.2⟩
theorem mv_cand {K : PySem.W.Frag} {H : Hp} {v : V} {s : Int} {adv : Bool} (h : MvAt H v s adv) : Cand K H v := by
  obtain ⟨t, rfl, q⟩ := h
  refine ⟨.inl ⟨_, q⟩, fun u xs e q2 => ?_⟩
  cases e
  rw [q] at q2
  cases q2
  refine ⟨by show 2 ≤ 1000; decide, fun y hy => ?_⟩
  simp only [List.mem_cons, List.not_mem_nil, or_false] at hy
  rcases hy with e | e <;> subst e <;> trivial
def spIsMv (K : PySem.W.Frag) (CS : List Addr) : Sp := fun vs H Q _ => ∃ (C x : Addr) (v : V) (n : Nat) (cs : List Tri), C ∈ CS ∧ vs = [.ref x, v] ∧ NetAt H x C n cs ∧ NOk n cs ∧ Cand K H v ∧ (MvG H n v → Q (.bl true) H) ∧ (¬ MvG H n v → Q (.bl false) H)
def spMv (K : PySem.W.Frag) (CS : List Addr) (CM : Addr) (res : Hp → Nat → V → Int → Bool → VK → Prop) : Sp := fun vs H Q E => ∃ (C x : Addr) (v : V) (n : Nat) (cs : List Tri), C ∈ CS ∧ vs = [.ref x, v] ∧ NetAt H x C n cs ∧ NOk n cs ∧ Cand K H v ∧ (∀ s adv, MvAt H v s adv → 0 ≤ s → s < n → res H n v s adv Q) ∧ (¬ MvG H n v → ErrN E CM H)
def resMv : Hp → Nat → V → Int → Bool → VK → Prop := fun H _ v _ _ Q => Q v H
def resMvT (f : Nat → Int → Bool → Int × Bool) : Hp → Nat → V → Int → Bool → VK → Prop := fun H n _ s adv Q => ∀ H2 r, Same H H2 → H r = none → MvAt H2 (.ref r) (f n s adv).1 (f n s adv).2 → Q (.ref r) H2
def spOK : Sp := fun vs H Q _ => ∃ adv, vs = [.str (kw adv)] ∧ Q (.str (kw (!adv))) H
section
variable {P : Program} {w : World} {K : PySem.W.Frag} {mg : Str → Option Value} {base : Heap}
theorem ok_is_move {f : Addr} {CS : List Addr} {fd : FuncData} (F : Fun K "is_move" "is_move" s_is_move f fd) (B : Blt mg) (TK : TupG K mg "KINDS" KINDS_) (T : ∀ C ∈ CS, NetCls K C) (g_is_between : DefR P w K mg base "is_between" 1 (spBtw K)) :
    FnOk P w K mg base (L2.CX P w) 2 f fd ["net", "value"] (spIsMv K CS) := by
  refine F.okX sc_is_move (fun vs H Q E h => ?_) (fun cdv A outer s H vs Q E hr h => ?_)
  · obtain ⟨C, x, v, n, cs, _, rfl, _⟩ := h
    rfl
  · obtain ⟨C, x, v, n, cs, hC, rfl, NA, G, hc, k1, k2⟩ := h
    obtain ⟨kA, gK, sK⟩ := TK.ex
    obtain ⟨dx, tc, ti, to, ws, hx, _⟩ := NA.ex
    have TC := T C hC
    have hk := hc.1
    -- slots: 0 net, 1 value, 2 stage, 3 kind
    refine ⟨_, (pss_cons (ps_if (PW.pt (pw_or (pt_not (pt_val (pe_callB call_isi (by rfl) B.isi bt_isi (pa_cons (pv 1) (pa_cons (pe_bltn (v := .ty "tuple") (by rfl) B.tuple bt_tuple rfl) pa_nil))))) (pw_or1 (pt_cmpR op_ne (pe_callB call_len_seq (by rfl) B.len bt_len (pa_cons (pv 1) pa_nil)) pe_int (nomark _))))) (pss_one (ps_ret pe_bl)) pss_nil)
      (pss_cons (ps_asg (pv 1) (pg_tup rfl (pgs_cons (pg_name (i := 2) sc_is_move.nd rfl (Or.inl rfl)) (pgs_cons (pg_name (i := 3) sc_is_move.nd rfl (Or.inl rfl)) pgs_nil))))
      (pss_one (ps_ret (pe_and (pe_cd g_is_between hr psE (pa_cons (pv 2) (pa_cons pe_int (pa_cons (pe_op op_sub (pe_fld (pv 0) rfl) pe_int) pa_nil)))) (pe_and (pe_callB call_isi (by rfl) B.isi bt_isi (pa_cons (pv 3) (pa_cons (pe_bltn (v := .ty "str") (by rfl) B.str bt_str rfl) pa_nil))) (pe_one (pe_cmpR op_in_seq (pv 3) (pe_glob (v := .ref kA) (by rfl) gK rfl) (by rfl))))))))), ?_⟩
    refine ⟨_, rfl, _, _, _, _, _, rfl, .ty _, hk.ty, kit_tup hk, _, rfl, ?_⟩
    rcases istup_cases hk with ⟨e, t, xs, rfl, ht⟩ | ⟨e, no⟩
    · rw [e]
      refine iteF ⟨_, rfl, t, xs, rfl, .inr (SqT.of ht), rfl, _, rfl, ?_⟩
      by_cases hl : xs.length = 2
      · rw [show (!decide (V.int (xs.length : Nat) = V.int 2)) = false by simp [hl]]
        refine iteF ?_
        match xs, hl with
        | [a, b], _ =>
          obtain ⟨_, kk⟩ := hc.2 t _ rfl ht
          have ka := kk a (by simp)
          have kb_ := kk b (by simp)
          refine ⟨_, rfl, t, _, rfl, SqT.of ht, rfl, _, _, rfl, _, _, rfl, rfl, ?_⟩
          refine ⟨_, rfl, _, rfl, x, C, dx, _, _, rfl, hx, TC.cl, TC.nS, lk_st, _, _, rfl, rfl, a, 0, (n : Int) - 1, rfl, ka, _, rfl, ?_⟩
          have bad : ∀ {A : Prop}, MvG H n (.ref t) → (∀ s adv, a = .int s → b = .str (kw adv) → 0 ≤ s → s < n → A) → A := fun {A} ⟨s, adv, ⟨u, eu, q⟩, s0, s1⟩ k => by
            cases eu
            rw [ht] at q
            simp only [Option.some.injEq, HO.tup.injEq, List.cons.injEq, and_true] at q
            exact k s adv q.1 q.2 s0 s1
          cases eb : btw a 0 ((n : Int) - 1) with
          | false =>
            refine iteF (k2 fun g => bad g fun s adv ea _ s0 s1 => ?_)
            rw [ea, btw_in s0 (by omega)] at eb
            cases eb
          | true =>
            refine iteT ⟨_, rfl, _, _, _, _, _, rfl, .ty _, kb_.ty, kit_strM kb_, _, rfl, ?_⟩
            cases es : isStrM b with
            | false =>
              refine iteF (k2 fun g => bad g fun s adv _ e2 _ _ => ?_)
              rw [e2] at es
              cases es
            | true =>
              obtain ⟨z, rfl⟩ : ∃ z, b = .str z := by
                cases b <;> first | exact ⟨_, rfl⟩ | cases es
              refine iteT ⟨_, rfl, kA, _, rfl, .inr (sK H), rfl, rfl, ?_⟩
              obtain ⟨s, rfl, s0, s1⟩ : ∃ s : Int, a = .int s ∧ 0 ≤ s ∧ s < n := by
                cases a with
                | int i =>
                  have eb : (decide (0 ≤ i) && decide (i ≤ (n : Int) - 1)) = true := eb
                  rw [Bool.and_eq_true] at eb
                  exact ⟨i, rfl, of_decide_eq_true eb.1, by have := of_decide_eq_true eb.2; omega⟩
                | _ => cases eb
              by_cases z1 : z = "advance"
              · subst z1
                exact k1 ⟨s, true, ⟨t, rfl, ht⟩, s0, s1⟩
              · by_cases z2 : z = "rollback"
                · subst z2
                  exact k1 ⟨s, false, ⟨t, rfl, ht⟩, s0, s1⟩
                · have e : inV (.str z) KINDS_ = false := by
                    show ((("advance" : Str) == z) || ((("rollback" : Str) == z) || false)) = false
                    rw [beq_eq_false_iff_ne.mpr (Ne.symm z1), beq_eq_false_iff_ne.mpr (Ne.symm z2)]
                    rfl
                  show Q (.bl (inV (.str z) KINDS_)) H
                  rw [e]
                  refine k2 fun g => bad g fun s adv _ e2 _ _ => ?_
                  have e3 := V.str.inj e2
                  cases adv with
                  | true => exact z1 e3
                  | false => exact z2 e3
      · rw [show (!decide (V.int (xs.length : Nat) = V.int 2)) = true by simp; omega]
        refine iteT (k2 fun ⟨s, adv, ⟨u, eu, q⟩, _⟩ => ?_)
        cases eu
        rw [ht] at q
        cases q
        exact hl rfl
    · rw [e]
      refine iteT (k2 fun ⟨s, adv, ⟨u, eu, q⟩, _⟩ => no u _ eu q)
theorem ok_other_kind {f : Addr} {fd : FuncData} (F : Fun K "other_kind" "other_kind" s_other_kind f fd) : FnOk P w K mg base (L2.CX P w) 1 f fd ["kind"] spOK := by
  refine F.okX sc_other_kind (fun vs H Q E h => ?_) (fun cdv A outer s H vs Q E hr h => ?_)
  · obtain ⟨adv, rfl, _⟩ := h
    rfl
  · obtain ⟨adv, rfl, q⟩ := h
    refine ⟨_, (pss_one (ps_ret (pe_ifExp (pt_cmpR op_eq (pv 0) pe_str (nomark _)) pe_str pe_str))), ?_⟩
    cases adv with
    | true => exact ⟨_, rfl, rfl, _, rfl, iteT q⟩
    | false => exact ⟨_, rfl, rfl, _, rfl, iteF q⟩
end
end WC

set_option maxHeartbeats 8000000
namespace WC
open PySem PySem.Spec PyProof.Rows L2
def ld (ns : List Int) (c : Tri) : Int := gi ns c.1 - gi ns c.2.1
def sel (adv : Bool) (c : Tri) : Int := if adv then c.2.1 else c.1
def sideI (cs : List Tri) (adv : Bool) (s : Int) : List Int := occ (cs.map (sel adv)) s cs.length
def rdy (ns : List Int) (c : Tri) : Bool := decide (1 ≤ ld ns c) && decide (ld ns c ≤ c.2.2)
def rdyK (cs : List Tri) (ns : List Int) (k : Int) : Bool := rdy ns (cs.getD k.toNat (0, 0, 0))
def alw (cs : List Tri) (ns : List Int) (s : Int) (adv : Bool) : Bool := decide (0 < (sideI cs adv s).length) && ((sideI cs adv s).map (rdyK cs ns)).all id
def unr (cs : List Tri) (ns : List Int) (s : Int) (adv : Bool) : List Int := (sideI cs adv s).filter fun k => !rdyK cs ns k
def behM (ns : List Int) (s : Int) (adv : Bool) : List Int := ns.set s.toNat (gi ns s + if adv then 1 else -1)
theorem side_mem {cs : List Tri} {adv : Bool} {s k : Int} (h : k ∈ sideI cs adv s) : ∃ (j : Nat) (c : Tri), k = (j : Int) ∧ cs[j]? = some c := by
  unfold sideI occ at h
  obtain ⟨j, hj, rfl⟩ := List.mem_map.mp h
  have hj2 := List.mem_range.mp (List.mem_filter.mp hj).1
  exact ⟨j, cs[j], rfl, by simp [hj2]⟩
theorem rdyK_at {cs : List Tri} {ns : List Int} {j : Nat} {c : Tri} (h : cs[j]? = some c) : rdyK cs ns (j : Int) = rdy ns c := by
  unfold rdyK
  rw [Int.toNat_natCast, List.getD_eq_getElem?_getD, h]
  rfl
theorem side_len (cs : List Tri) (adv : Bool) (s : Int) : (sideI cs adv s).length ≤ cs.length := occ_len _ _ _
def spSide (CS : List Addr) : Sp := fun vs H Q _ => ∃ (C x : Addr) (v : V) (n : Nat) (cs : List Tri) (s : Int) (adv : Bool), C ∈ CS ∧ vs = [.ref x, v] ∧ NetAt H x C n cs ∧ NOk n cs ∧ MvAt H v s adv ∧ 0 ≤ s ∧ s < n ∧ ∀ t, H t = some (.tup ((sideI cs adv s).map V.int)) → Q (.ref t) H
def spRdy (CS : List Addr) : Sp := fun vs H Q _ => ∃ (C x t : Addr) (n : Nat) (cs : List Tri) (ns : List Int) (j : Nat) (c : Tri), C ∈ CS ∧ vs = [.ref x, .ref t, .int (j : Nat)] ∧ NetAt H x C n cs ∧ NOk n cs ∧ H t = some (.tup (ns.map V.int)) ∧ ns.length = n ∧ cs[j]? = some c ∧ Q (.bl (rdy ns c)) H
/-- of a net, a state and a move, all three good -/
def spSM (CS : List Addr) (res : Hp → List Tri → List Int → Int → Bool → VK → Prop) : Sp := fun vs H Q _ => ∃ (C x t : Addr) (v : V) (n : Nat) (cs : List Tri) (ns : List Int) (s : Int) (adv : Bool), C ∈ CS ∧ vs = [.ref x, .ref t, v] ∧ NetAt H x C n cs ∧ NOk n cs ∧ H t = some (.tup (ns.map V.int)) ∧ ns.length = n ∧ MvAt H v s adv ∧ 0 ≤ s ∧ s < n ∧ res H cs ns s adv Q
def rAlw : Hp → List Tri → List Int → Int → Bool → VK → Prop := fun H cs ns s adv Q => ∀ H2, Same H H2 → Q (.bl (alw cs ns s adv)) H2
def rUnr : Hp → List Tri → List Int → Int → Bool → VK → Prop := fun H cs ns s adv Q => ∀ H2 r, Same H H2 → H r = none → H2 r = some (.tup ((unr cs ns s adv).map V.int)) → Q (.ref r) H2
def spBeh : Sp := fun vs H Q _ => ∃ (t : Addr) (v : V) (n : Nat) (ns : List Int) (s : Int) (adv : Bool), vs = [.ref t, v] ∧ H t = some (.tup (ns.map V.int)) ∧ ns.length = n ∧ n ≤ 1000 ∧ MvAt H v s adv ∧ 0 ≤ s ∧ s < n ∧ ∀ H2 r, Same H H2 → H r = none → H2 r = some (.tup ((behM ns s adv).map V.int)) → Q (.ref r) H2
section
variable {P : Program} {w : World} {K : PySem.W.Frag} {mg : Str → Option Value} {base : Heap}
theorem ok_side_of {f CN : Addr} {CS : List Addr} {fd : FuncData} (F : Fun K "side_of" "side_of" s_side_of f fd) (g_incoming : ∀ C ∈ CS, MetR P w K mg base C "incoming" 4 (spAsk K C CN (resRow fun c => c.2.1))) (g_outgoing : ∀ C ∈ CS, MetR P w K mg base C "outgoing" 4 (spAsk K C CN (resRow fun c => c.1))) :
    FnOk P w K mg base (L2.CX P w) 5 f fd ["net", "move"] (spSide CS) := by
  refine F.okX sc_side_of (fun vs H Q E h => ?_) (fun cdv A outer s H vs Q E hr h => ?_)
  · obtain ⟨C, x, v, n, cs, s, adv, _, rfl, _⟩ := h
    rfl
  · obtain ⟨C, x, v, n, cs, s, adv, hC, rfl, NA, G, ⟨t, rfl, ht⟩, s0, s1, q⟩ := h
    have n40 := G.n40
    have hlen := G.len
    obtain ⟨dx, tc, ti, to, ws, hx, _⟩ := NA.ex
    -- slots: 0 net, 1 move, 2 stage, 3 kind
    refine ⟨_, (pss_cons (ps_asg (pv 1) (pg_tup rfl (pgs_cons (pg_name (i := 2) sc_side_of.nd rfl (Or.inl rfl)) (pgs_cons (pg_name (i := 3) sc_side_of.nd rfl (Or.inl rfl)) pgs_nil))))
      (pss_one (ps_ret (pe_ifExp (pt_cmpR op_eq (pv 3) pe_str (nomark _)) (pe_mtr (g_incoming C hC) (pv 0) hr psE (pa_cons (pv 2) pa_nil)) (pe_mtr (g_outgoing C hC) (pv 0) hr psE (pa_cons (pv 2) pa_nil)))))), ?_⟩
    refine ⟨_, rfl, t, _, rfl, SqT.of ht, rfl, _, _, rfl, _, _, rfl, rfl, ?_⟩
    have bb : btw (V.int s) 0 ((n : Int) - 1) = true := btw_in s0 (by omega)
    cases adv with
    | true => exact ⟨_, rfl, rfl, _, rfl, iteT ⟨_, rfl, x, dx, _, rfl, hx, fld4_none (by decide +kernel) (by decide +kernel) (by decide +kernel) (by decide +kernel), _, rfl, x, .int s, n, cs, rfl, NA, trivial, n40, G.ok, by omega, fun i e _ _ t2 h2 => by cases e; exact q t2 h2, fun e => by rw [bb] at e; cases e⟩⟩
    | false => exact ⟨_, rfl, rfl, _, rfl, iteF ⟨_, rfl, x, dx, _, rfl, hx, fld4_none (by decide +kernel) (by decide +kernel) (by decide +kernel) (by decide +kernel), _, rfl, x, .int s, n, cs, rfl, NA, trivial, n40, G.ok, by omega, fun i e _ _ t2 h2 => by cases e; exact q t2 h2, fun e => by rw [bb] at e; cases e⟩⟩
theorem ok_is_ready {f : Addr} {CS : List Addr} {fd : FuncData} (F : Fun K "_is_ready" "_is_ready" s_is_ready f fd) (T : ∀ C ∈ CS, NetCls K C) : FnOk P w K mg base (L2.CX P w) 1 f fd ["net", "state", "channel"] (spRdy CS) := by
  refine F.okX sc_is_ready (fun vs H Q E h => ?_) (fun cdv A outer s H vs Q E hr h => ?_)
  · obtain ⟨C, x, t, n, cs, ns, j, c, _, rfl, _⟩ := h
    rfl
  · obtain ⟨C, x, t, n, cs, ns, j, c, hC, rfl, NA, G, ht, hl, hci, q⟩ := h
    have TC := T C hC
    obtain ⟨dx, tc, ti, to, ws, hx, htc, hp, _⟩ := NA.ex
    obtain ⟨y, hy, tt, rfl, htt⟩ := pr_to hp hci
    obtain ⟨⟨a1, a2⟩, ⟨a3, a4⟩, _⟩ := G.ok c (List.mem_of_getElem? hci)
    -- slots: 0 net, 1 state, 2 channel, 3 producer, 4 consumer, 5 capacity
    refine ⟨_, (pss_cons (ps_asg (pe_ix ix_tup (pe_fld (pv 0) rfl) (pv 2) (fun _ _ => rfl)) (pg_tup rfl (pgs_cons (pg_name (i := 3) sc_is_ready.nd rfl (Or.inl rfl)) (pgs_cons (pg_name (i := 4) sc_is_ready.nd rfl (Or.inl rfl)) (pgs_cons (pg_name (i := 5) sc_is_ready.nd rfl (Or.inl rfl)) pgs_nil)))))
      (pss_one (ps_ret (pe_chain op_le op_le pe_int (pe_op op_sub (pe_ix ix_tup (pv 1) (pv 3) (fun _ _ => rfl)) (pe_ix ix_tup (pv 1) (pv 4) (fun _ _ => rfl))) (pv 5))))), ?_⟩
    refine ⟨_, rfl, x, C, dx, _, _, rfl, hx, TC.cl, TC.nC, lk_ch, _, rfl, tc, ws, _, _, rfl, rfl, SqT.of htc, atI_nat hy, tt, _, rfl, SqT.of htt, rfl, _, _, rfl, _, _, rfl, _, _, rfl, rfl, ?_⟩
    refine ⟨_, rfl, _, rfl, t, _, _, _, rfl, rfl, SqT.of ht, at_st hl a1 a2, _, rfl, _, rfl, t, _, _, _, rfl, rfl, SqT.of ht, at_st hl a3 a4, _, _, rfl, rfl, ?_⟩
    refine ⟨_, _, rfl, rfl, _, rfl, ite2 (fun e => ⟨_, rfl, _, _, rfl, rfl, ?_⟩) (fun e => ?_)⟩
    · have z : rdy ns c = decide (ld ns c ≤ c.2.2) := by
        unfold rdy ld
        rw [e, Bool.true_and]
      rw [z] at q
      exact q
    · have z : rdy ns c = false := by
        unfold rdy ld
        rw [Bool.eq_false_iff.mpr e, Bool.false_and]
      rw [z] at q
      exact q
theorem ok_is_allowed {f : Addr} {CS : List Addr} {fd : FuncData} (F : Fun K "is_allowed" "is_allowed" s_is_allowed f fd) (B : Blt mg) (g_side_of : DefR P w K mg base "side_of" 5 (spSide CS)) (g_is_ready : DefR P w K mg base "_is_ready" 1 (spRdy CS)) :
    FnOk P w K mg base (L2.CX P w) 6 f fd ["net", "state", "move"] (spSM CS rAlw) := by
  refine F.okX sc_is_allowed (fun vs H Q E h => ?_) (fun cdv A outer s H vs Q E hr h => ?_)
  · obtain ⟨C, x, t, v, n, cs, ns, s, adv, _, rfl, _⟩ := h
    rfl
  · obtain ⟨C, x, t, v, n, cs, ns, s, adv, hC, rfl, NA, G, ht, hl, m, s0, s1, q⟩ := h
    have hlen := G.len
    have sl := side_len cs adv s
    -- slots: 0 net*, 1 state*, 2 move, 3 side, 4 channel
    refine ⟨_, (pss_cons (ps_set (i := 3) sc_is_allowed.nd rfl (Or.inl rfl) (pe_cd g_side_of hr psE (pa_cons (pv 0) (pa_cons (pv 2) pa_nil))))
      (pss_one (ps_ret (pe_and (pe_cmpR op_gt (pe_callB call_len_seq (by rfl) B.len bt_len (pa_cons (pv 3) pa_nil)) pe_int (nomark _)) (pe_one (pe_callB (cr_all rfl) (by rfl) B.all bt_all (pa_cons (pe_lc (own := [("channel", 4)]) rfl sc_is_allowed.nd (pi_tup (pv 3)) (blkOk_by (N := nn_is_allowed) (sc := defScope s_is_allowed) (own := [("channel", 4)]) (by decide +kernel)) (fun _ _ _ _ _ => (pg_name (i := 4) sc_is_allowed.nd rfl (Or.inl rfl))) (fun _ _ _ _ _ => pts_nil) (fun _ _ _ _ _ => (pe_cd g_is_ready (by exact hr) passL (pa_cons (pv 0) (pa_cons (pv 1) (pa_cons (pv 4) pa_nil)))))) pa_nil))))))), ?_⟩
    refine ⟨_, rfl, _, rfl, C, x, v, n, cs, s, adv, hC, rfl, NA, G, m, s0, s1, fun r hr2 => ?_⟩
    have fin : ∀ {H2 : Hp} {b : Bool}, Same H H2 → b = alw cs ns s adv → Q (.bl b) H2 := fun {H2 b} s2 e => by rw [e]; exact q H2 s2
    refine ⟨_, rfl, r, _, rfl, .inr (SqT.of hr2), _, _, rfl, rfl, _, rfl, ite2 (fun e => ?_) (fun e => ?_)⟩
    · refine ⟨_, rfl, r, rfl, ⟨_, SqT.of hr2⟩, fun D hD => lc_tup (K := K) (a := r) (xs := (sideI cs adv s).map V.int) (fun i H3 => Same H H3 ∧ H3 D = some (.lst ((((sideI cs adv s).take i).map (rdyK cs ns)).map V.bl))) ⟨Same.new hD, upd_same⟩ (fun i H3 _ z => SqT.of (z.1 _ _ hr2)) ?_ ?_⟩
      · rintro i y H3 hy ⟨s3, hd⟩
        rw [List.getElem?_map] at hy
        obtain ⟨k, hk, rfl⟩ : ∃ k, (sideI cs adv s)[i]? = some k ∧ y = .int k := by
          cases e : (sideI cs adv s)[i]? with
          | none => rw [e] at hy; cases hy
          | some k => rw [e] at hy; exact ⟨k, rfl, (Option.some.inj hy).symm⟩
        obtain ⟨j, c, rfl, hj⟩ := side_mem (List.mem_of_getElem? hk)
        refine ⟨rfl, yes ⟨_, rfl, _, rfl, _, rfl, C, x, t, n, cs, ns, j, c, hC, rfl, NA.same s3, G, s3 _ _ ht, hl, hj, _, hd, ?_, Same.newer s3 hD, ?_⟩⟩
        · rw [List.length_map, List.length_map, List.length_take]
          exact line_lt (by omega)
        · rw [upd_same, take_snoc hk, List.map_append, List.map_append, ← rdyK_at (ns := ns) hj]
          rfl
      · rintro H3 ⟨s3, hd⟩
        rw [List.length_map, List.take_length] at hd
        refine ⟨D, _, rfl, SqL.of hd, fin s3 ?_⟩
        unfold alw
        rw [List.length_map] at e
        rw [show decide (0 < (sideI cs adv s).length) = true from by have := of_decide_eq_true e; exact decide_eq_true (by omega), Bool.true_and]
    · refine fin (Same.refl H) ?_
      unfold alw
      rw [List.length_map] at e
      rw [show decide (0 < (sideI cs adv s).length) = false from decide_eq_false fun z => e (decide_eq_true (by omega)), Bool.false_and]
end
end WC

set_option maxHeartbeats 8000000
namespace WC
open PySem PySem.Spec PyProof.Rows L2
theorem cut_lo {xs : List V} {s : Nat} (h : s < xs.length) : cutV xs none (some (s : Int)) = xs.take s ∧ ¬ (HT.sIx xs.length 0 none = 0 ∧ HT.sIx xs.length xs.length (some (s : Int)) = xs.length) := by
  unfold cutV
  rw [HT.sIx_nat, HT.sIx_none, Nat.min_eq_left (by omega), List.drop_zero, Nat.sub_zero]
  exact ⟨rfl, by omega⟩
theorem cut_hi {xs : List V} {s : Nat} (h : s < xs.length) : cutV xs (some ((s : Int) + 1)) none = xs.drop (s + 1) ∧ ¬ (HT.sIx xs.length 0 (some ((s : Int) + 1)) = 0 ∧ HT.sIx xs.length xs.length none = xs.length) := by
  have e : ((s : Int) + 1) = ((s + 1 : Nat) : Int) := by omega
  unfold cutV
  rw [e, HT.sIx_nat, HT.sIx_none, Nat.min_eq_left (by omega), List.take_of_length_le (by rw [List.length_drop]; omega)]
  exact ⟨rfl, by omega⟩
theorem beh_eq {ns : List Int} {s : Nat} {adv : Bool} (h : s < ns.length) : (behM ns (s : Int) adv).map V.int = (ns.map V.int).take s ++ V.int (gi ns (s : Int) + if adv then 1 else -1) :: (ns.map V.int).drop (s + 1) := by
  unfold behM
  rw [Int.toNat_natCast, List.map_set]
  rw [List.set_eq_take_append_cons_drop, if_pos (by rw [List.length_map]; exact h)]
theorem beh_len (ns : List Int) (s : Int) (adv : Bool) : (behM ns s adv).length = ns.length := by
  unfold behM
  rw [List.length_set]
section
variable {P : Program} {w : World} {K : PySem.W.Frag} {mg : Str → Option Value} {base : Heap}
theorem ok_state_behind {f : Addr} {fd : FuncData} (F : Fun K "state_behind" "state_behind" s_state_behind f fd) : FnOk P w K mg base (L2.CX P w) 1 f fd ["state", "move"] spBeh := by
  refine F.okX sc_state_behind (fun vs H Q E h => ?_) (fun cdv A outer s H vs Q E hr h => ?_)
  · obtain ⟨t, v, n, ns, s, adv, rfl, _⟩ := h
    rfl
  · obtain ⟨t, v, n, ns, s0, adv, rfl, ht, hl, n1000, ⟨u, rfl, hu⟩, h0, h1, q⟩ := h
    obtain ⟨s, rfl⟩ : ∃ s : Nat, s0 = (s : Int) := ⟨s0.toNat, by omega⟩
    have hs : s < ns.length := by omega
    have hsv : s < (ns.map V.int).length := by rw [List.length_map]; exact hs
    -- slots: 0 state, 1 move, 2 stage, 3 kind, 4 change
    refine ⟨_, (pss_cons (ps_asg (pv 1) (pg_tup rfl (pgs_cons (pg_name (i := 2) sc_state_behind.nd rfl (Or.inl rfl)) (pgs_cons (pg_name (i := 3) sc_state_behind.nd rfl (Or.inl rfl)) pgs_nil))))
      (pss_cons (ps_set (i := 4) sc_state_behind.nd rfl (Or.inl rfl) (pe_ifExp (pt_cmpR op_eq (pv 3) pe_str (nomark _)) pe_int (pe_un un_neg pe_int)))
      (pss_one (ps_ret (pe_tup (StX.pa_star (pe_slice sl_tup (pv 0) po_none (po_some (pv 2))) (pa_cons (pe_op op_add (pe_ix ix_tup (pv 0) (pv 2) (fun _ _ => rfl)) (pv 4)) (StX.pa_star (pe_slice sl_tup (pv 0) (po_some (pe_op op_add (pv 2) pe_int)) po_none) pa_nil)))))))), ?_⟩
    refine ⟨_, rfl, u, _, rfl, SqT.of hu, rfl, _, _, rfl, _, _, rfl, rfl, ?_⟩
    dsimp only [gName]
    refine seq_mid (fun σ H2 => σ = [some (.ref t), some (.ref u), some (.int (s : Nat)), some (.str (kw adv)), some (.int (if adv then 1 else -1))] ∧ H2 = H) (fun N hN => ?_) ?_
    · cases adv with
      | true => exact ⟨_, rfl, rfl, _, rfl, iteT (hN _ _ ⟨rfl, rfl⟩)⟩
      | false => exact ⟨_, rfl, rfl, _, rfl, iteF ⟨_, rfl, hN _ _ ⟨rfl, rfl⟩⟩⟩
    rintro σ H2 ⟨rfl, rfl⟩
    obtain ⟨c1, c2⟩ := cut_lo hsv
    obtain ⟨c3, c4⟩ := cut_hi hsv
    refine ⟨_, rfl, _, rfl, _, rfl, t, _, rfl, SqT.of ht, c2, fun p np => ?_⟩
    rw [c1]
    have sp : Same H2 (upd H2 p (.tup ((ns.map V.int).take s))) := Same.new np
    refine ⟨p, _, rfl, .inl (SqT.of upd_same), _, rfl, _, rfl, t, _, _, _, rfl, rfl, SqT.of (sp _ _ ht), at_st hl h0 h1, _, rfl, _, _, rfl, rfl, ?_⟩
    refine ⟨_, rfl, _, rfl, _, _, rfl, rfl, _, rfl, t, _, rfl, SqT.of (sp _ _ ht), c4, fun p2 np2 => ?_⟩
    rw [c3]
    refine ⟨p2, _, rfl, .inl (SqT.of upd_same), ?_, fun r nr => ?_⟩
    · rw [List.append_nil, List.length_append, List.length_cons, List.length_take, List.length_drop, List.length_map]
      exact line_of (by omega)
    · exact q _ r ((sp.trans (Same.new np2)).trans (Same.new nr)) ((sp.trans (Same.new np2)).free nr) (by rw [upd_same, beh_eq hs, List.append_nil])
end
end WC

set_option maxHeartbeats 8000000
namespace WC
open PySem PySem.Spec PyProof.Rows L2
section
variable {P : Program} {w : World} {K : PySem.W.Frag} {mg : Str → Option Value} {base : Heap}
theorem ok_R_is_ring {f : Addr} {CS : List Addr} {fd : FuncData} (F : Fun K "is_ring" "Ring.is_ring" s_Ring_is_ring f fd) : FnOk P w K mg base (L2.CX P w) 1 f fd ["self"] (spRing1 CS true) := by
  refine F.okX sc_Ring_is_ring (fun vs H Q E h => ?_) (fun cdv A outer s H vs Q E hr h => ?_)
  · obtain ⟨x, rfl, _⟩ := h
    rfl
  · obtain ⟨x, rfl, q⟩ := h
    exact ⟨_, (pss_one (ps_ret pe_bl)), q⟩
end
end WC

set_option maxHeartbeats 8000000
namespace WC
open PySem PySem.Spec PyProof.Rows L2
/-- the box of draws of the later laws: its cells at L, where it stands in them -/
def BoxL (H : Hp) (b L : Addr) (cells : List Int) : Prop := L ≠ b ∧ H L = some (.lst (cells.map V.int)) ∧ (∃ ns, cells = ns ++ [0]) ∧ ∃ (k : Nat) (c n s : Int), k < cells.length ∧ H b = some (.lst [.ref L, .int k, .int c, .int n, .int s])
def BoxAt (H : Hp) (b : Addr) : Prop := ∃ L cells, BoxL H b L cells
def spTake : Sp := fun vs H Q _ => ∃ (b L : Addr) (cells : List Int) (m : Int), vs = [.ref b, .int m] ∧ BoxL H b L cells ∧ 0 < m ∧ m < 1073741824 ∧ ∀ (d : Int) H2, 0 ≤ d → d < m → SameB b H H2 → BoxL H2 b L cells → Q (.int d) H2
theorem mod_rng (i : Int) {m : Int} (h : 0 < m) : 0 ≤ Int.fmod i m ∧ Int.fmod i m < m := ⟨Int.fmod_nonneg_of_pos i h, Int.fmod_lt_of_pos i h⟩
theorem mul_ok {i j : Int} (h : -(2 ^ 64) < j ∧ j < 2 ^ 64) : CMul i j := .inr h
theorem mul_okl {i j : Int} (h : -(2 ^ 64) < i ∧ i < 2 ^ 64) : CMul i j := .inl h
theorem ixn {n p : Nat} (h : p < n) : ixN n (p : Int) = some p := by
  unfold ixN
  rw [if_pos (by omega), if_pos (by omega), Int.toNat_natCast]
section
variable {P : Program} {w : World} {K : PySem.W.Frag} {mg : Str → Option Value} {base : Heap}
theorem ok_take {f : Addr} {fd : FuncData} (F : Fun K "_law_take" "_law_take" s_law_take f fd) (B : Blt mg) : FnOk P w K mg base (L2.CX P w) 1 f fd ["_law_box_here", "_law_size"] spTake := by
  refine F.okX sc_law_take (fun vs H Q E h => ?_) (fun cdv A outer s H vs Q E hr h => ?_)
  · obtain ⟨b, L, cells, m, rfl, _⟩ := h
    rfl
  · obtain ⟨b, L, cells, m, rfl, ⟨Lb, hL, ⟨ns, hns⟩, k, c, n, sd, hk, hb⟩, m0, mt, q⟩ := h
    obtain ⟨x, hx⟩ : ∃ x, cells[k]? = some x := ⟨_, List.getElem?_eq_getElem hk⟩
    have ax : atI (cells.map V.int) (k : Int) = some (.int x) := atI_nat (by rw [List.getElem?_map, hx]; rfl)
    -- all that is written is written at b
    have fin : ∀ (k2 : Nat) (c2 n2 s2 d : Int) (H2 : Hp), k2 < cells.length → 0 ≤ d → d < m → H2 = upd H b (.lst [.ref L, .int k2, .int c2, .int n2, .int s2]) → Q (.int d) H2 := fun k2 c2 n2 s2 d H2 h1 h2 h3 e => by
      subst e
      exact q d _ h2 h3 (SameB.refl b H).upd ⟨Lb, by rw [upd_ne Lb]; exact hL, ⟨ns, hns⟩, k2, c2, n2, s2, h1, upd_same⟩
    have uu : ∀ {o1 o2 : HO}, upd (upd H b o1) b o2 = upd H b o2 := fun {o1 o2} => by
      funext a
      by_cases e : a = b
      · subst e; rw [upd_same, upd_same]
      · rw [upd_ne e, upd_ne e, upd_ne e]
    -- slots: 0 _law_box_here, 1 _law_size, 2 _law_cells, 3 _law_at, 4 _law_digit, 5 _law_number, 6 _law_once, 7 _law_twice, 8 _law_third
    refine ⟨_, (pss_cons (ps_set (i := 2) sc_law_take.nd rfl (Or.inl rfl) (pe_ix ix_list (pv 0) pe_int (fun _ _ => rfl)))
      (pss_cons (ps_set (i := 3) sc_law_take.nd rfl (Or.inl rfl) (pe_ix ix_list (pv 0) pe_int (fun _ _ => rfl)))
      (pss_cons (ps_asg (pe_op op_add (pe_ix ix_list (pv 0) pe_int (fun _ _ => rfl)) pe_int) (pg_sub (pv 0) pe_int set_list))
      (pss_cons (ps_if (pt_cmpR op_ge (pe_ix ix_list (pv 2) (pv 3) (fun _ _ => rfl)) (pe_op op_pow pe_int pe_int) (nomark _)) (pss_cons (ps_set (i := 4) sc_law_take.nd rfl (Or.inl rfl) (pe_op op_modN (pe_callTy (T := "int") call_int1 (by rfl) B.int bt_int (pa_cons (pe_ix ix_list (pv 0) pe_int (fun _ _ => rfl)) pa_nil)) (pv 1)))
      (pss_cons (ps_asg (pe_op op_fdivN (pe_callTy (T := "int") call_int1 (by rfl) B.int bt_int (pa_cons (pe_ix ix_list (pv 0) pe_int (fun _ _ => rfl)) pa_nil)) (pv 1)) (pg_sub (pv 0) pe_int set_list))
      (pss_cons (ps_if (pt_cmpR op_eq (pe_ix ix_list (pv 0) pe_int (fun _ _ => rfl)) pe_int (nomark _)) (pss_cons (ps_asg (pe_op op_add (pv 3) pe_int) (pg_sub (pv 0) pe_int set_list))
      (pss_one (ps_asg (pe_ix ix_list (pv 2) (pe_op op_add (pv 3) pe_int) (fun _ _ => rfl)) (pg_sub (pv 0) pe_int set_list)))) pss_nil)
      (pss_one (ps_ret (pv 4)))))) pss_nil)
      (pss_cons (ps_set (i := 5) sc_law_take.nd rfl (Or.inl rfl) (pe_op op_add (pe_callTy (T := "int") call_int1 (by rfl) B.int bt_int (pa_cons (pe_ix ix_list (pv 0) pe_int (fun _ _ => rfl)) pa_nil)) (pe_ix ix_list (pv 2) (pv 3) (fun _ _ => rfl))))
      (pss_cons (ps_set (i := 6) sc_law_take.nd rfl (Or.inl rfl) (pe_op op_modN (pe_callTy (T := "int") call_int1 (by rfl) B.int bt_int (pa_cons (pe_op op_add (pe_op op_mul (pe_op op_modN (pe_callTy (T := "int") call_int1 (by rfl) B.int bt_int (pa_cons (pv 5) pa_nil)) pe_int) pe_int) (pe_op op_mul (pe_ix ix_list (pv 0) pe_int (fun _ _ => rfl)) pe_int)) pa_nil)) pe_int))
      (pss_cons (ps_set (i := 7) sc_law_take.nd rfl (Or.inl rfl) (pe_op op_modN (pe_callTy (T := "int") call_int1 (by rfl) B.int bt_int (pa_cons (pe_op op_add (pe_op op_add (pe_op op_mul (pv 6) (pv 6)) (pe_op op_mul (pe_ix ix_list (pv 0) pe_int (fun _ _ => rfl)) pe_int)) (pv 5)) pa_nil)) pe_int))
      (pss_cons (ps_set (i := 8) sc_law_take.nd rfl (Or.inl rfl) (pe_op op_modN (pe_callTy (T := "int") call_int1 (by rfl) B.int bt_int (pa_cons (pe_op op_add (pe_op op_mul (pe_op op_fdivN (pv 7) pe_int) (pe_op op_add (pe_op op_fdivN (pv 6) pe_int) pe_int)) (pv 7)) pa_nil)) pe_int))
      (pss_cons (ps_if (PW.pt (pw_and (pt_cmpR op_lt (pe_op op_add (pv 3) pe_int) (pe_callB call_len_seq (by rfl) B.len bt_len (pa_cons (pv 2) pa_nil)) (nomark _)) (pw_and1 (pt_cmpR op_eq (pe_op op_modN (pe_callTy (T := "int") call_int1 (by rfl) B.int bt_int (pa_cons (pe_ix ix_list (pv 0) pe_int (fun _ _ => rfl)) pa_nil)) pe_int) pe_int (nomark _))))) (pss_cons (ps_asg (pe_op op_add (pv 3) pe_int) (pg_sub (pv 0) pe_int set_list))
      (pss_one (ps_asg (pe_ix ix_list (pv 2) (pe_op op_add (pv 3) pe_int) (fun _ _ => rfl)) (pg_sub (pv 0) pe_int set_list)))) pss_nil)
      (pss_one (ps_ret (pe_op op_modN (pe_op op_fdivN (pv 8) pe_int) (pv 1))))))))))))), ?_⟩
    refine ⟨_, rfl, b, _, _, _, rfl, rfl, SqL.of hb, atI_nat (j := 0) rfl, _, rfl, b, _, _, _, rfl, rfl, SqL.of hb, atI_nat (j := 1) rfl, ?_⟩
    refine ⟨_, rfl, b, _, _, _, rfl, rfl, SqL.of hb, atI_nat (j := 3) rfl, _, _, rfl, rfl, _, rfl, b, _, _, 3, rfl, rfl, hb, ixn (n := 5) (p := 3) (by decide), ?_⟩
    obtain ⟨H1, e1⟩ : ∃ H1, H1 = upd H b (.lst [.ref L, .int k, .int c, .int (n + 1), .int sd]) := ⟨_, rfl⟩
    have hb1 : H1 b = some (.lst [.ref L, .int k, .int c, .int (n + 1), .int sd]) := by rw [e1]; exact upd_same
    have hL1 : H1 L = some (.lst (cells.map V.int)) := by rw [e1, upd_ne Lb]; exact hL
    rw [show upd H b (.lst ([V.ref L, .int k, .int c, .int n, .int sd].set 3 (.int (n + 1)))) = H1 from e1.symm]
    refine ⟨_, rfl, _, rfl, L, _, _, _, rfl, rfl, SqL.of hL1, ax, _, _, rfl, rfl, ⟨by decide, by decide, by decide⟩, _, _, rfl, rfl, _, rfl, ite2 (fun e => ?_) (fun e => ?_)⟩
    · have e := of_decide_eq_true e
      have big : (10 : Int) ^ (18 : Int).toNat ≤ x := e
      have k1 : k + 1 < cells.length := by
        rcases Nat.lt_or_ge (k + 1) cells.length with z | z
        · exact z
        · exfalso
          have : k = ns.length := by rw [hns, List.length_append] at hk z; simp at hk z; omega
          rw [hns, this, List.getElem?_append_right (Nat.le_refl _), Nat.sub_self] at hx
          have hx := Option.some.inj hx
          rw [← hx] at big
          exact absurd big (by decide)
      obtain ⟨y, hy⟩ : ∃ y, cells[k + 1]? = some y := ⟨_, List.getElem?_eq_getElem k1⟩
      have ay : atI (cells.map V.int) ((k : Int) + 1) = some (.int y) := by
        rw [show ((k : Int) + 1) = ((k + 1 : Nat) : Int) from rfl]
        exact atI_nat (by rw [List.getElem?_map, hy]; rfl)
      obtain ⟨d0, d1⟩ := mod_rng c m0
      refine ⟨_, rfl, b, _, _, _, rfl, rfl, SqL.of hb1, atI_nat (j := 2) rfl, .inl ⟨_, rfl, _, rfl, _, _, rfl, rfl, (by show m ≠ 0; omega), ?_⟩⟩
      refine ⟨_, rfl, b, _, _, _, rfl, rfl, SqL.of hb1, atI_nat (j := 2) rfl, .inl ⟨_, rfl, _, rfl, _, _, rfl, rfl, ⟨by omega, by omega⟩, _, rfl, b, _, _, 2, rfl, rfl, hb1, ixn (n := 5) (p := 2) (by decide), ?_⟩⟩
      obtain ⟨H2, e2⟩ : ∃ H2, H2 = upd H b (.lst [.ref L, .int k, .int (Int.fdiv c m), .int (n + 1), .int sd]) := ⟨_, rfl⟩
      have hb2 : H2 b = some (.lst [.ref L, .int k, .int (Int.fdiv c m), .int (n + 1), .int sd]) := by rw [e2]; exact upd_same
      have hL2 : H2 L = some (.lst (cells.map V.int)) := by rw [e2, upd_ne Lb]; exact hL
      rw [show upd H1 b (.lst ([V.ref L, .int k, .int c, .int (n + 1), .int sd].set 2 (.int (Int.fdiv c m)))) = H2 from by rw [e1, e2, uu]; rfl]
      refine ⟨_, rfl, b, _, _, _, rfl, rfl, SqL.of hb2, atI_nat (j := 2) rfl, rfl, _, rfl, ite2 (fun _ => ?_) (fun _ => ?_)⟩
      · refine ⟨_, rfl, _, _, rfl, rfl, _, rfl, b, _, _, 1, rfl, rfl, hb2, ixn (n := 5) (p := 1) (by decide), ?_⟩
        obtain ⟨H3, e3⟩ : ∃ H3, H3 = upd H b (.lst [.ref L, .int ((k : Int) + 1), .int (Int.fdiv c m), .int (n + 1), .int sd]) := ⟨_, rfl⟩
        have hb3 : H3 b = some (.lst [.ref L, .int ((k : Int) + 1), .int (Int.fdiv c m), .int (n + 1), .int sd]) := by rw [e3]; exact upd_same
        have hL3 : H3 L = some (.lst (cells.map V.int)) := by rw [e3, upd_ne Lb]; exact hL
        rw [show upd H2 b (.lst ([V.ref L, .int k, .int (Int.fdiv c m), .int (n + 1), .int sd].set 1 (.int ((k : Int) + 1)))) = H3 from by rw [e2, e3, uu]; rfl]
        refine ⟨_, rfl, _, rfl, _, _, rfl, rfl, L, _, _, _, rfl, rfl, SqL.of hL3, ay, _, rfl, b, _, _, 2, rfl, rfl, hb3, ixn (n := 5) (p := 2) (by decide), _, rfl, ?_⟩
        exact fin (k + 1) y (n + 1) sd _ _ k1 d0 d1 (by rw [e3, uu]; rfl)
      · exact ⟨_, rfl, fin k (Int.fdiv c m) (n + 1) sd _ _ hk d0 d1 e2⟩
    · refine ⟨_, rfl, b, _, _, _, rfl, rfl, SqL.of hb1, atI_nat (j := 4) rfl, .inl ⟨_, rfl, _, rfl, _, rfl, L, _, _, _, rfl, rfl, SqL.of hL1, ax, _, _, rfl, rfl, ?_⟩⟩
      refine ⟨_, rfl, .inl ⟨_, rfl, _, _, rfl, rfl, (by show (_ : Int) ≠ 0; decide), _, _, rfl, rfl, mul_ok (by decide), _, rfl, b, _, _, _, rfl, rfl, SqL.of hb1, atI_nat (j := 3) rfl, _, _, rfl, rfl, mul_ok (by decide), _, _, rfl, rfl, .inl ⟨_, rfl, _, _, rfl, rfl, (by show (_ : Int) ≠ 0; decide), ?_⟩⟩⟩
      obtain ⟨o0, o1⟩ := mod_rng (Int.fmod (sd + x) 2147483629 * 48271 + (n + 1) * 69621) (m := 2147483647) (by decide)
      refine ⟨_, rfl, _, rfl, _, _, rfl, rfl, mul_okl (by omega), _, rfl, b, _, _, _, rfl, rfl, SqL.of hb1, atI_nat (j := 3) rfl, _, _, rfl, rfl, mul_ok (by decide), _, _, rfl, rfl, _, rfl, _, _, rfl, rfl, .inl ⟨_, rfl, _, _, rfl, rfl, (by show (_ : Int) ≠ 0; decide), ?_⟩⟩
      have f5 : 0 ≤ Int.fdiv (Int.fmod (Int.fmod (sd + x) 2147483629 * 48271 + (n + 1) * 69621) 2147483647) 5 ∧ Int.fdiv (Int.fmod (Int.fmod (sd + x) 2147483629 * 48271 + (n + 1) * 69621) 2147483647) 5 ≤ 2147483647 := by
        rw [Int.fdiv_eq_ediv_of_nonneg _ (by decide)]
        omega
      refine ⟨_, rfl, _, _, rfl, rfl, ⟨by decide, by decide⟩, _, rfl, _, _, rfl, rfl, ⟨by decide, by decide⟩, _, _, rfl, rfl, _, _, rfl, rfl, mul_ok (by omega), _, rfl, _, _, rfl, rfl, .inl ⟨_, rfl, _, _, rfl, rfl, (by show (_ : Int) ≠ 0; decide), ?_⟩⟩
      refine ⟨_, rfl, _, _, rfl, rfl, _, rfl, L, _, rfl, .inl (SqL.of hL1), _, _, rfl, rfl, _, rfl, ite2 (fun e2 => ?_) (fun _ => ?_)⟩
      rotate_left
      · exact ⟨_, rfl, _, _, rfl, rfl, ⟨by decide, by decide⟩, _, rfl, _, _, rfl, rfl, (by show m ≠ 0; omega), fin k c (n + 1) sd _ _ hk (mod_rng _ m0).1 (mod_rng _ m0).2 e1⟩
      have e2 := of_decide_eq_true e2
      rw [List.length_map] at e2
      have k1 : k + 1 < cells.length := by omega
      refine ⟨_, rfl, b, _, _, _, rfl, rfl, SqL.of hb1, atI_nat (j := 3) rfl, .inl ⟨_, rfl, _, _, rfl, rfl, (by show (_ : Int) ≠ 0; decide), rfl, _, rfl, ite2 (fun _ => ?_) (fun _ => ?_)⟩⟩
      rotate_left
      · exact ⟨_, rfl, _, _, rfl, rfl, ⟨by decide, by decide⟩, _, rfl, _, _, rfl, rfl, (by show m ≠ 0; omega), fin k c (n + 1) sd _ _ hk (mod_rng _ m0).1 (mod_rng _ m0).2 e1⟩
      obtain ⟨y, hy⟩ : ∃ y, cells[k + 1]? = some y := ⟨_, List.getElem?_eq_getElem k1⟩
      have ay : atI (cells.map V.int) ((k : Int) + 1) = some (.int y) := by
        rw [show ((k : Int) + 1) = ((k + 1 : Nat) : Int) from rfl]
        exact atI_nat (by rw [List.getElem?_map, hy]; rfl)
      refine ⟨_, rfl, _, _, rfl, rfl, _, rfl, b, _, _, 1, rfl, rfl, hb1, ixn (n := 5) (p := 1) (by decide), ?_⟩
      obtain ⟨H3, e3⟩ : ∃ H3, H3 = upd H b (.lst [.ref L, .int ((k : Int) + 1), .int c, .int (n + 1), .int sd]) := ⟨_, rfl⟩
      have hb3 : H3 b = some (.lst [.ref L, .int ((k : Int) + 1), .int c, .int (n + 1), .int sd]) := by rw [e3]; exact upd_same
      have hL3 : H3 L = some (.lst (cells.map V.int)) := by rw [e3, upd_ne Lb]; exact hL
      rw [show upd H1 b (.lst ([V.ref L, .int k, .int c, .int (n + 1), .int sd].set 1 (.int ((k : Int) + 1)))) = H3 from by rw [e1, e3, uu]; rfl]
      refine ⟨_, rfl, _, rfl, _, _, rfl, rfl, L, _, _, _, rfl, rfl, SqL.of hL3, ay, _, rfl, b, _, _, 2, rfl, rfl, hb3, ixn (n := 5) (p := 2) (by decide), ?_⟩
      exact ⟨_, rfl, _, _, rfl, rfl, ⟨by decide, by decide⟩, _, rfl, _, _, rfl, rfl, (by show m ≠ 0; omega), fin (k + 1) y (n + 1) sd _ _ k1 (mod_rng _ m0).1 (mod_rng _ m0).2 (by rw [e3, uu]; rfl)⟩
end
end WC

set_option maxHeartbeats 8000000
namespace WC
open PySem PySem.Spec PyProof.Rows L2
/-- the cells of a box: the script's first 63, without their signs -/
def absI (i : Int) : Int := if i < 0 then -i else i
def boxCells (ns : List Int) : List Int := (ns.take 63).map absI
def spBox (K : PySem.W.Frag) : Sp := fun vs H Q _ => ∃ (a : Addr) (ns : List Int), vs = [.ref a] ∧ SqL K H a (ns.map V.int) ∧ ∀ b L cells H2, Same H H2 → H b = none → BoxL H2 b L cells → Q (.ref b) H2
section
variable {P : Program} {w : World} {K : PySem.W.Frag} {mg : Str → Option Value} {base : Heap}
theorem ok_box {f : Addr} {fd : FuncData} (F : Fun K "_law_box" "_law_box" s_law_box f fd) (B : Blt mg) (B2 : Blt3 mg) : FnOk P w K mg base (L2.CX P w) 1 f fd ["_law_script"] (spBox K) := by
  refine F.okX sc_law_box (fun vs H Q E h => ?_) (fun cdv A outer s H vs Q E hr h => ?_)
  · obtain ⟨a, ns, rfl, _⟩ := h
    rfl
  · obtain ⟨a, ns, rfl, ha, q⟩ := h
    -- slots: 0 _law_script, 1 _law_cells, 2 _law_cell, 3 _law_seed
    refine ⟨_, (pss_cons (ps_set (i := 1) sc_law_box.nd rfl (Or.inl rfl) (pe_op op_cat (pe_lc (own := [("_law_cell", 2)]) rfl sc_law_box.nd (pi_list (pe_slice sl_list (pv 0) po_none (po_some pe_int))) (blkOk_by (N := nn_law_box) (sc := defScope s_law_box) (own := [("_law_cell", 2)]) (by decide +kernel)) (fun _ _ _ _ _ => (pg_name (i := 2) sc_law_box.nd rfl (Or.inl rfl))) (fun _ _ _ _ _ => pts_nil) (fun _ _ _ _ _ => (pe_callB call_abs (by rfl) B2.abs boot_abs (pa_cons (pe_callTy (T := "int") call_int1 (by rfl) B.int bt_int (pa_cons (pv 2) pa_nil)) pa_nil)))) (pe_lst (pa_cons pe_int pa_nil))))
      (pss_cons (ps_set (i := 3) sc_law_box.nd rfl (Or.inl rfl) pe_int)
      (pss_cons (ps_for (passes_of rfl) rfl (pi_list (pv 1)) (pg_name (i := 2) sc_law_box.nd rfl (Or.inl rfl))
        (pss_one (ps_set (i := 3) sc_law_box.nd rfl (Or.inl rfl) (pe_op op_modN (pe_callTy (T := "int") call_int1 (by rfl) B.int bt_int (pa_cons (pe_op op_add (pe_op op_mul (pv 3) pe_int) (pv 2)) pa_nil)) pe_int))))
      (pss_one (ps_ret (pe_lst (pa_cons (pv 1) (pa_cons pe_int (pa_cons (pe_ix ix_list (pv 1) pe_int (fun _ _ => rfl)) (pa_cons pe_int (pa_cons (pv 3) pa_nil))))))))))), ?_⟩
    refine ⟨_, rfl, _, rfl, a, _, rfl, ha, fun p hp => ?_⟩
    have s1 : Same H (upd H p (.lst (cutV (ns.map V.int) none (some 63)))) := Same.new hp
    have hcut : cutV (ns.map V.int) none (some 63) = (ns.take 63).map V.int := by
      rw [List.map_take]
      unfold cutV
      have e1 : HT.sIx (ns.map V.int).length 0 none = 0 := rfl
      have e2 : HT.sIx (ns.map V.int).length (ns.map V.int).length (some (63 : Int)) = min 63 (ns.map V.int).length := HT.sIx_nat _ _ 63
      rw [e1, e2, List.drop_zero, Nat.sub_zero]
      by_cases h2 : 63 ≤ (ns.map V.int).length
      · rw [Nat.min_eq_left h2]
      · rw [Nat.min_eq_right (by omega), List.take_of_length_le (Nat.le_refl _), List.take_of_length_le (by omega)]
    obtain ⟨H1, e1⟩ : ∃ H1, H1 = upd H p (.lst (cutV (ns.map V.int) none (some 63))) := ⟨_, rfl⟩
    have hp1 : H1 p = some (.lst ((ns.take 63).map V.int)) := by rw [e1, upd_same, hcut]
    rw [← e1] at s1 ⊢
    have l63 : (ns.take 63).length ≤ 63 := by rw [List.length_take]; omega
    obtain ⟨cs, ecs⟩ : ∃ cs, cs = ns.take 63 := ⟨_, rfl⟩
    rw [← ecs] at hp1 l63
    refine ⟨p, rfl, ⟨_, SqL.of hp1⟩, fun D hD => lc_it (walk_list (xs := cs.map V.int)) (fun i H2 => Same H1 H2 ∧ H2 D = some (.lst (((cs.take i).map absI).map V.int))) ⟨Same.new hD, upd_same⟩ (fun i H2 _ z => SqL.of (z.1 _ _ hp1)) ?_ ?_⟩
    · rintro i y H2 H3 hi ⟨s2, hd⟩ ⟨rfl, e2⟩
      rw [List.length_map] at hi
      have qq : cs[i]? = some cs[i] := by simp [hi]
      rw [List.getElem?_map, qq] at e2
      obtain rfl := Option.some.inj e2
      refine ⟨rfl, yes ⟨_, rfl, .inl ⟨_, rfl, _, rfl, _, hd, ?_, Same.newer s2 hD, ?_⟩⟩⟩
      · rw [List.length_map, List.length_map, List.length_take]
        exact line_lt (by omega)
      · rw [upd_same, List.take_succ, qq, List.map_append, List.map_append]
        rfl
    rintro H2 ⟨s2, hd⟩
    rw [List.length_map, List.take_of_length_le (Nat.le_refl _)] at hd
    refine ⟨(by show 1 ≤ sizeLine; decide), fun Z hZ => ?_⟩
    have s3 : Same H2 (upd H2 Z (.lst [V.int 0])) := Same.new hZ
    refine ⟨D, Z, _, _, rfl, rfl, s3 _ _ hd, upd_same, line_of (by rw [List.length_map, List.length_map]; show _ + 1 ≤ _; omega), fun L hL => ?_⟩
    obtain ⟨H3, e3⟩ : ∃ H3, H3 = upd H2 Z (.lst [V.int 0]) := ⟨_, rfl⟩
    rw [← e3] at hL s3 ⊢
    have s4 := s1.trans (s2.trans (s3.trans (Same.new (o := .lst ((cs.map absI).map V.int ++ [V.int 0])) hL)))
    obtain ⟨H4, e4⟩ : ∃ H4, H4 = upd H3 L (.lst ((cs.map absI).map V.int ++ [V.int 0])) := ⟨_, rfl⟩
    have hL4 : H4 L = some (.lst ((cs.map absI ++ [0]).map V.int)) := by rw [e4, upd_same, List.map_append]; rfl
    rw [← e4] at s4 ⊢
    obtain ⟨cells, ecl⟩ : ∃ cells, cells = cs.map absI ++ [0] := ⟨_, rfl⟩
    rw [← ecl] at hL4
    have lcl : 0 < cells.length := by rw [ecl, List.length_append]; show 0 < _ + 1; omega
    refine ⟨_, rfl, L, rfl, ⟨_, SqL.of hL4⟩, for_it (walk_list (xs := cells.map V.int)) (fun i σ H5 => ∃ v2 sd, σ = [some (.ref a), some (.ref L), v2, some (.int sd)] ∧ H5 = H4) ⟨_, _, rfl, rfl⟩ (fun i σ H5 _ z => ?_) ?_ ?_⟩
    · obtain ⟨_, _, _, rfl⟩ := z
      exact SqL.of hL4
    · rintro i y σ H5 H6 hi ⟨v2, sd, rfl, rfl⟩ ⟨rfl, e5⟩
      rw [List.length_map] at hi
      have qq : cells[i]? = some cells[i] := by simp [hi]
      rw [List.getElem?_map, qq] at e5
      obtain rfl := Option.some.inj e5
      exact ⟨_, rfl, _, _, rfl, rfl, mul_ok (by decide), _, rfl, _, _, rfl, rfl, .inl ⟨_, rfl, _, _, rfl, rfl, (by show (_ : Int) ≠ 0; decide), _, _, rfl, rfl⟩⟩
    rintro σ H5 ⟨v2, sd, rfl, rfl⟩
    obtain ⟨x, hx⟩ : ∃ x, cells[0]? = some x := ⟨_, List.getElem?_eq_getElem lcl⟩
    have ax : atI (cells.map V.int) (0 : Int) = some (.int x) := atI_nat (j := 0) (by rw [List.getElem?_map, hx]; rfl)
    refine ⟨_, rfl, _, rfl, L, _, _, _, rfl, rfl, SqL.of hL4, ax, _, rfl, (by show 5 ≤ sizeLine; decide), fun b hb => ?_⟩
    have nb : L ≠ b := ne_of_none hL4 hb
    refine q b L cells _ (Same.newer s4 (Same.free s4 hb)) (Same.free s4 hb) ⟨nb, by rw [upd_ne nb]; exact hL4, ⟨_, ecl⟩, 0, x, 0, sd, lcl, upd_same⟩
end
end WC

set_option maxHeartbeats 8000000
namespace WC
open PySem PySem.Spec PyProof.Rows L2
def spRoom9 : Sp := fun vs H Q _ => ∃ (b L : Addr) (cells : List Int), vs = [.ref b] ∧ BoxL H b L cells ∧ ∀ (r : Int) H2, 1 ≤ r → r ≤ 999 → SameB b H H2 → BoxL H2 b L cells → Q (.int r) H2
section
variable {P : Program} {w : World} {K : PySem.W.Frag} {mg : Str → Option Value} {base : Heap}
end
end WC

set_option maxHeartbeats 8000000
namespace WC
open PySem PySem.Spec PyProof.Rows L2
def spSum9 : Sp := fun vs H Q _ => ∃ (s t : Addr) (n : Nat) (st tg : List Int), vs = [.ref s, .ref t] ∧ H s = some (.tup (st.map V.int)) ∧ st.length = n ∧ n ≤ 40 ∧ H t = some (.tup (tg.map V.int)) ∧ tg.length = n ∧ ∀ H2, Same H H2 → Q (.int (distM st tg n)) H2
section
variable {P : Program} {w : World} {K : PySem.W.Frag} {mg : Str → Option Value} {base : Heap}
end
end WC

set_option maxHeartbeats 8000000
namespace WC
open PySem PySem.Spec PyProof.Rows L2
/-- the numbers below n, each once, in some order -/
structure PermN (n : Nat) (ks : List Int) : Prop where
  len : ks.length = n
  rng : ∀ x ∈ ks, 0 ≤ x ∧ x < n
  inj : ∀ i j : Nat, i < n → j < n → ks[i]? = ks[j]? → i = j
theorem PermN.id (n : Nat) : PermN n ((List.range n).map fun (k : Nat) => (k : Int)) := by
  refine ⟨by simp, fun x hx => ?_, fun i j hi hj e => ?_⟩
  · obtain ⟨k, hk, rfl⟩ := List.mem_map.mp hx
    have := List.mem_range.mp hk
    omega
  · simp [hi, hj] at e
    omega
theorem swap_at {ks : List Int} {p q : Nat} {x y : Int} (hp : ks[p]? = some x) (hq : ks[q]? = some y) (k : Nat) : ((ks.set p y).set q x)[k]? = ks[if k = q then p else if k = p then q else k]? := by
  obtain ⟨lp, _⟩ := List.getElem?_eq_some_iff.mp hp
  obtain ⟨lq, _⟩ := List.getElem?_eq_some_iff.mp hq
  by_cases e1 : k = q
  · subst e1
    rw [if_pos rfl, hp, List.getElem?_set_self (by rw [List.length_set]; exact lq)]
  · rw [if_neg e1, List.getElem?_set_ne (fun z => e1 z.symm)]
    by_cases e2 : k = p
    · subst e2
      rw [if_pos rfl, hq, List.getElem?_set_self lp]
    · rw [if_neg e2, List.getElem?_set_ne (fun z => e2 z.symm)]
theorem PermN.swap {n : Nat} {ks : List Int} {p q : Nat} {x y : Int} (h : PermN n ks) (hp : ks[p]? = some x) (hq : ks[q]? = some y) : PermN n ((ks.set p y).set q x) := by
  obtain ⟨lp, _⟩ := List.getElem?_eq_some_iff.mp hp
  obtain ⟨lq, _⟩ := List.getElem?_eq_some_iff.mp hq
  have hl := h.len
  refine ⟨by rw [List.length_set, List.length_set]; exact hl, fun z hz => ?_, fun i j hi hj e => ?_⟩
  · obtain ⟨k, hk⟩ := List.mem_iff_getElem?.mp hz
    rw [swap_at hp hq] at hk
    exact h.rng z (List.mem_of_getElem? hk)
  · rw [swap_at hp hq, swap_at hp hq] at e
    have lt : ∀ k, k < n → (if k = q then p else if k = p then q else k) < n := fun k hk => by
      split
      · omega
      · split <;> omega
    have a := h.inj _ _ (lt i hi) (lt j hj) e
    have f1 : ∀ k, k = q → (if k = q then p else if k = p then q else k) = p := fun k e => by rw [if_pos e]
    have f2 : ∀ k, k ≠ q → k = p → (if k = q then p else if k = p then q else k) = q := fun k e e2 => by rw [if_neg e, if_pos e2]
    have f3 : ∀ k, k ≠ q → k ≠ p → (if k = q then p else if k = p then q else k) = k := fun k e e2 => by rw [if_neg e, if_neg e2]
    have tri : ∀ k, (k = q ∧ (if k = q then p else if k = p then q else k) = p) ∨ (k ≠ q ∧ k = p ∧ (if k = q then p else if k = p then q else k) = q) ∨ (k ≠ q ∧ k ≠ p ∧ (if k = q then p else if k = p then q else k) = k) := fun k => by
      by_cases e : k = q
      · exact .inl ⟨e, f1 k e⟩
      · by_cases e2 : k = p
        · exact .inr (.inl ⟨e, e2, f2 k e e2⟩)
        · exact .inr (.inr ⟨e, e2, f3 k e e2⟩)
    obtain ⟨u, hu⟩ : ∃ u, u = (if i = q then p else if i = p then q else i) := ⟨_, rfl⟩
    obtain ⟨v, hv⟩ : ∃ v, v = (if j = q then p else if j = p then q else j) := ⟨_, rfl⟩
    have t1 := tri i
    have t2 := tri j
    rw [← hu] at t1 a
    rw [← hv] at t2 a
    clear f1 f2 f3 tri lt hu hv
    omega
theorem BoxL.put {H : Hp} {b L Z : Addr} {cells : List Int} {o : HO} (h : BoxL H b L cells) (zb : Z ≠ b) (zl : Z ≠ L) : BoxL (upd H Z o) b L cells := by
  obtain ⟨Lb, hL, hn, k, c, n, s, hk, hb⟩ := h
  exact ⟨Lb, by rw [upd_ne zl.symm]; exact hL, hn, k, c, n, s, hk, by rw [upd_ne zb.symm]; exact hb⟩
def spLab9 : Sp := fun vs H Q _ => ∃ (b L : Addr) (cells : List Int) (n : Nat), vs = [.ref b, .int n] ∧ BoxL H b L cells ∧ 1 ≤ n ∧ n ≤ 40 ∧ ∀ (Z : Addr) ks H2, SameB b H H2 → BoxL H2 b L cells → H Z = none → H2 Z = some (.lst (ks.map V.int)) → PermN n ks → Q (.ref Z) H2
section
variable {P : Program} {w : World} {K : PySem.W.Frag} {mg : Str → Option Value} {base : Heap}
end
end WC

set_option maxHeartbeats 8000000
namespace WC
open PySem PySem.Spec PyProof.Rows L2
/-- a move of the law: the stage, and whether it advances -/
abbrev Mv9 := Int × Bool
def wMv (m : Mv9) : Str := if m.2 = true then "advance" else "rollback"
def MvA (H : Hp) (m : Mv9) (v : V) : Prop := ∃ t, v = .ref t ∧ H t = some (.tup [.int m.1, .str (wMv m)])
theorem mvs_same {H H2 : Hp} {os : List Mv9} {vs : List V} (h : Paired (MvA H) os vs) (s : Same H H2) : Paired (MvA H2) os vs := Paired.mapP h fun _ _ ⟨t, e, ht⟩ => ⟨t, e, s _ _ ht⟩
theorem mvs_add {H H2 : Hp} {L T : Addr} {os : List Mv9} {ks : List V} {m : Mv9} (s : Same H H2) (nL : H L = none) (hL : H2 L = some (.lst ks)) (hp : Paired (MvA H2) os ks) (nT : H2 T = none) :
    upd H2 T (.tup [.int m.1, .str (wMv m)]) L = some (.lst ks) ∧ Same H (upd (upd H2 T (.tup [.int m.1, .str (wMv m)])) L (.lst (ks ++ [.ref T]))) ∧ Paired (MvA (upd (upd H2 T (.tup [.int m.1, .str (wMv m)])) L (.lst (ks ++ [.ref T])))) (os ++ [m]) (ks ++ [.ref T]) := by
  have pD : T ≠ L := (ne_of_none hL nT).symm
  refine ⟨by rw [upd_ne pD.symm]; exact hL, Same.newer (Same.newer s (s.free nT)) nL, ?_⟩
  refine pr_snoc (Paired.mapP hp fun c2 v2 ⟨t2, e1, e2⟩ => ⟨t2, e1, ?_⟩) ⟨T, rfl, by rw [upd_ne pD, upd_same]⟩
  rw [upd_ne (ne_of e2 hL (by intro z; cases z)), upd_ne (ne_of_none e2 nT)]
  exact e2
def movesM (n : Nat) : List Mv9 := (List.range n).flatMap fun (k : Nat) => [((k : Int), true), ((k : Int), false)]
theorem movesM_succ (n : Nat) : movesM (n + 1) = movesM n ++ [((n : Int), true)] ++ [((n : Int), false)] := by
  unfold movesM
  rw [List.range_succ, List.flatMap_append, List.append_assoc]
  rfl
theorem movesM_len (n : Nat) : (movesM n).length = 2 * n := by
  induction n with
  | zero => rfl
  | succ n ih => rw [movesM_succ, List.length_append, List.length_append, ih]; show 2 * n + 1 + 1 = _; omega
def spMoves9 : Sp := fun vs H Q _ => ∃ (n : Nat), vs = [.int n] ∧ n ≤ 40 ∧ ∀ (Z : Addr) ks H2, Same H H2 → H Z = none → H2 Z = some (.lst ks) → Paired (MvA H2) (movesM n) ks → Q (.ref Z) H2
section
variable {P : Program} {w : World} {K : PySem.W.Frag} {mg : Str → Option Value} {base : Heap}
theorem ok_moves9 {f : Addr} {fd : FuncData} (F : Fun K "_law_moves" "_law_moves" s_law_moves f fd) (B : Blt mg) : FnOk P w K mg base (L2.CX P w) 1 f fd ["_law_stages"] spMoves9 := by
  refine F.okX sc_law_moves (fun vs H Q E h => ?_) (fun cdv A outer s H vs Q E hr h => ?_)
  · obtain ⟨n, rfl, _⟩ := h
    rfl
  · obtain ⟨n, rfl, n40, q⟩ := h
    -- slots: 0 _law_stages, 1 _law_found, 2 _law_stage
    refine ⟨_, (pss_cons (ps_set (i := 1) sc_law_moves.nd rfl (Or.inl rfl) (pe_lst pa_nil))
      (pss_cons (ps_for (passes_of rfl) rfl (pi_range1 (by rfl) B.range (pa_cons (pv 0) pa_nil)) (pg_name (i := 2) sc_law_moves.nd rfl (Or.inl rfl))
        (pss_cons (ps_expr (pe_bm PySem.F.plainAttrs_list PySem.F.slot_list_append PySem.F.type_list_append mt_append (pv 1) (pa_cons (pe_tup (pa_cons (pv 2) (pa_cons pe_str pa_nil))) pa_nil)))
      (pss_one (ps_expr (pe_bm PySem.F.plainAttrs_list PySem.F.slot_list_append PySem.F.type_list_append mt_append (pv 1) (pa_cons (pe_tup (pa_cons (pv 2) (pa_cons pe_str pa_nil))) pa_nil))))))
      (pss_one (ps_ret (pv 1))))), ?_⟩
    refine ⟨(by show 0 ≤ sizeLine; decide), fun Z hZ => ?_⟩
    refine ⟨_, rfl, (n : Int), rfl, by omega, by omega, for_it walk_range (fun i σ H5 => ∃ v2 ks, σ = [some (.int n), some (.ref Z), v2] ∧ Same H H5 ∧ H5 Z = some (.lst ks) ∧ Paired (MvA H5) (movesM i) ks) ⟨_, _, rfl, Same.new hZ, upd_same, .nil⟩ (fun _ _ _ _ _ => trivial) ?_ ?_⟩
    · rintro i x σ H5 H6 hi ⟨v2, ks, rfl, s5, hd, pk⟩ ⟨rfl, e1⟩
      have hi : i < n := hi
      have z0 : (0 : Int) + (i : Nat) = (i : Nat) := by omega
      have e1 : x = .int ((i : Nat) : Int) := by
        rw [← z0]
        exact e1
      subst e1
      have l1 := pk.length
      rw [movesM_len] at l1
      refine ⟨_, rfl, .inl ⟨rfl, _, SqL.of hd⟩, _, rfl, by show 2 ≤ sizeLine; decide, fun T nT => ?_⟩
      obtain ⟨g1, g2, g3⟩ := mvs_add (m := ((i : Int), true)) s5 hZ hd pk nT
      refine ⟨Z, _, _, rfl, rfl, g1, line_lt (by omega), ?_⟩
      refine ⟨_, rfl, .inl ⟨rfl, _, SqL.of upd_same⟩, _, rfl, by show 2 ≤ sizeLine; decide, fun T2 nT2 => ?_⟩
      obtain ⟨k1, k2, k3⟩ := mvs_add (m := ((i : Int), false)) g2 hZ upd_same g3 nT2
      refine ⟨Z, _, _, rfl, rfl, k1, line_lt (by rw [List.length_append]; show _ + 1 < _; omega), ?_⟩
      refine ⟨_, _, rfl, k2, upd_same, ?_⟩
      rw [movesM_succ]
      exact k3
    · rintro σ H5 ⟨v2, ks, rfl, s5, hd, pk⟩
      exact ⟨_, rfl, q Z _ H5 s5 hZ hd pk⟩
end
end WC

set_option maxHeartbeats 8000000
namespace WC
open PySem PySem.Spec PyProof.Rows L2
/-- the channels that a move moves along -/
def sideM (cs : List Tri) (m : Mv9) : List Tri := cs.filter fun c => decide ((if m.2 = true then c.2.1 else c.1) = m.1)
def fits9 (ns : List Int) (c : Tri) : Bool := decide (1 ≤ gi ns c.1 - gi ns c.2.1) && decide (gi ns c.1 - gi ns c.2.1 ≤ c.2.2)
def alw9 (cs : List Tri) (ns : List Int) (m : Mv9) : Bool := (sideM cs m).all (fits9 ns) && decide (0 < (sideM cs m).length)
def spAllow9 : Sp := fun vs H Q _ => ∃ (C t a : Addr) (cs : List Tri) (ks : List V) (ns : List Int) (m : Mv9), vs = [.ref C, .ref t, .ref a] ∧ H C = some (.lst ks) ∧ Paired (TriA H) cs ks ∧ cs.length ≤ 40 ∧ H t = some (.tup (ns.map V.int)) ∧ (∀ c ∈ cs, 0 ≤ c.1 ∧ c.1 < ns.length ∧ 0 ≤ c.2.1 ∧ c.2.1 < ns.length) ∧ MvA H m (.ref a) ∧ ∀ H2, Same H H2 → Q (.bl (alw9 cs ns m)) H2
theorem at9 {ns : List Int} {x : Int} (h : 0 ≤ x) (h2 : x < ns.length) : atI (ns.map V.int) x = some (.int (gi ns x)) := by
  obtain ⟨k, rfl⟩ : ∃ k : Nat, x = k := ⟨x.toNat, by omega⟩
  have hk : k < ns.length := by omega
  exact atI_nat (by rw [List.getElem?_map, List.getElem?_eq_getElem hk]; exact congrArg some (congrArg V.int (gi_at (List.getElem?_eq_getElem hk)).symm))
section
variable {P : Program} {w : World} {K : PySem.W.Frag} {mg : Str → Option Value} {base : Heap}
theorem ok_allow9 {f : Addr} {fd : FuncData} (F : Fun K "_law_is_allowed" "_law_is_allowed" s_law_is_allowed f fd) (B : Blt mg) : FnOk P w K mg base (L2.CX P w) 1 f fd ["_law_channels", "_law_here", "_law_move"] spAllow9 := by
  refine F.okX sc_law_is_allowed (fun vs H Q E h => ?_) (fun cdv A outer s H vs Q E hr h => ?_)
  · obtain ⟨C, t, a, cs, ks, ns, m, rfl, _⟩ := h
    rfl
  · obtain ⟨C, t, a, cs, ks, ns, m, rfl, hC, pk, l40, ht, rng, ⟨a', ea, ha⟩, q⟩ := h
    cases ea
    obtain ⟨st, up⟩ := m
    -- slots: 0 _law_channels, 1 _law_here, 2 _law_move*, 3 _law_end*, 4 _law_side, 5 _law_channel
    refine ⟨_, (pss_cons (ps_set (i := 3) sc_law_is_allowed.nd rfl (Or.inr rfl) (pe_ifExp (pt_cmpR op_eq (pe_ix ix_tup (pv 2) pe_int (fun _ _ => rfl)) pe_str (nomark _)) pe_int pe_int))
      (pss_cons (ps_setLc (i := 4) (own := [("_law_channel", 5)]) rfl sc_law_is_allowed.nd rfl rfl (sw_true rfl rfl rfl (by decide +kernel)) (pi_list (pv 0)) (blkOk_by (N := nn_law_is_allowed) (sc := defScope s_law_is_allowed) (own := [("_law_channel", 5)]) (by decide +kernel)) (fun _ _ _ _ _ => (pg_name (i := 5) sc_law_is_allowed.nd rfl (Or.inl rfl))) (fun _ _ _ _ _ => (pts_one (pt_cmpR op_eq (pe_ix (i_tup (K := K)) (pv 5) (pv 3) (fun _ _ => rfl)) (pe_ix (i_tup (K := K)) (pv 2) pe_int (fun _ _ => rfl)) (nomark _)))) (fun _ _ _ _ _ => (pv 5)))
      (pss_cons (ps_for (passes_of rfl) rfl (pi_list (pv 4)) (pg_name (i := 5) sc_law_is_allowed.nd rfl (Or.inl rfl))
        (pss_one (ps_if (pt_not (pt_chain op_le op_le pe_int (pe_op op_sub (pe_ix ix_tup (pv 1) (pe_ix ix_tup (pv 5) pe_int (fun _ _ => rfl)) (fun _ _ => rfl)) (pe_ix ix_tup (pv 1) (pe_ix ix_tup (pv 5) pe_int (fun _ _ => rfl)) (fun _ _ => rfl))) (pe_ix ix_tup (pv 5) pe_int (fun _ _ => rfl)))) (pss_one (ps_ret pe_bl)) pss_nil)))
      (pss_one (ps_ret (pe_cmpR op_gt (pe_callB call_len_seq (by rfl) B.len bt_len (pa_cons (pv 4) pa_nil)) pe_int (nomark _))))))), ?_⟩
    have w1 : atI [V.int st, V.str (wMv (st, up))] (1 : Int) = some (.str (wMv (st, up))) := atI_nat (j := 1) rfl
    refine seq_mid (fun σ H1 => σ = [some (.ref C), some (.ref t), some (.ref a), some (.int (if up = true then 1 else 0)), none, none] ∧ H1 = H) (fun N hN => ?_) ?_
    · refine ⟨_, rfl, a, _, _, _, rfl, rfl, SqT.of ha, w1, rfl, _, rfl, ?_⟩
      cases up with
      | true => exact iteT (hN _ _ ⟨rfl, rfl⟩)
      | false => exact iteF (hN _ _ ⟨rfl, rfl⟩)
    rintro σ H1 ⟨rfl, rfl⟩
    have w0 : atI [V.int st, V.str (wMv (st, up))] (0 : Int) = some (.int st) := atI_nat (j := 0) rfl
    have lk := pk.length
    refine ⟨_, rfl, C, rfl, ⟨_, SqL.of hC⟩, fun D hD => lc_it (walk_list (xs := ks)) (fun i H2 => Same H1 H2 ∧ ∃ js, H2 D = some (.lst js) ∧ Paired (TriA H2) (sideM (cs.take i) (st, up)) js) ⟨Same.new hD, [], upd_same, .nil⟩ (fun i H2 _ z => SqL.of (z.1 _ _ hC)) ?_ ?_⟩
    · rintro i x H2 H3 hi ⟨s2, js, hd, pj⟩ ⟨rfl, e1⟩
      obtain ⟨c, qc, T, rfl, hT⟩ := pr_at pk e1
      have ec : atI [V.int c.1, .int c.2.1, .int c.2.2] (if up = true then 1 else 0) = some (.int (if up = true then c.2.1 else c.1)) := by
        cases up
        · exact atI_nat (j := 0) rfl
        · exact atI_nat (j := 1) rfl
      have tk : sideM (cs.take (i + 1)) (st, up) = sideM (cs.take i) (st, up) ++ if (if up = true then c.2.1 else c.1) = st then [c] else [] := by
        unfold sideM
        rw [List.take_succ, qc, List.filter_append]
        congr 1
        by_cases e : (if up = true then c.2.1 else c.1) = st
        · rw [if_pos e]
          simp [List.filter, e]
        · rw [if_neg e]
          simp [List.filter, e]
      have lj := pj.length
      have lf : (sideM (cs.take i) (st, up)).length ≤ 40 := by
        refine Nat.le_trans (List.length_filter_le _ _) ?_
        rw [List.length_take]
        omega
      refine ⟨rfl, _, rfl, _, rfl, T, _, _, _, rfl, rfl, SqT.of (s2 _ _ hT), ec, _, rfl, a, _, _, _, rfl, rfl, SqT.of (s2 _ _ ha), w0, rfl, _, rfl, ite2 (fun e => ?_) (fun e => ?_)⟩
      · have e := of_decide_eq_true e
        refine ⟨_, rfl, js, hd, line_lt (by omega), Same.newer s2 hD, _, upd_same, ?_⟩
        rw [tk, if_pos (V.int.inj (by simpa using e))]
        exact pr_snoc (Paired.mapP pj fun c2 v2 ⟨t2, e1, e2⟩ => ⟨t2, e1, by rw [upd_ne (ne_of e2 hd (by intro z; cases z))]; exact e2⟩) ⟨T, rfl, by rw [upd_ne (ne_of (s2 _ _ hT) hd (by intro z; cases z))]; exact s2 _ _ hT⟩
      · refine ⟨s2, js, hd, ?_⟩
        rw [tk, if_neg (fun z => e (by simpa using z)), List.append_nil]
        exact pj
    rintro H2 ⟨s2, js, hd, pj⟩
    rw [lk.symm, List.take_of_length_le (Nat.le_refl _)] at pj
    obtain ⟨S, hS⟩ : ∃ S, S = sideM cs (st, up) := ⟨_, rfl⟩
    have mem : ∀ c ∈ S, c ∈ cs := fun c hc => by rw [hS] at hc; exact (List.mem_filter.mp hc).1
    rw [← hS] at pj
    have q : ∀ H2, Same H1 H2 → Q (.bl (S.all (fits9 ns) && decide (0 < S.length))) H2 := fun H2 s => by rw [hS]; exact q H2 s
    have lS := pj.length
    refine ⟨_, rfl, D, rfl, ⟨_, SqL.of hd⟩, for_it (walk_list (xs := js)) (fun i σ H5 => ∃ v5, σ = [some (.ref C), some (.ref t), some (.ref a), some (.int (if up = true then 1 else 0)), some (.ref D), v5] ∧ H5 = H2 ∧ (S.take i).all (fits9 ns) = true) ⟨_, rfl, rfl, rfl⟩ (fun i σ H5 _ z => ?_) ?_ ?_⟩
    · obtain ⟨_, _, rfl, _⟩ := z
      exact SqL.of hd
    · rintro i x σ H5 H6 hi ⟨v5, rfl, rfl, fa⟩ ⟨rfl, e1⟩
      obtain ⟨c, qc, T, rfl, hT⟩ := pr_at pj e1
      obtain ⟨r0, r1, r2, r3⟩ := rng c (mem c (List.mem_of_getElem? qc))
      have c0 : atI [V.int c.1, .int c.2.1, .int c.2.2] (0 : Int) = some (.int c.1) := atI_nat (j := 0) rfl
      have c1 : atI [V.int c.1, .int c.2.1, .int c.2.2] (1 : Int) = some (.int c.2.1) := atI_nat (j := 1) rfl
      have c2 : atI [V.int c.1, .int c.2.1, .int c.2.2] (2 : Int) = some (.int c.2.2) := atI_nat (j := 2) rfl
      have ht2 := s2 _ _ ht
      have tk : (S.take (i + 1)).all (fits9 ns) = fits9 ns c := by
        rw [List.take_succ, qc, List.all_append, fa]
        simp
      have bad : fits9 ns c = false → S.all (fits9 ns) = false := fun z => by
        rw [Bool.eq_false_iff]
        intro y
        rw [List.all_eq_true] at y
        rw [y c (List.mem_of_getElem? qc)] at z
        cases z
      refine ⟨_, rfl, _, rfl, T, _, _, _, rfl, rfl, SqT.of hT, c0, t, _, _, _, rfl, rfl, SqT.of ht2, at9 r0 r1, ?_⟩
      refine ⟨_, rfl, _, rfl, T, _, _, _, rfl, rfl, SqT.of hT, c1, t, _, _, _, rfl, rfl, SqT.of ht2, at9 r2 r3, _, _, rfl, rfl, ?_⟩
      have no : fits9 ns c = false → Q (.bl false) H6 := fun z => by
        have y := q H6 s2
        rw [bad z, Bool.false_and] at y
        exact y
      refine ⟨_, _, rfl, rfl, _, rfl, ite2 (fun e => ?_) (fun e => ?_)⟩
      · refine ⟨_, rfl, T, _, _, _, rfl, rfl, SqT.of hT, c2, _, _, rfl, rfl, _, rfl, ite2 (fun z => ?_) (fun z => ?_)⟩
        · refine no ?_
          unfold fits9
          simp at z
          simp; intro _; omega
        · refine ⟨_, rfl, rfl, ?_⟩
          rw [tk]
          unfold fits9
          simp at z e ⊢
          exact ⟨e, z⟩
      · refine ⟨_, rfl, ite2 (fun z => ?_) (fun z => ?_)⟩
        · refine no ?_
          unfold fits9
          simp at z e
          simp; intro _; omega
        · exact absurd z (by simp at e; simp <;> omega)
    · rintro σ H5 ⟨v5, rfl, rfl, fa⟩
      rw [← lS, List.take_of_length_le (Nat.le_refl _)] at fa
      refine ⟨_, rfl, D, _, rfl, .inl (SqL.of hd), _, _, rfl, rfl, ?_⟩
      have q2 := q H5 (s2)
      rw [fa, Bool.true_and, lS] at q2
      show Q (.bl (decide ((0 : Int) < (js.length : Int)))) H5
      rw [show decide ((0 : Int) < (js.length : Int)) = decide (0 < js.length) from decide_eq_decide.mpr (by omega)]
      exact q2
end
end WC

set_option maxHeartbeats 8000000
namespace WC
open PySem PySem.Spec PyProof.Rows L2
theorem BoxL.lst {H : Hp} {b L : Addr} {cells : List Int} (h : BoxL H b L cells) : ∃ xs, H b = some (.lst xs) := by
  obtain ⟨_, _, _, k, c, n, s, _, hb⟩ := h
  exact ⟨_, hb⟩
theorem BoxL.lstL {H : Hp} {b L : Addr} {cells : List Int} (h : BoxL H b L cells) : ∃ xs, H L = some (.lst xs) := ⟨_, h.2.1⟩
theorem BoxL.same {H H2 : Hp} {b L : Addr} {cells : List Int} (h : BoxL H b L cells) (s : Same H H2) : BoxL H2 b L cells := by
  obtain ⟨Lb, hL, hn, k, c, n, sd, hk, hb⟩ := h
  exact ⟨Lb, s _ _ hL, hn, k, c, n, sd, hk, s _ _ hb⟩
theorem SameB.freeL {b p : Addr} {H H2 : Hp} (s : SameB b H H2) (hb : ∃ xs, H2 b = some (.lst xs)) (hp : H2 p = none) : H p = none := by
  cases e : H p with
  | none => rfl
  | some o =>
    by_cases n : p = b
    · obtain ⟨xs, q⟩ := hb
      rw [n, q] at hp
      cases hp
    · rw [s _ _ e n] at hp
      cases hp
/-- a value whose tuple is f's -/
def TA {α : Type} (f : α → List V) (H : Hp) (c : α) (v : V) : Prop := ∃ t, v = .ref t ∧ H t = some (.tup (f c))
section
variable {α : Type} {f : α → List V} {H H2 H3 : Hp} {b L Z T : Addr} {cells : List Int} {ls os : List α} {ks vs : List V}
theorem ta_onB (h : Paired (TA f H) os vs) (s : SameB b H H2) (hb : ∃ xs, H b = some (.lst xs)) : Paired (TA f H2) os vs := Paired.mapP h fun _ _ ⟨t, e, ht⟩ => ⟨t, e, s _ _ ht (ne_of ht hb.choose_spec (by intro z; cases z))⟩
theorem ta_same (h : Paired (TA f H) os vs) (s : Same H H2) : Paired (TA f H2) os vs := Paired.mapP h fun _ _ ⟨t, e, ht⟩ => ⟨t, e, s _ _ ht⟩
theorem ta_set {o : HO} (h : Paired (TA f H) os vs) (hZ : H Z = some (.lst ks)) : Paired (TA f (upd H Z o)) os vs := Paired.mapP h fun _ _ ⟨t, e, ht⟩ => ⟨t, e, by rw [upd_ne (ne_of ht hZ (by intro z; cases z))]; exact ht⟩
/-- a list of such values that is being filled, while the box is drawn from -/
structure LsI {α : Type} (f : α → List V) (H : Hp) (b L Z : Addr) (cells : List Int) (H2 : Hp) (ls : List α) : Prop where
  same : SameB b H H2
  box : BoxL H2 b L cells
  nZ : H Z = none
  zb : Z ≠ b
  zl : Z ≠ L
  ex : ∃ ks, H2 Z = some (.lst ks) ∧ Paired (TA f H2) ls ks
theorem LsI.on (h : LsI f H b L Z cells H2 ls) (s : SameB b H2 H3) (hb : BoxL H3 b L cells) : LsI f H b L Z cells H3 ls := by
  obtain ⟨a, x, c, d, e, ks, hk, hp⟩ := h
  exact ⟨a.trans s, hb, c, d, e, ks, s _ _ hk d, ta_onB hp s x.lst⟩
theorem LsI.fill {xs : List V} (s : SameB b H H2) (hb : BoxL H2 b L cells) (nZ : H2 Z = none) (hp : Paired (TA f H2) ls xs) : LsI f H b L Z cells (upd H2 Z (.lst xs)) ls := by
  obtain ⟨xb, h1⟩ := hb.lst
  obtain ⟨xl, h2⟩ := hb.lstL
  have zb : Z ≠ b := (ne_of_none h1 nZ).symm
  have zl : Z ≠ L := (ne_of_none h2 nZ).symm
  have nH := s.freeL ⟨_, h1⟩ nZ
  exact ⟨s.trans (SameB.of (Same.new nZ)), hb.put zb zl, nH, zb, zl, _, upd_same, ta_same hp (Same.new nZ)⟩
theorem LsI.new (s : SameB b H H2) (hb : BoxL H2 b L cells) (nZ : H2 Z = none) : LsI f H b L Z cells (upd H2 Z (.lst [])) [] := LsI.fill s hb nZ .nil
theorem LsI.add (h : LsI f H b L Z cells H2 ls) (hZ : H2 Z = some (.lst ks)) (hp : Paired (TA f H2) ls ks) (nT : H2 T = none) (c : α) :
    upd H2 T (.tup (f c)) Z = some (.lst ks) ∧ LsI f H b L Z cells (upd (upd H2 T (.tup (f c))) Z (.lst (ks ++ [.ref T]))) (ls ++ [c]) := by
  obtain ⟨xb, h1⟩ := h.box.lst
  obtain ⟨xl, h2⟩ := h.box.lstL
  have pD : T ≠ Z := (ne_of_none hZ nT).symm
  refine ⟨by rw [upd_ne pD.symm]; exact hZ, ?_⟩
  have nTH := h.same.freeL ⟨_, h1⟩ nT
  refine ⟨fun c o e n => ?_, ((h.box.put (ne_of_none h1 nT).symm (ne_of_none h2 nT).symm).put h.zb h.zl), h.nZ, h.zb, h.zl, _, upd_same, ?_⟩
  · rw [upd_ne (ne_of_none e h.nZ), upd_ne (ne_of_none e nTH)]
    exact h.same _ _ e n
  · refine pr_snoc (Paired.mapP hp fun c2 v2 ⟨t2, e1, e2⟩ => ⟨t2, e1, ?_⟩) ⟨T, rfl, by rw [upd_ne pD, upd_same]⟩
    rw [upd_ne (ne_of e2 hZ (by intro z; cases z)), upd_ne (ne_of_none e2 nT)]
    exact e2
end
theorem pr_take {α β : Type} {F : α → β → Prop} : ∀ {l : List α} {r : List β} {k : Nat}, Paired F l r → Paired F (l.take k) (r.take k)
  | _, _, 0, _ => .nil
  | _, _, _ + 1, .nil => .nil
  | _, _, _ + 1, .cons p q => .cons p (pr_take q)
theorem cut_take (xs : List V) (k : Nat) : cutV xs none (some (k : Int)) = xs.take k := by
  unfold cutV
  have e1 : HT.sIx xs.length 0 none = 0 := rfl
  have e2 : HT.sIx xs.length xs.length (some (k : Int)) = min k xs.length := HT.sIx_nat _ _ k
  rw [e1, e2, List.drop_zero, Nat.sub_zero]
  by_cases h2 : k ≤ xs.length
  · rw [Nat.min_eq_left h2]
  · rw [Nat.min_eq_right (by omega), List.take_of_length_le (Nat.le_refl _), List.take_of_length_le (by omega)]
abbrev Pr9 := Int × Int
def f2 (c : Pr9) : List V := [.int c.1, .int c.2]
def p2D (p : Pr9) : PyData := .tuple [.int p.1, .int p.2]
theorem p2_dp {K : PySem.W.Frag} {H : Hp} : ∀ {os : List Pr9} {ks : List V}, Paired (TA f2 H) os ks → DpAll K H ks (os.map p2D)
  | _, _, .nil => .nil
  | _, _, .cons ⟨t, e, ht⟩ q => by
    subst e
    exact .cons (.tup (SqT.of ht) (.cons (.int _) (.cons (.int _) .nil))) (p2_dp q)
theorem p2_lay : ∀ os : List Pr9, PyData.canLayAll0 (os.map p2D) = true
  | [] => by simp only [List.map_nil, PyData.canLayAll0]
  | p :: os => by
    simp only [List.map_cons, p2D, PyData.canLayAll0, PyData.canLay0, Bool.and_true, Bool.true_and]
    exact p2_lay os
theorem p2_depth : ∀ os : List Pr9, PyData.depthAll (os.map p2D) ≤ 1
  | [] => by simp only [List.map_nil, PyData.depthAll]; omega
  | p :: os => by
    simp only [List.map_cons, p2D, PyData.depthAll, PyData.depth]
    have := p2_depth os
    omega
theorem p2_shaped (p : Pr9) : SeqAt.shaped (p2D p) = true := by
  unfold SeqAt.shaped p2D
  rw [Bool.and_eq_true, decide_eq_true_iff]
  refine ⟨by simp only [PyData.canLay0, PyData.canLayAll0, Bool.and_true], ?_⟩
  simp only [PyData.depth, PyData.depthAll]
  omega
theorem p2_shapedL (os : List Pr9) : SeqAt.shaped (.list (os.map p2D)) = true := by
  unfold SeqAt.shaped
  rw [Bool.and_eq_true, decide_eq_true_iff]
  refine ⟨by simp only [PyData.canLay0]; exact p2_lay os, ?_⟩
  simp only [PyData.depth]
  have := p2_depth os
  omega
theorem p2_any (p : Pr9) (os : List Pr9) : ((os.map p2D).any fun z => PyData.eqv z (p2D p)) = decide (p ∈ os) := by
  rw [Bool.eq_iff_iff, List.any_eq_true, decide_eq_true_eq]
  have one : ∀ q : Pr9, PyData.eqv (p2D q) (p2D p) = true ↔ q = p := fun q => by
    obtain ⟨a, b⟩ := q
    obtain ⟨c, d⟩ := p
    unfold p2D
    simp only [PyData.eqv, PyData.eqvAll, Bool.and_true, Bool.and_eq_true, Prod.mk.injEq]
    constructor
    · rintro ⟨h1, h2⟩
      exact ⟨by simpa using h1, by simpa using h2⟩
    · rintro ⟨h1, h2⟩
      exact ⟨by simpa using h1, by simpa using h2⟩
  refine ⟨fun ⟨y, hy, e⟩ => ?_, fun h => ⟨p2D p, List.mem_map.mpr ⟨p, h, rfl⟩, (one p).mpr rfl⟩⟩
  obtain ⟨q, hq, rfl⟩ := List.mem_map.mp hy
  rw [← (one q).mp e]
  exact hq
/-- pairs of numbers below n, the smaller one first, each once -/
def PgOk (n : Nat) (ls : List Pr9) : Prop := (∀ p ∈ ls, 0 ≤ p.1 ∧ p.1 < p.2 ∧ p.2 < n) ∧ ls.Nodup
theorem PgOk.nil {n : Nat} : PgOk n [] := ⟨fun p h => (by cases h), List.nodup_nil⟩
theorem PgOk.snoc {n : Nat} {ls : List Pr9} {a c : Int} (h : PgOk n ls) (h0 : 0 ≤ a) (h1 : a < c) (h2 : c < n) (nm : (a, c) ∉ ls) : PgOk n (ls ++ [(a, c)]) := by
  refine ⟨fun p hp => ?_, ?_⟩
  · rcases List.mem_append.mp hp with hp | hp
    · exact h.1 p hp
    · rw [List.mem_singleton.mp hp]; exact ⟨h0, h1, h2⟩
  · rw [List.nodup_append]
    exact ⟨h.2, by simp, fun x hx y hy e => nm (by rw [← List.mem_singleton.mp hy, ← e]; exact hx)⟩
theorem PgOk.take {n k : Nat} {ls : List Pr9} (h : PgOk n ls) : PgOk n (ls.take k) := ⟨fun p hp => h.1 p (List.mem_of_mem_take hp), h.2.sublist (List.take_sublist _ _)⟩
theorem PgOk.perm {n : Nat} {ls l2 : List Pr9} (h : PgOk n ls) (p : l2.Perm ls) : PgOk n l2 := ⟨fun x hx => h.1 x (p.mem_iff.mp hx), p.nodup_iff.mpr h.2⟩
def mir9 (n : Nat) (p : Pr9) : Pr9 := ((n : Int) - 1 - p.2, (n : Int) - 1 - p.1)
theorem PgOk.mir {n : Nat} {ls : List Pr9} (h : PgOk n ls) : PgOk n (ls.map (mir9 n)) := by
  refine ⟨fun p hp => ?_, ?_⟩
  · obtain ⟨q, hq, rfl⟩ := List.mem_map.mp hp
    have := h.1 q hq
    unfold mir9
    dsimp only
    omega
  · unfold List.Nodup
    rw [List.pairwise_map]
    refine h.2.imp fun {a c} e z => e ?_
    unfold mir9 at z
    rw [Prod.mk.injEq] at z
    exact Prod.ext (by omega) (by omega)
def spPairs9 : Sp := fun vs H Q _ => ∃ (b L : Addr) (cells : List Int) (n : Nat), vs = [.ref b, .int n] ∧ BoxL H b L cells ∧ 1 ≤ n ∧ n ≤ 40 ∧ ∀ (Z : Addr) ls H2, LsI f2 H b L Z cells H2 ls → PgOk n ls → ls.length ≤ 12 → Q (.ref Z) H2
section
variable {P : Program} {w : World} {K : PySem.W.Frag} {mg : Str → Option Value} {base : Heap}
end
end WC

set_option maxHeartbeats 8000000
namespace WC
open PySem PySem.Spec PyProof.Rows L2
theorem len_succ {α : Type} {l : List α} {n : Nat} (h : l.length = n + 1) : ∃ a t, l = a :: t ∧ t.length = n := by
  cases l with
  | nil => simp at h
  | cons a t => exact ⟨a, t, rfl, by simpa using h⟩
theorem len_ne {A B : Prop} {n : Nat} {k : Int} (h : (n : Int) ≠ k) (b : B) : if decide (V.int n = V.int k) = true then A else B := by
  rw [decide_eq_false (fun z => h (V.int.inj z))]
  exact iteF b
theorem len_eq {A B : Prop} {n : Nat} {k : Int} (h : (n : Int) = k) (a : A) : if decide (V.int n = V.int k) = true then A else B := by
  rw [decide_eq_true (congrArg V.int h)]
  exact iteT a
theorem mk_same {H H1 H2 : Hp} {x dx C : Addr} (s : Same H H1) (hx : H1 x = none) (hdx : H1 dx = none) (h : ∀ b o, upd (upd H1 dx (.own x)) x (.ins C dx []) b = some o → b ≠ x → H2 b = some o) : Same H H2 := fun b o e => by
  have e1 := s b o e
  have n1 := ne_of_none e1 hx
  exact h b o (by rw [upd_ne n1, upd_ne (ne_of_none e1 hdx)]; exact e1) n1
theorem mk_tri {H H1 : Hp} {x dx C : Addr} {cs : List Tri} {ws : List V} (s : Same H H1) (hx : H1 x = none) (hdx : H1 dx = none) (h : Paired (TriA H) cs ws) : Paired (TriA (upd (upd H1 dx (.own x)) x (.ins C dx []))) cs ws :=
  Paired.mapP h fun c v ⟨t, e1, e2⟩ => ⟨t, e1, by
    have e3 := s _ _ e2
    rw [upd_ne (ne_of_none e3 hx), upd_ne (ne_of_none e3 hdx)]
    exact e3⟩
def Made (C : Addr) (n : Nat) (cs : List Tri) (H : Hp) (Q : VK) : Prop := ∀ H2 x, Same H H2 → H x = none → NetAt H2 x C n cs → Q (.ref x) H2
theorem ring_use {H H1 : Hp} {C : Addr} {ns : List Int} {Q : VK} {E : XK} (s : Same H H1) (hc : CapsOk ns) (h3 : 3 ≤ ns.length) (hn : ns.length ≤ 40) (k : Made C ns.length (ringOf ns) H Q) :
    ∀ x dx, H1 x = none → H1 dx = none → dx ≠ x → spRing C (V.ref x :: ns.map V.int) (upd (upd H1 dx (.own x)) x (.ins C dx [])) (fun v H2 => v = .non ∧ Q (.ref x) H2) E := fun x dx hx hdx hne =>
  ⟨x, dx, ns, rfl, upd_same, hc, h3, hn, fun H2 fr N => ⟨rfl, k H2 x (mk_same s hx hdx fr) (s.free hx) N⟩⟩
theorem pipe_use9 {H H1 : Hp} {C : Addr} {n : Nat} {cs : List Tri} {ws : List V} {Q : VK} {E : XK} (s : Same H H1) (h1 : 1 ≤ n) (hn : n ≤ 40) (hp : Paired (TriA H) cs ws) (ok : ∀ c ∈ cs, ChOk n c) (nd : (cs.map pairOf).Nodup) (ac : Acyc cs) (ll : cs.length ≤ 60) (k : ∀ cs2, cs2.Perm cs → cs2.Pairwise (fun a b => key a ≤ key b) → Made C n cs2 H Q) :
    ∀ x dx, H1 x = none → H1 dx = none → dx ≠ x → spPipe C (V.ref x :: V.int n :: ws) (upd (upd H1 dx (.own x)) x (.ins C dx [])) (fun v H2 => v = .non ∧ Q (.ref x) H2) E := fun x dx hx hdx hne =>
  ⟨x, dx, n, cs, ws, rfl, upd_same, h1, hn, mk_tri s hx hdx hp, ok, nd, ac, ll, fun H2 cs2 p srt fr N => ⟨rfl, k cs2 p srt H2 x (mk_same s hx hdx fr) (s.free hx) N⟩⟩
def spPipe9 (C : Addr) : Sp := fun vs H Q _ => ∃ (l : Addr) (n : Nat) (cs : List Tri) (ws : List V), vs = [.int n, .ref l] ∧ 1 ≤ n ∧ n ≤ 40 ∧ H l = some (.lst ws) ∧ Paired (TriA H) cs ws ∧ (∀ c ∈ cs, ChOk n c) ∧ (cs.map pairOf).Nodup ∧ Acyc cs ∧ cs.length ≤ 12 ∧ ∀ cs2, cs2.Perm cs → cs2.Pairwise (fun a b => key a ≤ key b) → Made C n cs2 H Q
def spRing9 (C : Addr) : Sp := fun vs H Q _ => ∃ (l : Addr) (ns : List Int), vs = [.ref l] ∧ H l = some (.lst (ns.map V.int)) ∧ CapsOk ns ∧ 3 ≤ ns.length ∧ ns.length ≤ 5 ∧ Made C ns.length (ringOf ns) H Q
section
variable {P : Program} {w : World} {K : PySem.W.Frag} {mg : Str → Option Value} {base : Heap}
theorem ok_ring9 {f C : Addr} {fd : FuncData} (F : Fun K "_law_ring" "_law_ring" s_law_ring f fd) (B : Blt mg) (gR : mg "Ring" = some (.ref C)) (DR : ClsR P w K mg base C 4 (spRing C)) : FnOk P w K mg base (L2.CX P w) 6 f fd ["_law_row"] (spRing9 C) := by
  refine F.okX sc_law_ring (fun vs H Q E h => ?_) (fun cdv A outer s H vs Q E hr h => ?_)
  · obtain ⟨l, ns, rfl, _⟩ := h
    rfl
  · obtain ⟨l, ns, rfl, hl, hc, n3, n12, q⟩ := h
    have lm : (ns.map V.int).length = ns.length := List.length_map ..
    refine ⟨_, (pss_cons (ps_if (pt_cmpR op_eq (pe_callB call_len_seq (by rfl) B.len bt_len (pa_cons (pv 0) pa_nil)) pe_int (nomark _)) (pss_one (ps_ret (pe_cc DR gR hr psE (pa_cons (pe_ix ix_list (pv 0) pe_int (fun _ _ => rfl)) (pa_cons (pe_ix ix_list (pv 0) pe_int (fun _ _ => rfl)) (pa_cons (pe_ix ix_list (pv 0) pe_int (fun _ _ => rfl)) pa_nil)))))) pss_nil)
      (pss_cons (ps_if (pt_cmpR op_eq (pe_callB call_len_seq (by rfl) B.len bt_len (pa_cons (pv 0) pa_nil)) pe_int (nomark _)) (pss_one (ps_ret (pe_cc DR gR hr psE (pa_cons (pe_ix ix_list (pv 0) pe_int (fun _ _ => rfl)) (pa_cons (pe_ix ix_list (pv 0) pe_int (fun _ _ => rfl)) (pa_cons (pe_ix ix_list (pv 0) pe_int (fun _ _ => rfl)) (pa_cons (pe_ix ix_list (pv 0) pe_int (fun _ _ => rfl)) pa_nil))))))) pss_nil)
      (pss_one (ps_ret (pe_cc DR gR hr psE (pa_cons (pe_ix ix_list (pv 0) pe_int (fun _ _ => rfl)) (pa_cons (pe_ix ix_list (pv 0) pe_int (fun _ _ => rfl)) (pa_cons (pe_ix ix_list (pv 0) pe_int (fun _ _ => rfl)) (pa_cons (pe_ix ix_list (pv 0) pe_int (fun _ _ => rfl)) (pa_cons (pe_ix ix_list (pv 0) pe_int (fun _ _ => rfl)) pa_nil)))))))))), ?_⟩
    refine ⟨_, rfl, l, _, rfl, .inl (SqL.of hl), rfl, _, rfl, ?_⟩
    by_cases e3 : ns.length = 3
    · refine len_eq (by omega) ?_
      obtain ⟨a0, w0, g0, z0⟩ := len_succ e3
      subst g0
      obtain ⟨a1, w1, g1, z1⟩ := len_succ z0
      subst g1
      obtain ⟨a2, w2, g2, z2⟩ := len_succ z1
      subst g2
      obtain rfl := List.length_eq_zero_iff.mp z2
      exact ⟨_, rfl, l, _, _, _, rfl, rfl, SqL.of hl, atI_nat (j := 0) rfl, _, rfl, l, _, _, _, rfl, rfl, SqL.of hl, atI_nat (j := 1) rfl, _, rfl, l, _, _, _, rfl, rfl, SqL.of hl, atI_nat (j := 2) rfl, ring_use (ns := [a0, a1, a2]) (Same.refl H) hc n3 (by omega) q⟩
    refine len_ne (by omega) ?_
    refine ⟨_, rfl, l, _, rfl, .inl (SqL.of hl), rfl, _, rfl, ?_⟩
    by_cases e4 : ns.length = 4
    · refine len_eq (by omega) ?_
      obtain ⟨a0, w0, g0, z0⟩ := len_succ e4
      subst g0
      obtain ⟨a1, w1, g1, z1⟩ := len_succ z0
      subst g1
      obtain ⟨a2, w2, g2, z2⟩ := len_succ z1
      subst g2
      obtain ⟨a3, w3, g3, z3⟩ := len_succ z2
      subst g3
      obtain rfl := List.length_eq_zero_iff.mp z3
      exact ⟨_, rfl, l, _, _, _, rfl, rfl, SqL.of hl, atI_nat (j := 0) rfl, _, rfl, l, _, _, _, rfl, rfl, SqL.of hl, atI_nat (j := 1) rfl, _, rfl, l, _, _, _, rfl, rfl, SqL.of hl, atI_nat (j := 2) rfl, _, rfl, l, _, _, _, rfl, rfl, SqL.of hl, atI_nat (j := 3) rfl, ring_use (ns := [a0, a1, a2, a3]) (Same.refl H) hc n3 (by omega) q⟩
    refine len_ne (by omega) ?_
    have e5 : ns.length = 5 := by have := n12; omega
    obtain ⟨a0, w0, g0, z0⟩ := len_succ e5
    subst g0
    obtain ⟨a1, w1, g1, z1⟩ := len_succ z0
    subst g1
    obtain ⟨a2, w2, g2, z2⟩ := len_succ z1
    subst g2
    obtain ⟨a3, w3, g3, z3⟩ := len_succ z2
    subst g3
    obtain ⟨a4, w4, g4, z4⟩ := len_succ z3
    subst g4
    obtain rfl := List.length_eq_zero_iff.mp z4
    exact ⟨_, rfl, l, _, _, _, rfl, rfl, SqL.of hl, atI_nat (j := 0) rfl, _, rfl, l, _, _, _, rfl, rfl, SqL.of hl, atI_nat (j := 1) rfl, _, rfl, l, _, _, _, rfl, rfl, SqL.of hl, atI_nat (j := 2) rfl, _, rfl, l, _, _, _, rfl, rfl, SqL.of hl, atI_nat (j := 3) rfl, _, rfl, l, _, _, _, rfl, rfl, SqL.of hl, atI_nat (j := 4) rfl, ring_use (ns := [a0, a1, a2, a3, a4]) (Same.refl H) hc n3 (by omega) q⟩
end
end WC

set_option maxHeartbeats 8000000
namespace WC
open PySem PySem.Spec PyProof.Rows L2
def f3 (c : Tri) : List V := [.int c.1, .int c.2.1, .int c.2.2]
theorem RowsA.onB {H H2 : Hp} {b r : Addr} {n : Nat} {es : List Int} (h : RowsA H r n es) (s : SameB b H H2) (hb : ∃ xs, H b = some (.lst xs)) : RowsA H2 r n es := by
  obtain ⟨xs, hb⟩ := hb
  obtain ⟨ts, h1, h2, h3⟩ := h
  exact ⟨ts, s _ _ h1 (ne_of h1 hb (by intro z; cases z)), h2, fun j v e => let ⟨t, e1, e2⟩ := h3 j v e; ⟨t, e1, s _ _ e2 (ne_of e2 hb (by intro z; cases z))⟩⟩
theorem NetAt.onB {H H2 : Hp} {b x C : Addr} {n : Nat} {cs : List Tri} (h : NetAt H x C n cs) (s : SameB b H H2) (hb : ∃ xs, H b = some (.lst xs)) : NetAt H2 x C n cs := by
  obtain ⟨dx, tc, ti, to, vs, h1, h2, h3, h4, h5⟩ := h.ex
  have h3 : Paired (TA f3 H) cs vs := h3
  exact ⟨dx, tc, ti, to, vs, s _ _ h1 (ne_of h1 hb.choose_spec (by intro z; cases z)), s _ _ h2 (ne_of h2 hb.choose_spec (by intro z; cases z)), ta_onB h3 s hb, h4.onB s hb, h5.onB s hb⟩
def RgOk (n : Nat) (cs : List Tri) : Prop := ∀ j : Nat, j < n → ∃ c ∈ cs, c.1 = (j : Int) ∧ c.2.1 = ((j : Int) + 1) % (n : Int)
theorem rg_ring (zs : List Int) : RgOk zs.length (ringOf zs) := fun j hj => ⟨_, List.mem_of_getElem? (ringOf_at (List.getElem?_eq_getElem hj)), rfl, rfl⟩
def RgUn (n : Nat) (cs : List Tri) : Prop := ∀ c ∈ cs, c.2.1 = (c.1 + 1) % (n : Int)
theorem un_ring (zs : List Int) : RgUn zs.length (ringOf zs) := fun c hc => by
  obtain ⟨i, hi⟩ := List.mem_iff_getElem?.mp hc
  have l := (List.getElem?_eq_some_iff.mp hi).1
  rw [ringOf_len] at l
  rw [ringOf_at (List.getElem?_eq_getElem l)] at hi
  rw [← Option.some.inj hi]
def Live (n : Nat) (cs : List Tri) (ring : Bool) : Prop := (ring = true → RgOk n cs ∧ RgUn n cs) ∧ (ring = false → Acyc cs)
/-- a world of the law: the net's kind, its stages, its channels in order, others, the net -/
structure World9 (H : Hp) (b CP CR wr C x : Addr) (ring : Bool) (n : Nat) (cs hs : List Tri) : Prop where
  kc : KC CP CR C ring
  ok : NOk n cs
  l12 : cs.length ≤ 12
  hok : ∀ c ∈ hs, ChOk n c
  h12 : hs.length ≤ 12
  net : NetAt H x C n cs
  wb : wr ≠ b
  ex : ∃ cl hl ks k2, H wr = some (.lst [.bl ring, .int n, .ref cl, .ref hl, .ref x]) ∧ H cl = some (.lst ks) ∧ Paired (TA f3 H) cs ks ∧ cl ≠ b ∧ H hl = some (.lst k2) ∧ Paired (TA f3 H) hs k2 ∧ hl ≠ b
theorem World9.on {H H2 : Hp} {b CP CR wr C x : Addr} {ring : Bool} {n : Nat} {cs hs : List Tri} (h : World9 H b CP CR wr C x ring n cs hs) (s : SameB b H H2) (hb : ∃ xs, H b = some (.lst xs)) : World9 H2 b CP CR wr C x ring n cs hs := by
  obtain ⟨a1, a2, a3, a4, a5, a6, a7, cl, hl, ks, k2, h1, h2, h3, h4, h5, h6, h7⟩ := h
  exact ⟨a1, a2, a3, a4, a5, a6.onB s hb, a7, cl, hl, ks, k2, s _ _ h1 a7, s _ _ h2 h4, ta_onB h3 s hb, h4, s _ _ h5 h7, ta_onB h6 s hb, h7⟩
theorem World9.same {H H2 : Hp} {b CP CR wr C x : Addr} {ring : Bool} {n : Nat} {cs hs : List Tri} (h : World9 H b CP CR wr C x ring n cs hs) (s : Same H H2) : World9 H2 b CP CR wr C x ring n cs hs := by
  obtain ⟨a1, a2, a3, a4, a5, a6, a7, cl, hl, ks, k2, h1, h2, h3, h4, h5, h6, h7⟩ := h
  exact ⟨a1, a2, a3, a4, a5, a6.same s, a7, cl, hl, ks, k2, s _ _ h1, s _ _ h2, ta_same h3 s, h4, s _ _ h5, ta_same h6 s, h7⟩
theorem cut_last (xs : List V) : cutV xs none (some (-1)) = xs.take (xs.length - 1) := by
  unfold cutV
  have e1 : HT.sIx xs.length 0 none = 0 := rfl
  have e2 : HT.sIx xs.length xs.length (some (-1)) = xs.length - 1 := by
    show (if (-1 : Int) < 0 then ((-1 : Int) + (xs.length : Int)).toNat else min (-1 : Int).toNat xs.length) = _
    rw [if_pos (by decide)]
    omega
  rw [e1, e2, List.drop_zero, Nat.sub_zero]
theorem cut_drop (xs : List V) (k : Nat) : cutV xs (some (k : Int)) none = xs.drop k := by
  unfold cutV
  have e1 : HT.sIx xs.length xs.length none = xs.length := rfl
  have e2 : HT.sIx xs.length 0 (some (k : Int)) = min k xs.length := HT.sIx_nat _ _ k
  rw [e1, e2]
  by_cases h : k ≤ xs.length
  · rw [Nat.min_eq_left h, List.take_of_length_le (by rw [List.length_drop]; exact Nat.le_refl _)]
  · rw [Nat.min_eq_right (by omega), List.drop_of_length_le (Nat.le_refl _), List.drop_of_length_le (by omega), List.take_nil]
theorem pr_drop {α β : Type} {F : α → β → Prop} : ∀ {l : List α} {r : List β} {k : Nat}, Paired F l r → Paired F (l.drop k) (r.drop k)
  | _, _, 0, h => h
  | _, _, _ + 1, .nil => .nil
  | _, _, k + 1, .cons p q => pr_drop (k := k) q
theorem pr_app9 {α β : Type} {F : α → β → Prop} : ∀ {l l2 : List α} {r r2 : List β}, Paired F l r → Paired F l2 r2 → Paired F (l ++ l2) (r ++ r2)
  | _, _, _, _, .nil, h => h
  | _, _, _, _, .cons p q, h => .cons p (pr_app9 q h)
theorem strict9 {n : Nat} {cs : List Tri} (hn : n ≤ 40) (ok : ∀ c ∈ cs, ChOk n c) (nd : (cs.map pairOf).Nodup) (srt : cs.Pairwise fun a b => key a ≤ key b) : cs.Pairwise fun a b => key a < key b := by
  have nd : cs.Pairwise fun a b => pairOf a ≠ pairOf b := by
    rw [List.Nodup, List.pairwise_map] at nd
    exact nd
  refine List.Pairwise.imp_of_mem (fun {a b} ma mb z => ?_) (srt.and nd)
  obtain ⟨z1, z2⟩ := z
  obtain ⟨⟨a1, a2⟩, ⟨a3, a4⟩, _, a5, a6⟩ := ok a ma
  obtain ⟨⟨b1, b2⟩, ⟨b3, b4⟩, _, b5, b6⟩ := ok b mb
  have z3 : ¬ (a.1 = b.1 ∧ a.2.1 = b.2.1) := fun ⟨e1, e2⟩ => z2 (by unfold pairOf; rw [e1, e2])
  unfold key at z1 ⊢
  omega
theorem PermN.nodup {n : Nat} {ks : List Int} (h : PermN n ks) : ks.Nodup := by
  have hl := h.len
  unfold List.Nodup
  rw [List.pairwise_iff_getElem]
  intro i j hi hj hij e
  have := h.inj i j (by omega) (by omega) (by rw [List.getElem?_eq_getElem hi, List.getElem?_eq_getElem hj, e])
  omega
theorem PermN.gi {n : Nat} {ks : List Int} (h : PermN n ks) {k : Int} (h0 : 0 ≤ k) (h1 : k < n) : ∃ j : Nat, k = j ∧ ks[j]? = some (gi ks k) ∧ 0 ≤ gi ks k ∧ gi ks k < n := by
  have hl := h.len
  obtain ⟨j, rfl⟩ : ∃ j : Nat, k = j := ⟨k.toNat, by omega⟩
  have hj : j < ks.length := by omega
  have e : ks[j]? = some (WC.gi ks (j : Int)) := by rw [List.getElem?_eq_getElem hj]; exact congrArg some (gi_at (List.getElem?_eq_getElem hj)).symm
  have := h.rng _ (List.mem_of_getElem? e)
  exact ⟨j, rfl, e, this.1, this.2⟩
/-- the pairs with their stages' labels -/
def labP (ts : List Int) (p : Pr9) : Pr9 := (gi ts p.1, gi ts p.2)
theorem flow_good {n : Nat} {ts : List Int} {ls : List Pr9} {cs : List Tri} (pm : PermN n ts) (pg : PgOk n ls) (e : cs.map pairOf = ls.map (labP ts)) (hr : ∀ c ∈ cs, 1 ≤ c.2.2 ∧ c.2.2 ≤ 999) : (∀ c ∈ cs, ChOk n c) ∧ (cs.map pairOf).Nodup ∧ Acyc cs := by
  have one : ∀ c ∈ cs, ∃ p ∈ ls, c.1 = gi ts p.1 ∧ c.2.1 = gi ts p.2 := fun c hc => by
    have h : pairOf c ∈ ls.map (labP ts) := by rw [← e]; exact List.mem_map_of_mem hc
    obtain ⟨p, hp, q⟩ := List.mem_map.mp h
    have q := Prod.mk.inj q
    exact ⟨p, hp, q.1.symm, q.2.symm⟩
  refine ⟨fun c hc => ?_, ?_, ?_⟩
  · obtain ⟨p, hp, e1, e2⟩ := one c hc
    obtain ⟨p0, p1, p2⟩ := pg.1 p hp
    obtain ⟨i, hi, ei, i0, i1⟩ := pm.gi p0 (by omega)
    obtain ⟨j, hj, ej, j0, j1⟩ := pm.gi (k := p.2) (by omega) p2
    refine ⟨by rw [e1]; exact ⟨i0, i1⟩, by rw [e2]; exact ⟨j0, j1⟩, fun z => ?_, hr c hc⟩
    rw [e1, e2] at z
    have := pm.inj i j (by omega) (by omega) (by rw [ei, ej, z])
    omega
  · rw [e]
    unfold List.Nodup
    rw [List.pairwise_map]
    refine List.Pairwise.imp_of_mem (fun {a c} ma mc e z => e ?_) pg.2
    have z := Prod.mk.inj z
    obtain ⟨p0, p1, p2⟩ := pg.1 a ma
    obtain ⟨q0, q1, q2⟩ := pg.1 c mc
    have eq : ∀ {x y : Int}, 0 ≤ x → x < n → 0 ≤ y → y < n → gi ts x = gi ts y → x = y := fun {x y} x0 x1 y0 y1 w => by
      obtain ⟨i, hi, ei, _⟩ := pm.gi x0 x1
      obtain ⟨j, hj, ej, _⟩ := pm.gi y0 y1
      have := pm.inj i j (by omega) (by omega) (by rw [ei, ej, w])
      omega
    exact Prod.ext (eq p0 (by omega) q0 (by omega) z.1) (eq (by omega) p2 (by omega) q2 z.2)
  · refine acyc_of pm.nodup fun c hc => ?_
    obtain ⟨p, hp, e1, e2⟩ := one c hc
    obtain ⟨p0, p1, p2⟩ := pg.1 p hp
    obtain ⟨i, hi, ei, i0, i1⟩ := pm.gi p0 (by omega)
    obtain ⟨j, hj, ej, j0, j1⟩ := pm.gi (k := p.2) (by omega) p2
    exact ⟨⟨i, j, by omega, by rw [e1]; exact ei, by rw [e2]; exact ej⟩, hr c hc⟩
theorem sameB_add {D T : Addr} {H2 : Hp} {o o2 : HO} (nT : H2 T = none) : SameB D H2 (upd (upd H2 T o) D o2) := ((SameB.refl D H2).put nT).upd
def spWorld9 (CP CR : Addr) : Sp := fun vs H Q _ => ∃ (b L : Addr) (cells : List Int), vs = [.ref b] ∧ BoxL H b L cells ∧ ∀ (wr C x : Addr) (ring : Bool) (n : Nat) (cs hs : List Tri) H2, SameB b H H2 → BoxL H2 b L cells → World9 H2 b CP CR wr C x ring n cs hs → Q (.ref wr) H2
section
variable {P : Program} {w : World} {K : PySem.W.Frag} {mg : Str → Option Value} {base : Heap}
end
end WC

set_option maxHeartbeats 8000000
namespace WC
open PySem PySem.Spec PyProof.Rows L2
def spStart9 (CP CR : Addr) : Sp := fun vs H Q _ => ∃ (b L : Addr) (cells : List Int) (wr C x : Addr) (ring : Bool) (n : Nat) (cs hs : List Tri), vs = [.ref b, .ref wr] ∧ BoxL H b L cells ∧ World9 H b CP CR wr C x ring n cs hs ∧ ∀ (t : Addr) ns H2, SameB b H H2 → BoxL H2 b L cells → H2 t = some (.tup (ns.map V.int)) → StOk n ns → Q (.ref t) H2
/-- numbers in a range -/
def InR (hi : Int) (ns : List Int) : Prop := ∀ c ∈ ns, 0 ≤ c ∧ c ≤ hi
theorem InR.snoc {hi c : Int} {ns : List Int} (h : InR hi ns) (h0 : 0 ≤ c) (h1 : c ≤ hi) : InR hi (ns ++ [c]) := fun x hx => by
  rcases List.mem_append.mp hx with z | z
  · exact h x z
  · rw [List.mem_singleton.mp z]; exact ⟨h0, h1⟩
theorem InR.set {hi c : Int} {ns : List Int} {i : Nat} (h : InR hi ns) (h0 : 0 ≤ c) (h1 : c ≤ hi) : InR hi (ns.set i c) := fun x hx => by
  rcases List.mem_or_eq_of_mem_set hx with z | z
  · exact h x z
  · rw [z]; exact ⟨h0, h1⟩
section
variable {P : Program} {w : World} {K : PySem.W.Frag} {mg : Str → Option Value} {base : Heap}
end
end WC

set_option maxHeartbeats 8000000
namespace WC
open PySem PySem.Spec PyProof.Rows L2
theorem slA_use {K : PySem.W.Frag} {H : Hp} {a : Addr} {xs ys : List V} {lo hi : Option Int} {Q : VK} (h : H a = some (.tup xs)) (e : cutV xs lo hi = ys) (k : ∀ p H2, Same H H2 → H2 p = some (.tup ys) → Q (.ref p) H2) : rSlA K (.ref a) lo hi H Q := by
  refine ⟨a, xs, rfl, SqT.of h, fun ⟨e1, e2⟩ => k a H (Same.refl H) ?_, fun _ p hp => k p _ (Same.new hp) (by rw [upd_same, e])⟩
  rw [h, ← e]
  unfold cutV
  rw [e1, e2, List.drop_zero, Nat.sub_zero, List.take_length]
theorem catA_use {K : PySem.W.Frag} {H : Hp} {a b : Addr} {xs ys zs : List V} {Q : VK} (ha : H a = some (.tup xs)) (hb : H b = some (.tup ys)) (hl : xs.length + ys.length ≤ 100000) (e : xs ++ ys = zs) (k : ∀ p H2, Same H H2 → H2 p = some (.tup zs) → Q (.ref p) H2) : rCatA K (.ref a) (.ref b) H Q := by
  refine ⟨a, b, xs, ys, rfl, rfl, SqT.of ha, SqT.of hb, line_of hl, fun e1 => k b H (Same.refl H) ?_, fun _ e2 => k a H (Same.refl H) ?_, fun _ _ p hp => k p _ (Same.new hp) (by rw [upd_same, e])⟩
  · rw [hb, ← e, e1]; rfl
  · rw [ha, ← e, e2, List.append_nil]
/-- ns with x at k -/
theorem cut3 {ns : List Int} {k : Nat} (h : k < ns.length) (x : Int) : (ns.take k).map V.int ++ [V.int x] ++ (ns.drop (k + 1)).map V.int = (ns.set k x).map V.int := by
  rw [List.set_eq_take_append_cons_drop, if_pos h, List.map_append, List.append_assoc]
  rfl
def stp9 (ns : List Int) (m : Mv9) : List Int := ns.set m.1.toNat (gi ns m.1 + if m.2 = true then 1 else -1)
def fM (m : Mv9) : List V := [.int m.1, .str (wMv m)]
def fS (ns : List Int) : List V := ns.map V.int
theorem stp9_len (ns : List Int) (m : Mv9) : (stp9 ns m).length = ns.length := List.length_set
/-- an allowed move keeps a state's numbers within their range -/
theorem stp9_ok {n : Nat} {cs : List Tri} {ns : List Int} {m : Mv9} (ok : ∀ c ∈ cs, ChOk n c) (h : StOk n ns) (ha : alw9 cs ns m = true) : StOk n (stp9 ns m) ∧ 0 ≤ m.1 ∧ m.1 < n := by
  obtain ⟨st, up⟩ := m
  unfold alw9 at ha
  rw [Bool.and_eq_true, List.all_eq_true] at ha
  obtain ⟨h1, h2⟩ := ha
  have h2 := of_decide_eq_true h2
  obtain ⟨c, hc⟩ : ∃ c, c ∈ sideM cs (st, up) := List.exists_mem_of_length_pos h2
  have hf := h1 c hc
  unfold sideM at hc
  obtain ⟨hm, he⟩ := List.mem_filter.mp hc
  have he := of_decide_eq_true he
  dsimp only at he
  obtain ⟨⟨b1, b2⟩, ⟨b3, b4⟩, _, b5, b6⟩ := ok c hm
  obtain ⟨hl, hr⟩ := h
  have val : ∀ {x : Int}, 0 ≤ x → x < n → 0 ≤ gi ns x ∧ gi ns x ≤ 999 := fun {x} x0 x1 => by
    obtain ⟨k, rfl⟩ : ∃ k : Nat, x = k := ⟨x.toNat, by omega⟩
    have hk : k < ns.length := by omega
    rw [gi_at (List.getElem?_eq_getElem hk)]
    exact hr _ (List.getElem_mem hk)
  have v1 := val b1 b2
  have v2 := val b3 b4
  unfold fits9 at hf
  rw [Bool.and_eq_true] at hf
  have f1 := of_decide_eq_true hf.1
  have f2 := of_decide_eq_true hf.2
  have rg : 0 ≤ st ∧ st < n := by
    cases up
    · simp at he; omega
    · simp at he; omega
  refine ⟨⟨by rw [stp9_len]; exact hl, fun x hx => ?_⟩, rg⟩
  unfold stp9 at hx
  rcases List.mem_or_eq_of_mem_set hx with z | z
  · exact hr x z
  · rw [z]
    dsimp only
    cases up
    · simp at he
      rw [if_neg (by decide), ← he]
      omega
    · simp at he
      rw [if_pos rfl, ← he]
      omega
def spAfter9 : Sp := fun vs H Q _ => ∃ (t a : Addr) (ns : List Int) (m : Mv9), vs = [.ref t, .ref a] ∧ H t = some (.tup (ns.map V.int)) ∧ MvA H m (.ref a) ∧ 0 ≤ m.1 ∧ m.1 < ns.length ∧ ns.length ≤ 40 ∧ ∀ p H2, Same H H2 → H2 p = some (.tup ((stp9 ns m).map V.int)) → Q (.ref p) H2
section
variable {P : Program} {w : World} {K : PySem.W.Frag} {mg : Str → Option Value} {base : Heap}
theorem ok_after9 {f : Addr} {fd : FuncData} (F : Fun K "_law_after" "_law_after" s_law_after f fd) : FnOk P w K mg base (L2.CX P w) 1 f fd ["_law_here", "_law_move"] spAfter9 := by
  refine F.okX sc_law_after (fun vs H Q E h => ?_) (fun cdv A outer s H vs Q E hr h => ?_)
  · obtain ⟨t, a, ns, m, rfl, _⟩ := h
    rfl
  · obtain ⟨t, a, ns, ⟨st, up⟩, rfl, ht, ⟨a', ea, ha⟩, m0, m1, n40, q⟩ := h
    cases ea
    dsimp only at m0 m1
    obtain ⟨k, rfl⟩ : ∃ k : Nat, st = k := ⟨st.toNat, by omega⟩
    have hk : k < ns.length := by omega
    -- slots: 0 _law_here, 1 _law_move, 2 _law_change
    refine ⟨_, (pss_cons (ps_set (i := 2) sc_law_after.nd rfl (Or.inl rfl) (pe_ifExp (pt_cmpR op_eq (pe_ix ix_tup (pv 1) pe_int (fun _ _ => rfl)) pe_str (nomark _)) pe_int (pe_un un_neg pe_int)))
      (pss_one (ps_ret (pe_op op_catA (pe_op op_catA (pe_slice sl_tupA (pv 0) po_none (po_some (pe_ix ix_tup (pv 1) pe_int (fun _ _ => rfl)))) (pe_tup (pa_cons (pe_op op_add (pe_ix ix_tup (pv 0) (pe_ix ix_tup (pv 1) pe_int (fun _ _ => rfl)) (fun _ _ => rfl)) (pv 2)) pa_nil))) (pe_slice sl_tupA (pv 0) (po_some (pe_op op_add (pe_ix ix_tup (pv 1) pe_int (fun _ _ => rfl)) pe_int)) po_none))))), ?_⟩
    have w1 : atI [V.int k, V.str (wMv ((k : Int), up))] (1 : Int) = some (.str (wMv ((k : Int), up))) := atI_nat (j := 1) rfl
    have w0 : atI [V.int k, V.str (wMv ((k : Int), up))] (0 : Int) = some (.int k) := atI_nat (j := 0) rfl
    refine seq_mid (fun σ H1 => σ = [some (.ref t), some (.ref a), some (.int (if up = true then 1 else -1))] ∧ H1 = H) (fun N hN => ?_) ?_
    · refine ⟨_, rfl, a, _, _, _, rfl, rfl, SqT.of ha, w1, rfl, _, rfl, ?_⟩
      cases up with
      | true => exact iteT (hN _ _ ⟨rfl, rfl⟩)
      | false => exact iteF ⟨_, rfl, hN _ _ ⟨rfl, rfl⟩⟩
    rintro σ H1 ⟨rfl, rfl⟩
    refine ⟨_, rfl, _, rfl, a, _, _, _, rfl, rfl, SqT.of ha, w0, _, rfl, slA_use ht (ys := (ns.take k).map V.int) (by rw [cut_take, List.map_take]) fun p1 H2 s2 h2 => ?_⟩
    refine ⟨_, rfl, _, rfl, a, _, _, _, rfl, rfl, SqT.of (s2 _ _ ha), w0, t, _, _, _, rfl, rfl, SqT.of (s2 _ _ ht), at9 m0 m1, _, rfl, _, _, rfl, rfl, by show 1 ≤ sizeLine; decide, fun p2 np2 => ?_⟩
    obtain ⟨v, ev⟩ : ∃ v : Int, v = gi ns (k : Int) + (if up = true then 1 else -1) := ⟨_, rfl⟩
    obtain ⟨H3, e3⟩ : ∃ H3, H3 = upd H2 p2 (.tup [.int v]) := ⟨_, rfl⟩
    have s3 : Same H2 H3 := by rw [e3]; exact Same.new np2
    have h3 : H3 p2 = some (.tup [.int v]) := by rw [e3, upd_same]
    change rCatA _ (V.ref p1) (V.ref p2) (upd H2 p2 (.tup [.int (gi ns (k : Int) + (if up = true then 1 else -1))])) _
    rw [← ev, ← e3]
    refine catA_use (s3 _ _ h2) h3 (by rw [List.length_map, List.length_take]; show _ + 1 ≤ _; omega) rfl fun p3 H4 s4 h4 => ?_
    have s14 := s2.trans (s3.trans s4)
    refine ⟨_, rfl, _, rfl, a, _, _, _, rfl, rfl, SqT.of (s14 _ _ ha), w0, _, _, rfl, rfl, _, rfl, ?_⟩
    dsimp only [tNoPart]
    refine slA_use (s14 _ _ ht) (ys := (ns.drop (k + 1)).map V.int) (by rw [show ((k : Int) + 1) = ((k + 1 : Nat) : Int) from rfl, cut_drop, List.map_drop]) fun p4 H5 s5 h5 => ?_
    refine catA_use (s5 _ _ h4) h5 ?_ (cut3 hk v) fun p H6 s6 h6 => ?_
    · have q1 := List.length_take (i := k) (l := ns)
      have q2 := List.length_drop (i := k + 1) (l := ns)
      rw [List.length_append, List.length_map, List.length_map]
      show _ + 1 + _ ≤ _
      omega
    refine q p H6 (s14.trans (s5.trans s6)) ?_
    rw [h6, ev]
    rfl
end
end WC

set_option maxHeartbeats 8000000
namespace WC
open PySem PySem.Spec PyProof.Rows L2
theorem pr_unsnoc {α β : Type} {F : α → β → Prop} : ∀ {l : List α} {a : α} {r : List β}, Paired F (l ++ [a]) r → ∃ r' v, r = r' ++ [v] ∧ Paired F l r' ∧ F a v
  | [], a, _, .cons p .nil => ⟨[], _, rfl, .nil, p⟩
  | x :: l, a, _, .cons p q => by
    obtain ⟨r', v, e, h1, h2⟩ := pr_unsnoc (l := l) q
    exact ⟨_ :: r', v, by rw [e]; rfl, .cons p h1, h2⟩
section
variable {α : Type} {f : α → List V} {H H0 H2 H3 : Hp} {b L Z D T : Addr} {cells : List Int} {ls os : List α} {ks vs : List V}
theorem LsI.base (h : LsI f H b L Z cells H2 ls) (s : SameB b H0 H) (hb : ∃ xs, H b = some (.lst xs)) : LsI f H0 b L Z cells H2 ls :=
  ⟨s.trans h.same, h.box, s.freeL hb h.nZ, h.zb, h.zl, h.ex⟩
/-- another list D is written -/
theorem LsI.onD (h : LsI f H b L Z cells H2 ls) (s : SameB D H2 H3) (hD : ∃ xs, H2 D = some (.lst xs)) (nD : H D = none) (ZD : Z ≠ D) (hb : BoxL H3 b L cells) : LsI f H b L Z cells H3 ls := by
  obtain ⟨a, x, c, d, e, ks, hk, hp⟩ := h
  exact ⟨fun c o hc n => s _ _ (a _ _ hc n) (ne_of_none hc nD), hb, c, d, e, ks, s _ _ hk ZD, ta_onB hp s hD⟩
/-- an old value put behind -/
theorem LsI.push (h : LsI f H b L Z cells H2 ls) (hZ : H2 Z = some (.lst ks)) (hp : Paired (TA f H2) ls ks) {c : α} {v : V} (hv : TA f H2 c v) : LsI f H b L Z cells (upd H2 Z (.lst (ks ++ [v]))) (ls ++ [c]) := by
  obtain ⟨a, x, nz, d, e, _⟩ := h
  refine ⟨fun c o hc n => by rw [upd_ne (ne_of_none hc nz)]; exact a _ _ hc n, x.put d e, nz, d, e, _, upd_same, pr_snoc (ta_set hp hZ) ?_⟩
  obtain ⟨t, ev, ht⟩ := hv
  exact ⟨t, ev, by rw [upd_ne (ne_of ht hZ (by intro z; cases z))]; exact ht⟩
end
/-- a run of allowed moves -/
structure Run9 (n : Nat) (cs : List Tri) (st : List Int) (pts : List (List Int)) (ms : List Mv9) : Prop where
  len : pts.length = ms.length + 1
  ok : ∀ p ∈ pts, StOk n p
  fst : pts[0]? = some st
  step : ∀ (i : Nat) m, ms[i]? = some m → ∃ a, pts[i]? = some a ∧ alw9 cs a m = true ∧ 0 ≤ m.1 ∧ m.1 < n ∧ pts[i + 1]? = some (stp9 a m)
theorem Run9.one {n : Nat} {cs : List Tri} {st : List Int} (h : StOk n st) : Run9 n cs st ([] ++ [st]) [] := ⟨rfl, fun p hp => by rw [List.mem_singleton.mp hp]; exact h, rfl, fun i m e => by simp at e⟩
theorem Run9.snoc {n : Nat} {cs : List Tri} {st a : List Int} {pts : List (List Int)} {ms : List Mv9} {m : Mv9} (h : Run9 n cs st (pts ++ [a]) ms) (ok : ∀ c ∈ cs, ChOk n c) (ha : alw9 cs a m = true) : Run9 n cs st ((pts ++ [a]) ++ [stp9 a m]) (ms ++ [m]) := by
  obtain ⟨l, o, f, s⟩ := h
  have oa := o a (List.mem_append_right _ (List.mem_singleton.mpr rfl))
  obtain ⟨k1, k2, k3⟩ := stp9_ok ok oa ha
  have l2 : pts.length = ms.length := by rw [List.length_append] at l; exact Nat.succ.inj l
  refine ⟨by rw [List.length_append, l, List.length_append]; rfl, fun p hp => ?_, ?_, fun i x hx => ?_⟩
  · rcases List.mem_append.mp hp with z | z
    · exact o p z
    · rw [List.mem_singleton.mp z]; exact k1
  · rw [List.getElem?_append_left (by omega)]; exact f
  · rcases Nat.lt_or_ge i ms.length with z | z
    · rw [List.getElem?_append_left z] at hx
      obtain ⟨y, g1, g2, g3, g4, g5⟩ := s i x hx
      have i1 := (List.getElem?_eq_some_iff.mp g1).1
      have i2 := (List.getElem?_eq_some_iff.mp g5).1
      exact ⟨y, by rw [List.getElem?_append_left i1]; exact g1, g2, g3, g4, by rw [List.getElem?_append_left i2]; exact g5⟩
    · have hx2 := (List.getElem?_eq_some_iff.mp hx).1
      rw [List.length_append] at hx2
      have hx2 : i < ms.length + 1 := hx2
      obtain rfl : i = ms.length := by omega
      rw [List.getElem?_append_right (Nat.le_refl _), Nat.sub_self] at hx
      have e := Option.some.inj hx
      subst e
      refine ⟨a, ?_, ha, k2, k3, ?_⟩
      · rw [List.getElem?_append_left (by omega), ← l2, List.getElem?_append_right (Nat.le_refl _), Nat.sub_self]; rfl
      · rw [List.getElem?_append_right (by omega), l, Nat.sub_self]; rfl
def spStroll9 : Sp := fun vs H Q _ => ∃ (b L cl t : Addr) (cells : List Int) (n : Nat) (cs : List Tri) (ks : List V) (st : List Int) (count : Int), vs = [.ref b, .ref cl, .ref t, .int count] ∧ BoxL H b L cells ∧ cl ≠ b ∧ H cl = some (.lst ks) ∧ Paired (TA f3 H) cs ks ∧ cs.length ≤ 40 ∧ (∀ c ∈ cs, ChOk n c) ∧ H t = some (.tup (fS st)) ∧ StOk n st ∧ n ≤ 40 ∧ 0 ≤ count ∧ count ≤ 1000 ∧
  ∀ R Pn Md pts ms H2, SameB b H H2 → BoxL H2 b L cells → H2 R = some (.lst [.ref Pn, .ref Md]) → LsI fS H b L Pn cells H2 pts → LsI fM H b L Md cells H2 ms → Run9 n cs st pts ms → ms.length ≤ count → Q (.ref R) H2
section
variable {P : Program} {w : World} {K : PySem.W.Frag} {mg : Str → Option Value} {base : Heap}
end
end WC

set_option maxHeartbeats 8000000
namespace WC
open PySem PySem.Spec PyProof.Rows L2
/-! along a run: nothing is objected to its later states, and how far it leads -/
def sl9 (m : Mv9) (c : Tri) : Int := if m.2 = true then c.2.1 else c.1
theorem alw9_iff {cs : List Tri} {ns : List Int} {m : Mv9} : alw9 cs ns m = true ↔ (∃ c ∈ cs, sl9 m c = m.1) ∧ ∀ c ∈ cs, sl9 m c = m.1 → 1 ≤ gi ns c.1 - gi ns c.2.1 ∧ gi ns c.1 - gi ns c.2.1 ≤ c.2.2 := by
  unfold alw9
  rw [Bool.and_eq_true, List.all_eq_true, decide_eq_true_eq]
  have mem : ∀ c, c ∈ sideM cs m ↔ c ∈ cs ∧ sl9 m c = m.1 := fun c => by
    unfold sideM
    rw [List.mem_filter, decide_eq_true_eq]
    rfl
  have fit : ∀ c, fits9 ns c = true ↔ 1 ≤ gi ns c.1 - gi ns c.2.1 ∧ gi ns c.1 - gi ns c.2.1 ≤ c.2.2 := fun c => by
    unfold fits9
    rw [Bool.and_eq_true, decide_eq_true_eq, decide_eq_true_eq]
  constructor
  · rintro ⟨h1, h2⟩
    obtain ⟨c, hc⟩ := List.exists_mem_of_length_pos h2
    exact ⟨⟨c, (mem c).mp hc⟩, fun c hc e => (fit c).mp (h1 c ((mem c).mpr ⟨hc, e⟩))⟩
  · rintro ⟨⟨c, hc, e⟩, h⟩
    exact ⟨fun c hc => (fit c).mpr (h c ((mem c).mp hc).1 ((mem c).mp hc).2), List.length_pos_of_mem ((mem c).mpr ⟨hc, e⟩)⟩
theorem gi_set {ns : List Int} {s k : Int} {v : Int} (h0 : 0 ≤ s) (h1 : s < ns.length) (k0 : 0 ≤ k) : gi (ns.set s.toNat v) k = if k = s then v else gi ns k := by
  unfold gi
  rw [List.getD_eq_getElem?_getD, List.getD_eq_getElem?_getD, List.getElem?_set]
  by_cases e : k = s
  · subst e
    rw [if_pos rfl, if_pos rfl, if_pos (by omega)]
    rfl
  · rw [if_neg (by omega), if_neg e]
theorem gi_stp {ns : List Int} {m : Mv9} {k : Int} (h0 : 0 ≤ m.1) (h1 : m.1 < ns.length) (k0 : 0 ≤ k) : gi (stp9 ns m) k = if k = m.1 then gi ns m.1 + (if m.2 = true then 1 else -1) else gi ns k := gi_set h0 h1 k0
/-- a run from a to b by the moves ms -/
inductive RunR (cs : List Tri) (a : List Int) : List Mv9 → List Int → Prop
  | nil : RunR cs a [] a
  | snoc {ms : List Mv9} {b : List Int} {m : Mv9} : RunR cs a ms b → alw9 cs b m = true → RunR cs a (ms ++ [m]) (stp9 b m)
/-- what holds between a state and a later one -/
structure Lat (n : Nat) (cs : List Tri) (a b : List Int) : Prop where
  ok : StOk n b
  src : ∀ k : Int, 0 ≤ k → k < n → (∀ c ∈ cs, c.2.1 ≠ k) → gi b k ≤ gi a k
  snk : ∀ k : Int, 0 ≤ k → k < n → (∀ c ∈ cs, c.1 ≠ k) → gi a k ≤ gi b k
  jam : ∀ c ∈ cs, c.2.2 < gi a c.1 - gi a c.2.1 → gi a c.1 ≤ gi b c.1 ∧ gi b c.2.1 ≤ gi a c.2.1
  orp : ∀ c ∈ cs, (gi a c.1 ≤ gi b c.1 ∧ gi b c.2.1 ≤ gi a c.2.1) ∨ gi b c.2.1 ≤ gi b c.1
  low : ∀ lo, (∀ y ∈ a, lo ≤ y) → ∀ k : Int, 0 ≤ k → k < n → lo ≤ gi b k
  top : ∀ hi, (∀ y ∈ a, y ≤ hi) → ∀ k : Int, 0 ≤ k → k < n → gi b k ≤ hi
theorem gi_mem {ns : List Int} {k : Int} (h0 : 0 ≤ k) (h1 : k < ns.length) : gi ns k ∈ ns := by
  obtain ⟨j, rfl⟩ : ∃ j : Nat, k = j := ⟨k.toNat, by omega⟩
  have hj : j < ns.length := by omega
  rw [gi_at (List.getElem?_eq_getElem hj)]
  exact List.getElem_mem hj
theorem Lat.refl {n : Nat} {cs : List Tri} {a : List Int} (h : StOk n a) : Lat n cs a a := by
  have hl := h.1
  exact ⟨h, fun k _ _ _ => Int.le_refl _, fun k _ _ _ => Int.le_refl _, fun c _ _ => ⟨Int.le_refl _, Int.le_refl _⟩, fun c _ => .inl ⟨Int.le_refl _, Int.le_refl _⟩, fun lo hlo k k0 k1 => hlo _ (gi_mem k0 (by omega)), fun hi hhi k k0 k1 => hhi _ (gi_mem k0 (by omega))⟩
theorem Lat.step {n : Nat} {cs : List Tri} {a b : List Int} {m : Mv9} (L : Lat n cs a b) (ok : ∀ c ∈ cs, ChOk n c) (h : alw9 cs b m = true) : Lat n cs a (stp9 b m) := by
  obtain ⟨o2, m0, m1⟩ := stp9_ok ok L.ok h
  have hl := L.ok.1
  obtain ⟨⟨c0, hc0, e0⟩, hf⟩ := alw9_iff.mp h
  have g := fun k (k0 : 0 ≤ k) => gi_stp (ns := b) (m := m) (k := k) m0 (by omega) k0
  obtain ⟨s, up⟩ := m
  dsimp only at g m0 m1
  have f0 := hf c0 hc0 e0
  obtain ⟨⟨a1, a2⟩, ⟨a3, a4⟩, a5, a6, a7⟩ := ok c0 hc0
  unfold sl9 at e0 hf
  dsimp only at e0 hf
  refine ⟨o2, fun k k0 k1 hk => ?_, fun k k0 k1 hk => ?_, fun c hc hj => ?_, fun c hc => ?_, fun lo hlo k k0 k1 => ?_, fun hi hhi k k0 k1 => ?_⟩
  · have z := L.src k k0 k1 hk
    rw [g k k0]
    split
    · rename_i e
      cases up
      · rw [if_neg (by decide), ← e]; omega
      · rw [if_pos rfl] at e0
        exact absurd (e0.trans e.symm) (hk c0 hc0)
    · exact z
  · have z := L.snk k k0 k1 hk
    rw [g k k0]
    split
    · rename_i e
      cases up
      · rw [if_neg (by decide)] at e0
        exact absurd (e0.trans e.symm) (hk c0 hc0)
      · rw [if_pos rfl, ← e]; omega
    · exact z
  · obtain ⟨z1, z2⟩ := L.jam c hc hj
    obtain ⟨⟨b1, b2⟩, ⟨b3, b4⟩, b5, _⟩ := ok c hc
    rw [g c.1 b1, g c.2.1 b3]
    cases up
    · have q : c.1 ≠ s := fun e => by
        have := hf c hc (by rw [if_neg (by decide)]; exact e)
        omega
      rw [if_neg q]
      split
      · rename_i e
        rw [if_neg (by decide), ← e]; omega
      · omega
    · have q : c.2.1 ≠ s := fun e => by
        have := hf c hc (by rw [if_pos rfl]; exact e)
        omega
      rw [if_neg q]
      split
      · rename_i e
        rw [if_pos rfl, ← e]; omega
      · omega
  · have z := L.orp c hc
    obtain ⟨⟨b1, b2⟩, ⟨b3, b4⟩, b5, _⟩ := ok c hc
    rw [g c.1 b1, g c.2.1 b3]
    cases up
    · by_cases e : c.1 = s
      · have := hf c hc (by rw [if_neg (by decide)]; exact e)
        rw [if_pos e, if_neg (show ¬ c.2.1 = s from fun z => b5 (e.trans z.symm)), if_neg (by decide), ← e]
        omega
      · rw [if_neg e]
        split
        · rename_i e2
          rw [if_neg (by decide), ← e2]; omega
        · omega
    · by_cases e : c.2.1 = s
      · have := hf c hc (by rw [if_pos rfl]; exact e)
        rw [if_pos e, if_neg (show ¬ c.1 = s from fun z => b5 (z.trans e.symm)), if_pos rfl, ← e]
        omega
      · rw [if_neg e]
        split
        · rename_i e2
          rw [if_pos rfl, ← e2]; omega
        · omega
  · have z := L.low lo hlo
    rw [g k k0]
    split
    · rename_i e
      cases up
      · rw [if_neg (by decide)] at e0 ⊢
        have := z c0.2.1 a3 a4
        rw [← e0]
        omega
      · rw [if_pos rfl]
        have := z s m0 m1
        omega
    · exact z k k0 k1
  · have z := L.top hi hhi
    rw [g k k0]
    split
    · rename_i e
      cases up
      · rw [if_neg (by decide)]
        have := z s m0 m1
        omega
      · rw [if_pos rfl] at e0 ⊢
        have := z c0.1 a1 a2
        rw [← e0]
        omega
    · exact z k k0 k1
theorem RunR.lat {n : Nat} {cs : List Tri} {a b : List Int} {ms : List Mv9} (ok : ∀ c ∈ cs, ChOk n c) (h0 : StOk n a) (h : RunR cs a ms b) : Lat n cs a b := by
  induction h with
  | nil => exact Lat.refl h0
  | snoc r e ih => exact ih.step ok e
theorem occ_nil {es : List Int} {j : Int} : occ es j es.length = [] ↔ j ∉ es := by
  unfold occ
  rw [List.map_eq_nil_iff, List.filter_eq_nil_iff]
  constructor
  · intro h hj
    obtain ⟨k, hk⟩ := List.mem_iff_getElem?.mp hj
    exact h k (List.mem_range.mpr (List.getElem?_eq_some_iff.mp hk).1) (decide_eq_true hk)
  · intro h k _ e
    exact h (List.mem_of_getElem? (of_decide_eq_true e))
theorem occ_nilM {cs : List Tri} {f : Tri → Int} {j : Int} : occ (cs.map f) j cs.length = [] ↔ ∀ c ∈ cs, f c ≠ j := by
  have := occ_nil (es := cs.map f) (j := j)
  rw [List.length_map] at this
  rw [this]
  constructor
  · exact fun h c hc e => h (List.mem_map.mpr ⟨c, hc, e⟩)
  · intro h hj
    obtain ⟨c, hc, e⟩ := List.mem_map.mp hj
    exact h c hc e
theorem obsP_nil {w : Str} {p : Int → Bool} {tg : List Int} {n : Nat} : obsP w p tg n = [] ↔ ∀ k : Nat, k < n → p (gi tg k) = false := by
  unfold obsP
  rw [List.map_eq_nil_iff, List.filter_eq_nil_iff]
  constructor
  · intro h k hk
    exact Bool.eq_false_iff.mpr (h k (List.mem_range.mpr hk))
  · intro h k hk
    rw [h k (List.mem_range.mp hk)]
    decide
/-- when nothing is objected -/
theorem allOb_nil {cs : List Tri} {st tg : List Int} {n : Nat} {ring : Bool} {U : List Obj_} (h : AllOb cs st tg n ring U) : U = [] ↔
    (∀ k : Nat, k < n → gi st k < gi tg k → ∃ c ∈ cs, c.2.1 = k) ∧ (∀ k : Nat, k < n → gi tg k < gi st k → ∃ c ∈ cs, c.1 = k) ∧
    (∀ c ∈ cs, (gi tg c.1 < gi st c.1 ∨ gi st c.2.1 < gi tg c.2.1) → gi st c.1 - gi st c.2.1 ≤ c.2.2 ∧ gi tg c.2.1 ≤ gi tg c.1) ∧
    (ring = true → ∀ k : Nat, k < n → (∃ y ∈ st, y ≤ gi tg k) ∧ ∃ y ∈ st, gi tg k ≤ y) := by
  have hs : stageObs cs st tg n = [] ↔ (∀ k : Nat, k < n → gi st k < gi tg k → ∃ c ∈ cs, c.2.1 = k) ∧ (∀ k : Nat, k < n → gi tg k < gi st k → ∃ c ∈ cs, c.1 = k) := by
    unfold stageObs
    rw [List.flatMap_eq_nil_iff]
    have one : ∀ k : Nat, stageOb cs st tg k = [] ↔ (gi st k < gi tg k → ∃ c ∈ cs, c.2.1 = k) ∧ (gi tg k < gi st k → ∃ c ∈ cs, c.1 = k) := fun k => by
      unfold stageOb
      rw [List.append_eq_nil_iff]
      have t : ∀ {P : Prop} [Decidable P] {x : Obj_}, (if P then [x] else []) = [] ↔ ¬ P := fun {P} _ {x} => by
        by_cases e : P
        · rw [if_pos e]; simp [e]
        · rw [if_neg e]; simp [e]
      rw [t, t, occ_nilM, occ_nilM]
      constructor
      · rintro ⟨h1, h2⟩
        refine ⟨fun e => ?_, fun e => ?_⟩
        · exact Classical.byContradiction fun z => h1 ⟨e, fun c hc q => z ⟨c, hc, q⟩⟩
        · exact Classical.byContradiction fun z => h2 ⟨e, fun c hc q => z ⟨c, hc, q⟩⟩
      · rintro ⟨h1, h2⟩
        refine ⟨fun ⟨e, z⟩ => ?_, fun ⟨e, z⟩ => ?_⟩
        · obtain ⟨c, hc, q⟩ := h1 e
          exact z c hc q
        · obtain ⟨c, hc, q⟩ := h2 e
          exact z c hc q
    constructor
    · exact fun h => ⟨fun k hk => ((one k).mp (h k (List.mem_range.mpr hk))).1, fun k hk => ((one k).mp (h k (List.mem_range.mpr hk))).2⟩
    · exact fun ⟨h1, h2⟩ k hk => (one k).mpr ⟨h1 k (List.mem_range.mp hk), h2 k (List.mem_range.mp hk)⟩
  have hc : (nums cs.length).flatMap (chanOb cs st tg) = [] ↔ ∀ c ∈ cs, (gi tg c.1 < gi st c.1 ∨ gi st c.2.1 < gi tg c.2.1) → gi st c.1 - gi st c.2.1 ≤ c.2.2 ∧ gi tg c.2.1 ≤ gi tg c.1 := by
    rw [List.flatMap_eq_nil_iff]
    have dr : ∀ c : Tri, drawsM st tg c = true ↔ (gi tg c.1 < gi st c.1 ∨ gi st c.2.1 < gi tg c.2.1) := fun c => by
      unfold drawsM
      rw [Bool.or_eq_true, decide_eq_true_eq, decide_eq_true_eq]
    have one : ∀ {k : Nat} {c : Tri}, cs[k]? = some c → (chanOb cs st tg (k : Int) = [] ↔ ((gi tg c.1 < gi st c.1 ∨ gi st c.2.1 < gi tg c.2.1) → gi st c.1 - gi st c.2.1 ≤ c.2.2 ∧ gi tg c.2.1 ≤ gi tg c.1)) := fun {k c} q => by
      rw [chanOb_at q]
      by_cases e : drawsM st tg c = true
      · rw [if_pos e, List.append_eq_nil_iff]
        have e2 := (dr c).mp e
        constructor
        · rintro ⟨h1, h2⟩ _
          constructor
          · exact Int.not_lt.mp fun z => by rw [if_pos z] at h1; cases h1
          · exact Int.not_lt.mp fun z => by rw [if_pos z] at h2; cases h2
        · intro h
          obtain ⟨h1, h2⟩ := h e2
          exact ⟨if_neg (by omega), if_neg (by omega)⟩
      · rw [if_neg e]
        exact ⟨fun _ z => absurd ((dr c).mpr z) e, fun _ => rfl⟩
    constructor
    · intro h c hcm
      obtain ⟨k, hk⟩ := List.mem_iff_getElem?.mp hcm
      have hl := (List.getElem?_eq_some_iff.mp hk).1
      exact (one hk).mp (h (k : Int) (by unfold nums; exact List.mem_map.mpr ⟨k, List.mem_range.mpr hl, rfl⟩))
    · intro h k hk
      unfold nums at hk
      obtain ⟨j, hj, rfl⟩ := List.mem_map.mp hk
      have hl := List.mem_range.mp hj
      exact (one (List.getElem?_eq_getElem hl)).mpr (h _ (List.getElem_mem hl))
  rcases h with ⟨e, rfl⟩ | ⟨e, lo, hi, hlo, hhi, rfl⟩
  · rw [List.append_eq_nil_iff, hs, hc]
    constructor
    · rintro ⟨⟨h1, h2⟩, h3⟩
      exact ⟨h1, h2, h3, fun z => by rw [e] at z; cases z⟩
    · rintro ⟨h1, h2, h3, _⟩
      exact ⟨⟨h1, h2⟩, h3⟩
  · rw [List.append_eq_nil_iff, List.append_eq_nil_iff, List.append_eq_nil_iff, hs, hc, obsP_nil, obsP_nil]
    constructor
    · rintro ⟨⟨⟨h1, h2⟩, h3⟩, h4, h5⟩
      exact ⟨h1, h2, h3, fun _ k hk => ⟨⟨lo, hlo.1, Int.not_lt.mp (of_decide_eq_false (h5 k hk))⟩, hi, hhi.1, Int.not_lt.mp (of_decide_eq_false (h4 k hk))⟩⟩
    · rintro ⟨h1, h2, h3, h4⟩
      refine ⟨⟨⟨h1, h2⟩, h3⟩, fun k hk => decide_eq_false (Int.not_lt.mpr ?_), fun k hk => decide_eq_false (Int.not_lt.mpr ?_)⟩
      · obtain ⟨_, y, hy, q⟩ := h4 e k hk
        exact Int.le_trans q (hhi.2 y hy)
      · obtain ⟨⟨y, hy, q⟩, _⟩ := h4 e k hk
        exact Int.le_trans (hlo.2 y hy) q
theorem Lat.nil {n : Nat} {cs : List Tri} {a b : List Int} {ring : Bool} {U : List Obj_} (L : Lat n cs a b) (ok : ∀ c ∈ cs, ChOk n c) (ha : StOk n a) (n1 : 1 ≤ n) (h : AllOb cs a b n ring U) : U = [] := by
  have hl := ha.1
  refine (allOb_nil h).mpr ⟨fun k hk e => ?_, fun k hk e => ?_, fun c hc e => ?_, fun _ k hk => ?_⟩
  · refine Classical.byContradiction fun z => ?_
    have := L.src k (by omega) (by omega) fun c hc q => z ⟨c, hc, q⟩
    omega
  · refine Classical.byContradiction fun z => ?_
    have := L.snk k (by omega) (by omega) fun c hc q => z ⟨c, hc, q⟩
    omega
  · constructor
    · refine Int.not_lt.mp fun z => ?_
      have := L.jam c hc z
      omega
    · have := L.orp c hc
      omega
  · obtain ⟨⟨lo, lo1, lo2⟩, hi, hi1, hi2⟩ : (∃ lo, lo ∈ a ∧ ∀ y ∈ a, lo ≤ y) ∧ ∃ hi, hi ∈ a ∧ ∀ y ∈ a, y ≤ hi := by
      match a, hl with
      | [], e => simp at e; omega
      | x :: xs, _ =>
        obtain ⟨p, q⟩ := fold_min xs x
        obtain ⟨r, t⟩ := fold_max xs x
        exact ⟨⟨_, p, q⟩, _, r, t⟩
    exact ⟨⟨lo, lo1, L.low lo lo2 k (by omega) (by omega)⟩, hi, hi1, L.top hi hi2 k (by omega) (by omega)⟩
end WC

set_option maxHeartbeats 8000000
namespace WC
open PySem PySem.Spec PyProof.Rows L2
theorem distM_succ (a b : List Int) (n : Nat) : distM a b (n + 1) = distM a b n + (if gi a n - gi b n < 0 then -(gi a n - gi b n) else gi a n - gi b n) := by
  unfold distM
  rw [diffM_succ, List.sum_append]
  simp
theorem distM_zero (a b : List Int) : distM a b 0 = 0 := rfl
theorem distM_nn (a b : List Int) : ∀ n, 0 ≤ distM a b n
  | 0 => Int.le_refl _
  | n + 1 => by
    rw [distM_succ]
    have := distM_nn a b n
    split <;> omega
theorem distM_self (a : List Int) : ∀ n, distM a a n = 0
  | 0 => rfl
  | n + 1 => by
    rw [distM_succ, distM_self a n, if_neg (by omega)]
    omega
theorem distM_stp {a b : List Int} {m : Mv9} (h0 : 0 ≤ m.1) (h1 : m.1 < b.length) : ∀ n : Nat, ((n : Int) ≤ m.1 → distM a (stp9 b m) n = distM a b n) ∧ (m.1 < n → distM a (stp9 b m) n = distM a b n + 1 ∨ distM a (stp9 b m) n = distM a b n - 1)
  | 0 => ⟨fun _ => rfl, fun h => by omega⟩
  | n + 1 => by
    obtain ⟨i1, i2⟩ := distM_stp (a := a) h0 h1 n
    rw [distM_succ, distM_succ, gi_stp h0 h1 (by omega : (0 : Int) ≤ n)]
    refine ⟨fun h => ?_, fun h => ?_⟩
    · rw [i1 (by omega), if_neg (show ¬ (n : Int) = m.1 by omega)]
    · by_cases e : (n : Int) = m.1
      · rw [i1 (by omega), if_pos e, ← e]
        split <;> split <;> split <;> omega
      · rw [if_neg e]
        rcases i2 (by omega) with z | z <;> rw [z] <;> omega
theorem RunR.dist {n : Nat} {cs : List Tri} {a b : List Int} {ms : List Mv9} (ok : ∀ c ∈ cs, ChOk n c) (h0 : StOk n a) (h : RunR cs a ms b) : distM a b n ≤ ms.length ∧ ((ms.length : Int) - distM a b n) % 2 = 0 := by
  induction h with
  | nil => rw [distM_self]; exact ⟨by simp, by simp⟩
  | @snoc ms b m r e ih =>
    have L := r.lat ok h0
    obtain ⟨_, m0, m1⟩ := stp9_ok ok L.ok e
    have hl := L.ok.1
    have z := (distM_stp (a := a) (b := b) (m := m) m0 (by omega) n).2 m1
    rw [List.length_append]
    have e1 : ((ms.length + [m].length : Nat) : Int) = (ms.length : Int) + 1 := rfl
    rw [e1]
    omega
/-- where the moves lead -/
def runF (a : List Int) (ms : List Mv9) : List Int := ms.foldl stp9 a
theorem runF_snoc (a : List Int) (ms : List Mv9) (m : Mv9) : runF a (ms ++ [m]) = stp9 (runF a ms) m := by
  unfold runF
  rw [List.foldl_append]
  rfl
theorem RunR.at {cs : List Tri} {a b : List Int} {ms : List Mv9} (h : RunR cs a ms b) : b = runF a ms ∧ ∀ (i : Nat) m, ms[i]? = some m → alw9 cs (runF a (ms.take i)) m = true := by
  induction h with
  | nil => exact ⟨rfl, fun i m e => by simp at e⟩
  | @snoc ms b m r e ih =>
    obtain ⟨e1, h1⟩ := ih
    refine ⟨by rw [runF_snoc, ← e1], fun i x hx => ?_⟩
    rcases Nat.lt_or_ge i ms.length with z | z
    · rw [List.getElem?_append_left z] at hx
      rw [List.take_append_of_le_length (by omega)]
      exact h1 i x hx
    · have hx2 := (List.getElem?_eq_some_iff.mp hx).1
      rw [List.length_append] at hx2
      have hx2 : i < ms.length + 1 := hx2
      obtain rfl : i = ms.length := by omega
      rw [List.getElem?_append_right (Nat.le_refl _), Nat.sub_self] at hx
      have q := Option.some.inj hx
      subst q
      rw [List.take_left]
      rw [← e1]
      exact e
/-- between two points of a run -/
theorem Run9.part {n : Nat} {cs : List Tri} {st : List Int} {pts : List (List Int)} {ms : List Mv9} (h : Run9 n cs st pts ms) {i : Nat} {a : List Int} (ha : pts[i]? = some a) : ∀ (d : Nat) (b : List Int), pts[i + d]? = some b → RunR cs a ((ms.drop i).take d) b
  | 0, b, hb => by
    rw [Nat.add_zero, ha] at hb
    cases hb
    rw [List.take_zero]
    exact .nil
  | d + 1, b, hb => by
    have hl := (List.getElem?_eq_some_iff.mp hb).1
    have hlen := h.len
    have hm : i + d < ms.length := by omega
    obtain ⟨c, h1, h2, _, _, h5⟩ := h.step (i + d) ms[i + d] (List.getElem?_eq_getElem hm)
    have ih := Run9.part h ha d c h1
    have hb2 : pts[i + d + 1]? = some b := hb
    rw [h5] at hb2
    have e := Option.some.inj hb2
    rw [← e]
    have q : (ms.drop i)[d]? = some ms[i + d] := by rw [List.getElem?_drop]; exact List.getElem?_eq_getElem hm
    rw [take_snoc q]
    exact .snoc ih h2
/-- a state beside another: reached exactly by an allowed move -/
theorem nil_beside {n : Nat} {cs : List Tri} {a : List Int} {m : Mv9} {ring : Bool} {U : List Obj_} (ok : ∀ c ∈ cs, ChOk n c) (ha : StOk n a) (n1 : 1 ≤ n) (m0 : 0 ≤ m.1) (m1 : m.1 < n) (h : AllOb cs a (stp9 a m) n ring U) : U = [] ↔ alw9 cs a m = true := by
  have hl := ha.1
  have g := fun k (k0 : 0 ≤ k) => gi_stp (ns := a) (m := m) (k := k) m0 (by omega) k0
  constructor
  · intro e
    obtain ⟨p1, p2, p3, _⟩ := (allOb_nil h).mp e
    obtain ⟨s, up⟩ := m
    dsimp only at g m0 m1
    obtain ⟨k, rfl⟩ : ∃ k : Nat, s = k := ⟨s.toNat, by omega⟩
    refine alw9_iff.mpr ⟨?_, fun c hc e2 => ?_⟩
    · cases up
      · refine p2 k (by omega) ?_
        rw [g k (by omega), if_pos rfl, if_neg (by decide)]
        omega
      · refine p1 k (by omega) ?_
        rw [g k (by omega), if_pos rfl, if_pos rfl]
        omega
    · obtain ⟨⟨b1, b2⟩, ⟨b3, b4⟩, b5, _⟩ := ok c hc
      have z := p3 c hc
      rw [g c.1 b1, g c.2.1 b3] at z
      unfold sl9 at e2
      dsimp only at e2
      cases up
      · rw [if_neg (by decide)] at e2
        rw [if_pos e2, if_neg (show ¬ c.2.1 = (k : Int) from fun y => b5 (e2.trans y.symm)), if_neg (by decide), ← e2] at z
        omega
      · rw [if_pos rfl] at e2
        rw [if_pos e2, if_neg (show ¬ c.1 = (k : Int) from fun y => b5 (y.trans e2.symm)), if_pos rfl, ← e2] at z
        omega
  · intro e
    exact ((Lat.refl ha).step ok e).nil ok ha n1 h
/-- a counter outside of the range is not reached -/
theorem not_outside {n : Nat} {cs : List Tri} {a b : List Int} {k : Nat} {v : Int} {ring : Bool} {U : List Obj_} (L : Lat n cs a b) (ok : ∀ c ∈ cs, ChOk n c) (ha : StOk n a) (hk : k < n) (hv : (∀ y ∈ a, v < y) ∨ ∀ y ∈ a, y < v) (h : AllOb cs a (b.set k v) n ring U) : U ≠ [] := by
  intro e
  obtain ⟨p1, p2, p3, _⟩ := (allOb_nil h).mp e
  have hl := L.ok.1
  have hla := ha.1
  have g : ∀ j : Int, 0 ≤ j → gi (b.set k v) j = if j = k then v else gi b j := fun j j0 => by
    have := gi_set (ns := b) (s := (k : Int)) (k := j) (v := v) (by omega) (by omega) j0
    rw [Int.toNat_natCast] at this
    exact this
  have am : gi a k ∈ a := gi_mem (by omega) (by omega)
  have gk := g k (by omega)
  rw [if_pos rfl] at gk
  rcases hv with hv | hv
  · have lt := hv _ am
    obtain ⟨c, hc, e1⟩ := p2 k hk (by rw [gk]; exact lt)
    obtain ⟨⟨b1, b2⟩, ⟨b3, b4⟩, b5, _⟩ := ok c hc
    have z := (p3 c hc (.inl (by rw [e1, gk]; exact lt))).2
    rw [g c.2.1 b3, if_neg (fun y => b5 (e1.trans y.symm)), e1, gk] at z
    have := L.low (v + 1) (fun y hy => by have := hv y hy; omega) c.2.1 b3 b4
    omega
  · have lt := hv _ am
    obtain ⟨c, hc, e1⟩ := p1 k hk (by rw [gk]; exact lt)
    obtain ⟨⟨b1, b2⟩, ⟨b3, b4⟩, b5, _⟩ := ok c hc
    have z := (p3 c hc (.inr (by rw [e1, gk]; exact lt))).2
    rw [g c.1 b1, if_neg (fun y => b5 (y.trans e1.symm)), e1, gk] at z
    have := L.top (v - 1) (fun y hy => by have := hv y hy; omega) c.1 b1 b2
    omega
theorem occ_mem {es : List Int} {j k : Int} {m : Nat} : k ∈ occ es j m ↔ ∃ i : Nat, i < m ∧ es[i]? = some j ∧ k = i := by
  unfold occ
  rw [List.mem_map]
  constructor
  · rintro ⟨i, hi, rfl⟩
    obtain ⟨h1, h2⟩ := List.mem_filter.mp hi
    exact ⟨i, List.mem_range.mp h1, of_decide_eq_true h2, rfl⟩
  · rintro ⟨i, h1, h2, rfl⟩
    exact ⟨i, List.mem_filter.mpr ⟨List.mem_range.mpr h1, decide_eq_true h2⟩, rfl⟩
/-- the program's word for allowed is the law's -/
theorem alw_eq (cs : List Tri) (ns : List Int) (s : Int) (adv : Bool) : alw cs ns s adv = alw9 cs ns (s, adv) := by
  rw [Bool.eq_iff_iff, alw9_iff]
  unfold alw
  rw [Bool.and_eq_true, decide_eq_true_eq, List.all_eq_true]
  have mem : ∀ k : Int, k ∈ sideI cs adv s ↔ ∃ (i : Nat) (c : Tri), cs[i]? = some c ∧ sl9 (s, adv) c = s ∧ k = i := fun k => by
    unfold sideI
    rw [occ_mem]
    constructor
    · rintro ⟨i, h1, h2, rfl⟩
      rw [List.getElem?_map] at h2
      cases q : cs[i]? with
      | none => rw [q] at h2; cases h2
      | some c =>
        rw [q] at h2
        exact ⟨i, c, q, by have := Option.some.inj h2; exact this, rfl⟩
    · rintro ⟨i, c, h1, h2, rfl⟩
      refine ⟨i, (List.getElem?_eq_some_iff.mp h1).1, ?_, rfl⟩
      rw [List.getElem?_map, h1]
      exact congrArg some h2
  constructor
  · rintro ⟨h1, h2⟩
    obtain ⟨k, hk⟩ := List.exists_mem_of_length_pos h1
    obtain ⟨i, c, q, e, rfl⟩ := (mem k).mp hk
    refine ⟨⟨c, List.mem_of_getElem? q, e⟩, fun c hc e => ?_⟩
    obtain ⟨j, hj⟩ := List.mem_iff_getElem?.mp hc
    have z := h2 _ (List.mem_map.mpr ⟨(j : Int), (mem j).mpr ⟨j, c, hj, e, rfl⟩, rfl⟩)
    rw [rdyK_at hj] at z
    unfold rdy ld at z
    simp only [id, Bool.and_eq_true, decide_eq_true_eq] at z
    exact z
  · rintro ⟨⟨c, hc, e⟩, h⟩
    obtain ⟨j, hj⟩ := List.mem_iff_getElem?.mp hc
    refine ⟨List.length_pos_of_mem ((mem j).mpr ⟨j, c, hj, e, rfl⟩), fun b hb => ?_⟩
    obtain ⟨k, hk, rfl⟩ := List.mem_map.mp hb
    obtain ⟨i, c, q, e, rfl⟩ := (mem k).mp hk
    rw [rdyK_at q]
    have z := h c (List.mem_of_getElem? q) e
    unfold rdy ld
    simp only [id, Bool.and_eq_true, decide_eq_true_eq]
    exact z
theorem beh_stp (ns : List Int) (m : Mv9) : behM ns m.1 m.2 = stp9 ns m := rfl
end WC

set_option maxHeartbeats 8000000
namespace WC
open PySem PySem.Spec PyProof.Rows L2
/-! a pipeline: where nothing is objected, a run of the fewest moves leads there -/
def NoOb (n : Nat) (cs : List Tri) (a b : List Int) : Prop :=
  (∀ k : Nat, k < n → gi a k < gi b k → ∃ c ∈ cs, c.2.1 = k) ∧ (∀ k : Nat, k < n → gi b k < gi a k → ∃ c ∈ cs, c.1 = k) ∧
  (∀ c ∈ cs, (gi b c.1 < gi a c.1 ∨ gi a c.2.1 < gi b c.2.1) → gi a c.1 - gi a c.2.1 ≤ c.2.2 ∧ gi b c.2.1 ≤ gi b c.1)
theorem noOb_iff {n : Nat} {cs : List Tri} {a b : List Int} {U : List Obj_} (h : AllOb cs a b n false U) : U = [] ↔ NoOb n cs a b := by
  rw [allOb_nil h]
  exact ⟨fun ⟨x, y, z, _⟩ => ⟨x, y, z⟩, fun ⟨x, y, z⟩ => ⟨x, y, z, fun e => by cases e⟩⟩
/-- the least of those below n, by two keys -/
theorem pick_least (f : Nat → Int) (g : Nat → Int) (Pv : Nat → Prop) : ∀ n : Nat, (∃ k, k < n ∧ Pv k) → ∃ k, k < n ∧ Pv k ∧ ∀ j, j < n → Pv j → f k < f j ∨ (f k = f j ∧ g k ≤ g j)
  | 0, ⟨k, h, _⟩ => absurd h (Nat.not_lt_zero k)
  | n + 1, h => by
    by_cases e : ∃ k, k < n ∧ Pv k
    · obtain ⟨k, hk, pk, mk⟩ := pick_least f g Pv n e
      by_cases pn : Pv n
      · by_cases le : f k < f n ∨ (f k = f n ∧ g k ≤ g n)
        · refine ⟨k, by omega, pk, fun j hj pj => ?_⟩
          by_cases ej : j = n
          · rw [ej]; exact le
          · exact mk j (by omega) pj
        · refine ⟨n, by omega, pn, fun j hj pj => ?_⟩
          by_cases ej : j = n
          · rw [ej]; exact .inr ⟨rfl, Int.le_refl _⟩
          · have := mk j (by omega) pj
            omega
      · refine ⟨k, by omega, pk, fun j hj pj => ?_⟩
        by_cases ej : j = n
        · rw [ej] at pj; exact absurd pj pn
        · exact mk j (by omega) pj
    · obtain ⟨k, hk, pk⟩ := h
      have : k = n := by
        by_cases q : k < n
        · exact absurd ⟨k, q, pk⟩ e
        · omega
      subst this
      refine ⟨k, by omega, pk, fun j hj pj => ?_⟩
      by_cases ej : j = k
      · rw [ej]; exact .inr ⟨rfl, Int.le_refl _⟩
      · exact absurd ⟨j, by omega, pj⟩ e
theorem up_step {n : Nat} {cs : List Tri} {a b : List Int} {r : Int → Int} (ok : ∀ c ∈ cs, ChOk n c) (la : a.length = n) (hr : ∀ c ∈ cs, r c.1 < r c.2.1) (N : NoOb n cs a b) (h : ∃ k : Nat, k < n ∧ gi a k < gi b k) :
    ∃ k : Nat, k < n ∧ gi a k < gi b k ∧ alw9 cs a ((k : Int), true) = true ∧ NoOb n cs (stp9 a ((k : Int), true)) b := by
  obtain ⟨k, hk, rk, mk⟩ := pick_least (fun j => gi a j) (fun j => r j) (fun j => gi a j < gi b j) n h
  obtain ⟨N1, N2, N3⟩ := N
  have st : ∀ j : Int, 0 ≤ j → gi (stp9 a ((k : Int), true)) j = if j = k then gi a k + 1 else gi a j := fun j j0 => gi_stp (m := ((k : Int), true)) (by show (0 : Int) ≤ k; omega) (by show (k : Int) < a.length; omega) j0
  refine ⟨k, hk, rk, alw9_iff.mpr ⟨?_, ?_⟩, ?_, ?_, ?_⟩
  · obtain ⟨c, hc, e⟩ := N1 k hk rk
    exact ⟨c, hc, e⟩
  · intro c hc e
    have e : c.2.1 = k := e
    obtain ⟨⟨b1, b2⟩, ⟨b3, b4⟩, b5, b6, b7⟩ := ok c hc
    obtain ⟨z1, z2⟩ := N3 c hc (.inr (by rw [e]; exact rk))
    rw [e] at z1 z2 ⊢
    refine ⟨?_, z1⟩
    by_cases q : gi a k < gi a c.1
    · omega
    · obtain ⟨p, ep⟩ : ∃ p : Nat, c.1 = p := ⟨c.1.toNat, by omega⟩
      rw [ep] at q z2 ⊢
      have rp : gi a p < gi b p := by omega
      have rr := hr c hc
      rw [ep, e] at rr
      have := mk p (by omega) rp
      omega
  · intro j hj h1
    rw [st j (by omega)] at h1
    split at h1
    · rename_i e
      have e : j = k := by omega
      rw [e]
      exact N1 k hk rk
    · exact N1 j hj h1
  · intro j hj h1
    rw [st j (by omega)] at h1
    split at h1
    · rename_i e
      have e : j = k := by omega
      rw [e] at h1
      omega
    · exact N2 j hj h1
  · intro c hc dr
    obtain ⟨⟨b1, b2⟩, ⟨b3, b4⟩, b5, b6, b7⟩ := ok c hc
    rw [st c.1 b1, st c.2.1 b3] at dr ⊢
    by_cases e1 : c.1 = k
    · by_cases e2 : c.2.1 = k
      · exact absurd (e1.trans e2.symm) (by omega)
      · rw [if_pos e1, if_neg e2] at dr ⊢
        obtain ⟨q, eq⟩ : ∃ q : Nat, c.2.1 = q := ⟨c.2.1.toNat, by omega⟩
        have rq : gi a c.2.1 < gi b c.2.1 := by
          rcases dr with d | d
          · rw [e1] at d; omega
          · exact d
        obtain ⟨z1, z2⟩ := N3 c hc (.inr rq)
        refine ⟨?_, z2⟩
        rw [eq] at rq ⊢
        have := mk q (by omega) rq
        omega
    · rw [if_neg e1] at dr ⊢
      by_cases e2 : c.2.1 = k
      · rw [if_pos e2] at dr ⊢
        obtain ⟨z1, z2⟩ := N3 c hc (.inr (by rw [e2]; exact rk))
        rw [e2] at z1
        exact ⟨by omega, z2⟩
      · rw [if_neg e2] at dr ⊢
        exact N3 c hc dr
theorem down_step {n : Nat} {cs : List Tri} {a b : List Int} {r : Int → Int} (ok : ∀ c ∈ cs, ChOk n c) (la : a.length = n) (hr : ∀ c ∈ cs, r c.1 < r c.2.1) (N : NoOb n cs a b) (h : ∃ k : Nat, k < n ∧ gi b k < gi a k) :
    ∃ k : Nat, k < n ∧ gi b k < gi a k ∧ alw9 cs a ((k : Int), false) = true ∧ NoOb n cs (stp9 a ((k : Int), false)) b := by
  obtain ⟨k, hk, rk, mk⟩ := pick_least (fun j => - gi a j) (fun j => - r j) (fun j => gi b j < gi a j) n h
  obtain ⟨N1, N2, N3⟩ := N
  have st : ∀ j : Int, 0 ≤ j → gi (stp9 a ((k : Int), false)) j = if j = k then gi a k + -1 else gi a j := fun j j0 => gi_stp (m := ((k : Int), false)) (by show (0 : Int) ≤ k; omega) (by show (k : Int) < a.length; omega) j0
  refine ⟨k, hk, rk, alw9_iff.mpr ⟨?_, ?_⟩, ?_, ?_, ?_⟩
  · obtain ⟨c, hc, e⟩ := N2 k hk rk
    exact ⟨c, hc, e⟩
  · intro c hc e
    have e : c.1 = k := e
    obtain ⟨⟨b1, b2⟩, ⟨b3, b4⟩, b5, b6, b7⟩ := ok c hc
    obtain ⟨z1, z2⟩ := N3 c hc (.inl (by rw [e]; exact rk))
    rw [e] at z1 z2 ⊢
    refine ⟨?_, z1⟩
    by_cases q : gi a c.2.1 < gi a k
    · omega
    · obtain ⟨p, ep⟩ : ∃ p : Nat, c.2.1 = p := ⟨c.2.1.toNat, by omega⟩
      rw [ep] at q z2 ⊢
      have rp : gi b p < gi a p := by omega
      have rr := hr c hc
      rw [ep, e] at rr
      have := mk p (by omega) rp
      omega
  · intro j hj h1
    rw [st j (by omega)] at h1
    split at h1
    · rename_i e
      have e : j = k := by omega
      rw [e] at h1
      omega
    · exact N1 j hj h1
  · intro j hj h1
    rw [st j (by omega)] at h1
    split at h1
    · rename_i e
      have e : j = k := by omega
      rw [e]
      exact N2 k hk rk
    · exact N2 j hj h1
  · intro c hc dr
    obtain ⟨⟨b1, b2⟩, ⟨b3, b4⟩, b5, b6, b7⟩ := ok c hc
    rw [st c.1 b1, st c.2.1 b3] at dr ⊢
    by_cases e1 : c.1 = k
    · by_cases e2 : c.2.1 = k
      · exact absurd (e1.trans e2.symm) (by omega)
      · rw [if_pos e1, if_neg e2] at dr ⊢
        obtain ⟨z1, z2⟩ := N3 c hc (.inl (by rw [e1]; exact rk))
        rw [e1] at z1
        exact ⟨by omega, z2⟩
    · rw [if_neg e1] at dr ⊢
      by_cases e2 : c.2.1 = k
      · rw [if_pos e2] at dr ⊢
        obtain ⟨q, eq⟩ : ∃ q : Nat, c.1 = q := ⟨c.1.toNat, by omega⟩
        have rq : gi b c.1 < gi a c.1 := by
          rcases dr with d | d
          · exact d
          · rw [e2] at d; omega
        obtain ⟨z1, z2⟩ := N3 c hc (.inl rq)
        refine ⟨?_, z2⟩
        rw [eq] at rq ⊢
        have := mk q (by omega) rq
        omega
      · rw [if_neg e2] at dr ⊢
        exact N3 c hc dr
end WC

set_option maxHeartbeats 8000000
namespace WC
open PySem PySem.Spec PyProof.Rows L2
/-- a run of k moves from a, its states in S -/
inductive RunIn (S : List Int → Prop) (cs : List Tri) (a : List Int) : Nat → List Int → Prop
  | nil : S a → RunIn S cs a 0 a
  | snoc {k : Nat} {b : List Int} {m : Mv9} : RunIn S cs a k b → alw9 cs b m = true → S (stp9 b m) → RunIn S cs a (k + 1) (stp9 b m)
theorem RunIn.cons {S : List Int → Prop} {cs : List Tri} {a : List Int} {m : Mv9} (sa : S a) (h : alw9 cs a m = true) : ∀ {k : Nat} {c : List Int}, RunIn S cs (stp9 a m) k c → RunIn S cs a (k + 1) c
  | _, _, .nil s1 => .snoc (.nil sa) h s1
  | _, _, .snoc r h2 s2 => .snoc (RunIn.cons sa h r) h2 s2
/-- a move towards b makes the way shorter by one -/
theorem distM_to {a b : List Int} {k : Nat} {up : Bool} (hk : k < a.length) (tw : if up = true then gi a k < gi b k else gi b k < gi a k) : ∀ n : Nat, (n ≤ k → distM (stp9 a ((k : Int), up)) b n = distM a b n) ∧ (k < n → distM (stp9 a ((k : Int), up)) b n = distM a b n - 1)
  | 0 => ⟨fun _ => rfl, fun h => by omega⟩
  | n + 1 => by
    obtain ⟨i1, i2⟩ := distM_to hk tw n
    have st := gi_stp (ns := a) (m := ((k : Int), up)) (k := (n : Int)) (by show (0 : Int) ≤ k; omega) (by show (k : Int) < a.length; omega) (by omega)
    dsimp only at st
    rw [distM_succ, distM_succ, st]
    refine ⟨fun h => ?_, fun h => ?_⟩
    · rw [i1 (by omega), if_neg (show ¬ (n : Int) = (k : Int) by omega)]
    · by_cases e : n = k
      · subst e
        rw [i1 (Nat.le_refl _), if_pos rfl]
        cases up
        · rw [if_neg (by decide)] at tw
          rw [if_neg (show ¬ (false = true) by decide)]
          split <;> split <;> omega
        · rw [if_pos rfl] at tw
          rw [if_pos rfl]
          split <;> split <;> omega
      · rw [i2 (by omega), if_neg (show ¬ (n : Int) = (k : Int) by omega)]
        omega
theorem distM_pos {a b : List Int} : ∀ n : Nat, 0 < distM a b n → ∃ k, k < n ∧ gi a k ≠ gi b k
  | 0, h => by rw [distM_zero] at h; omega
  | n + 1, h => by
    by_cases e : gi a n = gi b n
    · rw [distM_succ, if_neg (by omega)] at h
      obtain ⟨k, hk, q⟩ := distM_pos (a := a) (b := b) n (by omega)
      exact ⟨k, by omega, q⟩
    · exact ⟨n, by omega, e⟩
theorem distM_eq {a b : List Int} : ∀ n : Nat, distM a b n = 0 → ∀ k, k < n → gi a k = gi b k
  | 0, _, k, hk => absurd hk (Nat.not_lt_zero k)
  | n + 1, h, k, hk => by
    have nn := distM_nn a b n
    rw [distM_succ] at h
    have e : gi a n = gi b n := by split at h <;> omega
    by_cases q : k = n
    · rw [q]; exact e
    · exact distM_eq n (by split at h <;> omega) k (by omega)
theorem gi_ext {a b : List Int} (hl : a.length = b.length) (h : ∀ k : Nat, k < a.length → gi a k = gi b k) : a = b := by
  refine List.ext_getElem? fun k => ?_
  by_cases hk : k < a.length
  · have h1 := h k hk
    have e1 : a[k]? = some a[k] := List.getElem?_eq_getElem hk
    have e2 : b[k]? = some (b[k]'(by omega)) := List.getElem?_eq_getElem (by omega)
    rw [gi_at e1, gi_at e2] at h1
    rw [e1, e2, h1]
  · rw [List.getElem?_eq_none (by omega), List.getElem?_eq_none (by omega)]
/-- counters between those of two states -/
def Btwn (n : Nat) (a b x : List Int) : Prop := x.length = n ∧ ∀ j : Nat, j < n → (gi a j ≤ gi x j ∧ gi x j ≤ gi b j) ∨ (gi b j ≤ gi x j ∧ gi x j ≤ gi a j)
theorem run_to {n : Nat} {cs : List Tri} {b : List Int} {r : Int → Int} {S : List Int → Prop} (ok : ∀ c ∈ cs, ChOk n c) (hr : ∀ c ∈ cs, r c.1 < r c.2.1) (lb : b.length = n) : ∀ (d : Nat) (a : List Int), a.length = n → distM a b n = d → NoOb n cs a b → (∀ x, Btwn n a b x → S x) → RunIn S cs a d b
  | 0, a, la, hd, N, hS => by
    have e : a = b := gi_ext (by omega) fun k hk => distM_eq n (by omega) k (by omega)
    rw [e]
    exact .nil (hS b ⟨lb, fun j hj => by rw [e]; exact .inl ⟨Int.le_refl _, Int.le_refl _⟩⟩)
  | d + 1, a, la, hd, N, hS => by
    have sa : S a := hS a ⟨la, fun j hj => by omega⟩
    obtain ⟨k, hk, nk⟩ := distM_pos (a := a) (b := b) n (by omega)
    have main : ∃ (k : Nat) (up : Bool), k < n ∧ (if up = true then gi a k < gi b k else gi b k < gi a k) ∧ alw9 cs a ((k : Int), up) = true ∧ NoOb n cs (stp9 a ((k : Int), up)) b := by
      by_cases q : gi a k < gi b k
      · obtain ⟨j, h1, h2, h3, h4⟩ := up_step ok la hr N ⟨k, hk, q⟩
        exact ⟨j, true, h1, h2, h3, h4⟩
      · obtain ⟨j, h1, h2, h3, h4⟩ := down_step ok la hr N ⟨k, hk, by omega⟩
        exact ⟨j, false, h1, h2, h3, h4⟩
    obtain ⟨j, up, hj, tw, al, N2⟩ := main
    have l2 : (stp9 a ((j : Int), up)).length = n := by rw [stp9_len]; exact la
    have st : ∀ i : Nat, gi (stp9 a ((j : Int), up)) i = if (i : Int) = j then gi a j + (if up = true then 1 else -1) else gi a i := fun i => gi_stp (m := ((j : Int), up)) (by show (0 : Int) ≤ j; omega) (by show (j : Int) < a.length; omega) (by omega)
    refine RunIn.cons sa al (run_to ok hr lb d _ l2 ?_ N2 fun x hx => hS x ⟨hx.1, fun i hi => ?_⟩)
    · have := (distM_to (a := a) (b := b) (k := j) (up := up) (by omega) tw n).2 hj
      omega
    · have h1 := hx.2 i hi
      rw [st i] at h1
      by_cases e : (i : Int) = j
      · have e : i = j := by omega
        subst e
        rw [if_pos rfl] at h1
        cases up
        · rw [if_neg (by decide)] at tw h1
          omega
        · rw [if_pos rfl] at tw h1
          omega
      · rw [if_neg e] at h1
        exact h1
end WC

set_option maxHeartbeats 8000000
namespace WC
open PySem PySem.Spec PyProof.Rows L2
section
variable {P : Program} {w : World} {K : PySem.W.Frag} {mg : Str → Option Value} {base : Heap}
theorem okQ {x qual : Str} {st : Stmt} {f : Addr} {fd : FuncData} {N ps : List Str} {k : Nat} {sp : Sp} (F : Fun K x qual st f fd) (S : FnScope N ps (defScope st)) (len : ∀ vs H Q E, sp vs H Q E → vs.length = ps.length)
    (hbody : ∀ (cdv : Value) (A : Around) (outer : List Env) (s : Shared) (H : Hp) (vs : List V) (Q : VK), L2H.RoomH k (A.deeper (envOfC qual (defScope st) s.heap.objs.size f cdv)) → sp vs H Q E0 →
      ∃ t, PSs (cxQ (L2.CX P w) P w K mg base N qual (defScope st) f cdv A outer s H) (defBody st) t ∧ t { nx := fun _ H' => Q .non H', rt := Q } (start N vs) H) : FnQ P w K mg base (k + 1) f fd ps sp := by
  obtain ⟨oc, od, kV, doc, pm, an, cdv, ct, osl, rfl, lk, hcd⟩ := F.ex
  exact fn_ofQ lk hcd S len fun A outer s H vs Q hr hsp => hbody cdv A outer s H vs Q hr hsp
end
theorem unQ {k : Nat} {A : Around} (r : L2H.RoomH k A) : A.units + 64 < cLine := by have := r.un; omega
def spIsI (K : PySem.W.Frag) : Sp := fun vs H Q _ => ∃ x : V, vs = [x] ∧ Known K H x ∧ Q (.bl (isIV x)) H
theorem unR {k : Nat} {A : Around} (r : Room k A) : A.units + 64 < cLine := by have := r.un; omega
section
variable {P : Program} {w : World} {K : PySem.W.Frag} {mg : Str → Option Value} {base : Heap}
theorem ok_is_integer {f : Addr} {fd : FuncData} (F : Fun K "_law_is_integer" "_law_is_integer" s_law_is_integer f fd) (B : Blt mg) : FnQ P w K mg base 1 f fd ["_law_value"] (spIsI K) := by
  refine okQ F sc_law_is_integer (fun vs H Q E h => ?_) (fun cdv A outer s H vs Q hr h => ?_)
  · obtain ⟨x, rfl, _⟩ := h
    rfl
  · obtain ⟨x, rfl, hk, k⟩ := h
    refine ⟨_, (pss_one (ps_ret (pe_and (pe_callB call_isi (by rfl) B.isi bt_isi (pa_cons (pv 0) (pa_cons (pe_bltn (v := .ty "int") (by rfl) B.int bt_int rfl) pa_nil))) (pe_one (pe_not (pe_callB call_isi (by rfl) B.isi bt_isi (pa_cons (pv 0) (pa_cons (pe_bltn (v := .ty "bool") (by rfl) B.bool bt_bool rfl) pa_nil)))))))), ?_⟩
    refine ⟨_, rfl, _, _, _, _, _, rfl, .ty _, hk.ty, kit_int hk, _, rfl, ?_⟩
    cases x with
    | int i => exact iteT ⟨_, rfl, _, _, _, _, _, rfl, .ty _, hk.ty, kit_bool hk, _, rfl, k⟩
    | bl b => exact iteT ⟨_, rfl, _, _, _, _, _, rfl, .ty _, hk.ty, kit_bool hk, _, rfl, k⟩
    | non => exact iteF k
    | str z => exact iteF k
    | ref a => exact iteF k
    | byt b => exact hk.elim
    | flt b => exact hk.elim
    | ty n => exact hk.elim
end
/-! a def of the module called in a try -/
def tCdS (sp : Sp) (E : L2.St → XK) (t : L2.TA) : TE := fun σ H Q => t σ H fun vs H1 => sp vs H1 Q (E σ)
theorem pe_cdS {X : Cx} {j k : Nat} {sp : Sp} {W : WX} {x : Str} {e : Expr} {es : List Expr} {t : L2.TA} {p pos : Pos} (D : DefR X.prog X.w X.K X.mg X.base x k sp) (hr : Room j X.A) (tk : Takes X W) (ha : PA X (e :: es) t) (hle : k ≤ j := by decide) (hg : Gl X x := by rfl) (hdb : (x == ("__debug__" : Str)) = false := by decide)
    (he : starEach (e :: es) X.env = (false, eval e X.env) :: starEach es X.env := by rfl) (hpl : (backTo pos (starEach es X.env)).any (·.1) = false := by rfl) : PE X (.Call (.Name x p) (e :: es) [] pos) (tCdS sp (WE W) t) := by
  obtain ⟨f, hm, hk, F⟩ := D.ex
  refine ⟨fun pins s σ H Q I h => wpAny_Call_Name_kw (ld_glob I hg hm ?_ hdb)⟩
  refine PySem.W.callWith_K (h₀ := X.base) I.ok.mod.kin hk (thn (ha.run pos pins s σ H _ I h) fun us s1 ⟨vs, H1, I1, r, q⟩ => ⟨I1.kIn, wpAny_call ?_⟩) he hpl
  refine codeAny_mono (F X.A X.stack s1 H1 us vs Q (WE W σ) (hr.mono hle) I1.env0 r q) fun rr s' hq => ?_
  cases rr with
  | error er => exact passAt tk σ pins H1 s1 er s' I1 hq
  | ok fl =>
    cases fl with
    | ret u => exact I1.after hq
    | next => exact False.elim hq
    | brk => exact False.elim hq
    | cont => exact False.elim hq
theorem bt_verr : bootBuiltins "ValueError" = some (.type "ValueError") := by decide +kernel
theorem AllOb.uniq {cs : List Tri} {st tg : List Int} {n : Nat} {ring : Bool} {U U2 : List Obj_} (h : AllOb cs st tg n ring U) (h2 : AllOb cs st tg n ring U2) : U = U2 := by
  rcases h with ⟨e, rfl⟩ | ⟨e, lo, hi, a, b, rfl⟩
  · rcases h2 with ⟨_, rfl⟩ | ⟨e2, _⟩
    · rfl
    · rw [e] at e2; cases e2
  · rcases h2 with ⟨e2, _⟩ | ⟨_, lo2, hi2, a2, b2, rfl⟩
    · rw [e] at e2; cases e2
    · have e1 : lo = lo2 := Int.le_antisymm (a.2 _ a2.1) (a2.2 _ a.1)
      have e2 : hi = hi2 := Int.le_antisymm (b2.2 _ b.1) (b.2 _ b2.1)
      rw [e1, e2]
theorem lexSI_tot {a b : Obj_} (h1 : lexSI a b = false) (h2 : lexSI b a = false) : a = b := by
  have h1 := lexSI_no.mp h1
  have h2 := lexSI_no.mp h2
  have e : a.1 = b.1 := sl_tri (fun z => h1 (.inl z)) (fun z => h2 (.inl z))
  refine Prod.ext e ?_
  have g1 : ¬ a.2 < b.2 := fun z => h1 (.inr ⟨e, z⟩)
  have g2 : ¬ b.2 < a.2 := fun z => h2 (.inr ⟨e.symm, z⟩)
  omega
theorem ob_uniq {os o2 U : List Obj_} (p : os.Perm U) (p2 : o2.Perm U) (s : os.Pairwise fun a b => lexSI b a = false) (s2 : o2.Pairwise fun a b => lexSI b a = false) : os = o2 :=
  List.Perm.eq_of_pairwise (le := fun a b => lexSI b a = false) (fun a b _ _ h1 h2 => lexSI_tot h2 h1) s s2 (p.trans p2.symm)
theorem st_cand9 {K : PySem.W.Frag} {H : Hp} {t : Addr} {n : Nat} {ns : List Int} (h : H t = some (.tup (fS ns))) (so : StOk n ns) (n40 : n ≤ 40) : Cand K H (.ref t) := by
  refine ⟨.inl ⟨_, h⟩, fun t2 xs e h2 => ?_⟩
  cases e
  rw [h] at h2
  cases h2
  refine ⟨?_, fun y hy => ?_⟩
  · unfold fS; rw [List.length_map, so.1]; omega
  · obtain ⟨c, _, rfl⟩ := List.mem_map.mp hy
    trivial
theorem st_good9 {K : PySem.W.Frag} {H : Hp} {t : Addr} {n : Nat} {ns : List Int} {p : V} {A : Prop} (h : H t = some (.tup (fS ns))) (so : StOk n ns) (b : StBad K H n (.ref t) p) : A := by
  generalize e : V.ref t = v at b
  cases b with
  | shape k hh => exact absurd (show (fS ns).length = n by unfold fS; rw [List.length_map, so.1]) (hh t _ e.symm h)
  | @item t2 xs x i ht hl hi hx hb hk =>
    cases e
    rw [h] at ht
    cases ht
    unfold fS at hi
    rw [List.getElem?_map] at hi
    cases q : ns[i]? with
    | none => rw [q] at hi; cases hi
    | some c =>
      rw [q] at hi
      have e2 := Option.some.inj hi
      obtain ⟨c0, c1⟩ := so.2 c (List.mem_of_getElem? q)
      rw [← e2, btw_in c0 c1] at hx
      cases hx
theorem fS_inj : ∀ {a b : List Int}, fS a = fS b → a = b
  | [], [], _ => rfl
  | [], _ :: _, h => by cases h
  | _ :: _, [], h => by cases h
  | x :: a, y :: b, h => by
    unfold fS at h
    rw [List.map_cons, List.map_cons] at h
    have h1 := List.cons.inj h
    rw [V.int.inj h1.1, fS_inj (a := a) (b := b) h1.2]
theorem st_same9 {H : Hp} {t : Addr} {ns ms : List Int} (h : H t = some (.tup (fS ns))) (a : StAt H (.ref t) ms) : ms = ns := by
  obtain ⟨t2, e, h2⟩ := a
  cases e
  rw [h] at h2
  injection h2 with h2
  injection h2 with h2
  exact (fS_inj h2).symm
def MvR (H : Hp) (m : Int × Bool) (v : V) : Prop := MvAt H v m.1 m.2
theorem mvr_same {H H2 : Hp} {ms : List (Int × Bool)} {vs : List V} (s : Same H H2) (h : Paired (MvR H) ms vs) : Paired (MvR H2) ms vs := Paired.mapP h fun _ _ m => MvAt.same m s
end WC

set_option maxHeartbeats 8000000
namespace WC
open PySem PySem.Spec PyProof.Rows L2
theorem pt_truthK {X : Cx} {K : PySem.W.Frag} {a : Expr} {ta : TE} (ha : PE X a ta) (he : ∀ whole, isTrue a X.env whole = (do let v ← whole; standAt a.pos; holding [v] (truthy v))) (h : X.K = K := by rfl) : PT X a (fun σ H Q => ta σ H fun x H' => ∃ k, TruV K x H' k ∧ Q k H') := by
  subst h
  exact pt_truth ha he
/-! the moves towards a target, those that begin a plan, those behind which it is still reached -/
def spChOT (CS : List Addr) : Sp := fun vs H Q _ => ∃ (C x s t M : Addr) (n : Nat) (cs : List Tri) (st tg ms : List Int), C ∈ CS ∧ vs = [.ref x, .ref s, .ref t, .ref M] ∧ NetAt H x C n cs ∧ NOk n cs ∧ H s = some (.tup (st.map V.int)) ∧ st.length = n ∧ H t = some (.tup (tg.map V.int)) ∧ tg.length = n ∧ H M = some (.tup (ms.map V.int)) ∧ (∀ k ∈ ms, 0 ≤ k ∧ k < cs.length) ∧ ms.length ≤ 1000 ∧
  ∀ L ks H2, Same H H2 → H L = none → H2 L = some (.lst ks) → Paired (ObA H2) (ms.flatMap (chanOb cs st tg)) ks → Q (.ref L) H2
def twK (a b : List Int) (k : Nat) : List (Int × Bool) := if gi a k < gi b k then [((k : Int), true)] else if gi b k < gi a k then [((k : Int), false)] else []
def twM (a b : List Int) (n : Nat) : List (Int × Bool) := (List.range n).flatMap (twK a b)
theorem twM_succ (a b : List Int) (n : Nat) : twM a b (n + 1) = twM a b n ++ twK a b n := by
  unfold twM
  rw [List.range_succ, List.flatMap_append, List.flatMap_singleton]
theorem twK_len (a b : List Int) (k : Nat) : (twK a b k).length ≤ 1 := by
  unfold twK
  split
  · exact Nat.le_refl _
  · split
    · exact Nat.le_refl _
    · exact Nat.zero_le _
theorem twM_len (a b : List Int) : ∀ n, (twM a b n).length ≤ n
  | 0 => Nat.le_refl _
  | n + 1 => by
    rw [twM_succ, List.length_append]
    have := twM_len a b n
    have := twK_len a b n
    omega
theorem twM_mem {a b : List Int} {m : Int × Bool} : ∀ {n : Nat}, m ∈ twM a b n → 0 ≤ m.1 ∧ m.1 < n ∧ (if m.2 = true then gi a m.1 < gi b m.1 else gi b m.1 < gi a m.1)
  | 0, h => by cases h
  | n + 1, h => by
    rw [twM_succ] at h
    rcases List.mem_append.mp h with z | z
    · have := twM_mem z
      exact ⟨this.1, by omega, this.2.2⟩
    · unfold twK at z
      split at z
      · rw [List.mem_singleton.mp z]; exact ⟨by show (0 : Int) ≤ n; omega, by show (n : Int) < ((n + 1 : Nat) : Int); omega, by rw [if_pos rfl]; assumption⟩
      · split at z
        · rw [List.mem_singleton.mp z]; exact ⟨by show (0 : Int) ≤ n; omega, by show (n : Int) < ((n + 1 : Nat) : Int); omega, by rw [if_neg (show ¬ ((false : Bool) = true) by decide)]; assumption⟩
        · cases z
/-- a move begins a plan: allowed, and its other side's channels object to nothing behind it -/
def begB (cs : List Tri) (a b : List Int) (m : Int × Bool) : Bool := alw cs a m.1 m.2 && decide (((sideI cs (!m.2) m.1).flatMap (chanOb cs (behM a m.1 m.2) b)).length = 0)
def spTw : Sp := fun vs H Q _ => ∃ (s t : Addr) (n : Nat) (st tg : List Int), vs = [.ref s, .ref t] ∧ H s = some (.tup (st.map V.int)) ∧ st.length = n ∧ n ≤ 40 ∧ H t = some (.tup (tg.map V.int)) ∧ tg.length = n ∧ ∀ L ks H2, Same H H2 → H L = none → H2 L = some (.lst ks) → Paired (MvR H2) (twM st tg n) ks → Q (.ref L) H2
def spBeg (CS : List Addr) : Sp := fun vs H Q _ => ∃ (C x s t : Addr) (v : V) (n : Nat) (cs : List Tri) (st tg : List Int) (m : Int × Bool), C ∈ CS ∧ vs = [.ref x, .ref s, .ref t, v] ∧ NetAt H x C n cs ∧ NOk n cs ∧ H s = some (.tup (st.map V.int)) ∧ st.length = n ∧ H t = some (.tup (tg.map V.int)) ∧ tg.length = n ∧ MvR H m v ∧ 0 ≤ m.1 ∧ m.1 < n ∧ ∀ H2, Same H H2 → Q (.bl (begB cs st tg m)) H2
theorem mvr_on {H H2 : Hp} {D : Addr} {ms : List (Int × Bool)} {ks : List V} (h : Paired (MvR H) ms ks) (s : SameB D H H2) (hb : ∃ us, H D = some (.lst us)) : Paired (MvR H2) ms ks := Paired.mapP h fun _ _ ⟨t, e, q⟩ => ⟨t, e, s _ _ q (ne_of q hb.choose_spec (by intro z; cases z))⟩
section
variable {P : Program} {w : World} {K : PySem.W.Frag} {mg : Str → Option Value} {base : Heap}
theorem ok_channel_objections_t {f : Addr} {CS : List Addr} {fd : FuncData} (F : Fun K "_channel_objections" "_channel_objections" s_channel_objections f fd) (TC : ∀ C ∈ CS, NetCls K C) (g_draws_from : DefR P w K mg base "draws_from" 1 spDrw) :
    FnOk P w K mg base (L2.CX P w) 2 f fd ["net", "start", "target", "channels"] (spChOT CS) := by
  refine F.okX sc_channel_objections (fun vs H Q E h => ?_) (fun cdv A outer s H vs Q E hr h => ?_)
  · obtain ⟨C, x, s, t, M, n, cs, st, tg, ms, _, rfl, _⟩ := h
    rfl
  · obtain ⟨C, x, s, t, M, n, cs, st, tg, ms, hC, rfl, NA, G, hs, ls, ht, lt, hM, hb, lm, q⟩ := h
    have hlen := G.len
    obtain ⟨dx, tc, ti, to, ws, hx, htc, hpw, _⟩ := NA.ex
    have T1 := TC C hC
    -- slots: 0 net, 1 start, 2 target, 3 channels, 4 found, 5 channel, 6 producer, 7 consumer, 8 capacity
    refine ⟨_, (pss_cons (ps_set (i := 4) sc_channel_objections.nd rfl (Or.inl rfl) (pe_lst pa_nil))
      (pss_cons (ps_for (passes_of rfl) rfl (pi_tup (pv 3)) (pg_name (i := 5) sc_channel_objections.nd rfl (Or.inl rfl))
        (pss_one (ps_if (pt_val (pe_cd g_draws_from hr psE (pa_cons (pv 1) (pa_cons (pv 2) (pa_cons (pe_ix ix_tup (pe_fld (pv 0) rfl) (pv 5) (fun _ _ => rfl)) pa_nil))))) (pss_cons (ps_asg (pe_ix ix_tup (pe_fld (pv 0) rfl) (pv 5) (fun _ _ => rfl)) (pg_tup rfl (pgs_cons (pg_name (i := 6) sc_channel_objections.nd rfl (Or.inl rfl)) (pgs_cons (pg_name (i := 7) sc_channel_objections.nd rfl (Or.inl rfl)) (pgs_cons (pg_name (i := 8) sc_channel_objections.nd rfl (Or.inl rfl)) pgs_nil)))))
      (pss_cons (ps_if (pt_cmpR op_gt (pe_op op_sub (pe_ix ix_tup (pv 1) (pv 6) (fun _ _ => rfl)) (pe_ix ix_tup (pv 1) (pv 7) (fun _ _ => rfl))) (pv 8) (nomark _)) (pss_one (ps_expr (pe_bm PySem.F.plainAttrs_list PySem.F.slot_list_append PySem.F.type_list_append mt_append (pv 4) (pa_cons (pe_tup (pa_cons pe_str (pa_cons (pv 5) pa_nil))) pa_nil)))) pss_nil)
      (pss_one (ps_if (pt_cmpR op_lt (pe_ix ix_tup (pv 2) (pv 6) (fun _ _ => rfl)) (pe_ix ix_tup (pv 2) (pv 7) (fun _ _ => rfl)) (nomark _)) (pss_one (ps_expr (pe_bm PySem.F.plainAttrs_list PySem.F.slot_list_append PySem.F.type_list_append mt_append (pv 4) (pa_cons (pe_tup (pa_cons pe_str (pa_cons (pv 5) pa_nil))) pa_nil)))) pss_nil)))) pss_nil)))
      (pss_one (ps_ret (pv 4))))), ?_⟩
    refine ⟨by show 0 ≤ sizeLine; decide, fun L nL => ?_⟩
    refine ⟨_, rfl, M, rfl, ⟨_, SqT.of (Same.new nL _ _ hM)⟩, for_tup (K := K) (a := M) (xs := ms.map V.int) (fun i σ H2 => ∃ ks v5 v6 v7 v8, σ = [some (.ref x), some (.ref s), some (.ref t), some (.ref M), some (.ref L), v5, v6, v7, v8] ∧ Same H H2 ∧ H2 L = some (.lst ks) ∧ Paired (ObA H2) ((ms.take i).flatMap (chanOb cs st tg)) ks) ⟨[], _, _, _, _, rfl, Same.new nL, upd_same, .nil⟩ (fun i σ H2 _ ⟨_, _, _, _, _, _, s2, _⟩ => SqT.of (s2 _ _ hM)) ?_ ?_⟩
    rotate_left
    · rintro σ H2 ⟨ks, v5, v6, v7, v8, rfl, s2, hL, hp⟩
      rw [List.length_map, List.take_length] at hp
      exact ⟨_, rfl, q L ks H2 s2 nL hL hp⟩
    rintro i y σ H2 hy ⟨ks, v5, v6, v7, v8, rfl, s2, hL, hp⟩
    rw [List.getElem?_map] at hy
    obtain ⟨k0, hk0, rfl⟩ : ∃ k0, ms[i]? = some k0 ∧ V.int k0 = y := by
      cases e : ms[i]? with
      | none => rw [e] at hy; cases hy
      | some k0 => rw [e] at hy; exact ⟨k0, rfl, Option.some.inj hy⟩
    obtain ⟨b0, b1⟩ := hb k0 (List.mem_of_getElem? hk0)
    obtain ⟨k, rfl⟩ : ∃ k : Nat, k0 = k := ⟨k0.toNat, by omega⟩
    obtain ⟨c, hc⟩ : ∃ c, cs[k]? = some c := ⟨_, List.getElem?_eq_getElem (by omega)⟩
    obtain ⟨u, hu, hcA⟩ := pr_to hpw hc
    have okc := G.ok c (List.mem_of_getElem? hc)
    obtain ⟨⟨c1, c2⟩, ⟨c3, c4⟩, _⟩ := okc
    have im := (List.getElem?_eq_some_iff.mp hk0).1
    have lks : ks.length ≤ 2 * i := by
      rw [← hp.length]
      have := chanObs_len cs st tg (ms.take i)
      rw [List.length_take] at this
      omega
    have fin : ∀ {H3 : Hp} {ks2 : List V} {os : List Obj_} {v6 v7 v8 : Option V}, Same H H3 → H3 L = some (.lst ks2) → Paired (ObA H3) ((ms.take i).flatMap (chanOb cs st tg) ++ os) ks2 → os = chanOb cs st tg k → ∃ ks v5' v6' v7' v8', [some (V.ref x), some (.ref s), some (.ref t), some (.ref M), some (.ref L), some (.int k), v6, v7, v8] = [some (V.ref x), some (.ref s), some (.ref t), some (.ref M), some (.ref L), v5', v6', v7', v8'] ∧ Same H H3 ∧ H3 L = some (.lst ks) ∧ Paired (ObA H3) ((ms.take (i + 1)).flatMap (chanOb cs st tg)) ks := fun a b c d => by
      subst d
      refine ⟨_, _, _, _, _, rfl, a, b, ?_⟩
      rw [take_snoc hk0, List.flatMap_append, List.flatMap_singleton]
      exact c
    have ecb := chanOb_at (st := st) (tg := tg) hc
    obtain ⟨tu, rfl, htu⟩ := hcA
    refine ⟨_, rfl, _, rfl, _, rfl, x, C, dx, _, _, rfl, s2 _ _ hx, T1.cl, T1.nC, lk_ch, _, rfl, tc, _, _, _, rfl, rfl, SqT.of (s2 _ _ htc), atI_nat hu, s, t, .ref tu, n, st, tg, c, rfl, s2 _ _ hs, ls, s2 _ _ ht, lt, ⟨tu, rfl, s2 _ _ htu⟩, G.ok c (List.mem_of_getElem? hc), _, rfl, ite2 (fun ed => ?_) (fun ed => ?_)⟩
    rotate_left
    · exact fin s2 hL (by rw [List.append_nil]; exact hp) (by rw [ecb, if_neg ed])
    rw [if_pos ed] at ecb
    refine ⟨_, rfl, x, C, dx, _, _, rfl, s2 _ _ hx, T1.cl, T1.nC, lk_ch, _, rfl, tc, _, _, _, rfl, rfl, SqT.of (s2 _ _ htc), atI_nat hu, tu, _, rfl, SqT.of (s2 _ _ htu), rfl, _, _, rfl, _, _, rfl, _, _, rfl, rfl, ?_⟩
    dsimp only
    refine seq_mid (fun σ H3 => ∃ ks, σ = [some (.ref x), some (.ref s), some (.ref t), some (.ref M), some (.ref L), some (.int k), some (.int c.1), some (.int c.2.1), some (.int c.2.2)] ∧ Same H H3 ∧ H3 L = some (.lst ks) ∧ ks.length ≤ 2 * i + 1 ∧ Paired (ObA H3) ((ms.take i).flatMap (chanOb cs st tg) ++ (if c.2.2 < gi st c.1 - gi st c.2.1 then [(("jammed" : Str), (k : Int))] else [])) ks) (fun N hN => ?_) ?_
    · refine ⟨_, rfl, _, rfl, s, _, _, _, rfl, rfl, SqT.of (s2 _ _ hs), at_st ls c1 c2, _, rfl, _, rfl, s, _, _, _, rfl, rfl, SqT.of (s2 _ _ hs), at_st ls c3 c4, _, _, rfl, rfl, _, rfl, _, _, rfl, rfl, _, rfl, ite2 (fun e => ?_) (fun e => ?_)⟩
      · refine ⟨_, rfl, .inl ⟨rfl, _, SqL.of hL⟩, _, rfl, by show 2 ≤ sizeLine; decide, fun T nT => ?_⟩
        obtain ⟨g1, g2, g3⟩ := obs_add (w := "jammed") (k := (k : Int)) s2 nL hL hp nT
        refine ⟨L, _, _, rfl, rfl, g1, line_lt (by omega), hN _ _ ⟨_, rfl, g2, upd_same, by rw [List.length_append]; show _ + 1 ≤ _; omega, ?_⟩⟩
        rw [if_pos (of_decide_eq_true e)]
        exact g3
      · refine hN _ _ ⟨ks, rfl, s2, hL, by omega, ?_⟩
        rw [if_neg (fun z => e (decide_eq_true z)), List.append_nil]
        exact hp
    clear hp hL s2 lks
    clear ks H2
    rintro σ H2 ⟨ks, rfl, s2, hL, lks, hp⟩
    refine ⟨_, rfl, _, rfl, t, _, _, _, rfl, rfl, SqT.of (s2 _ _ ht), at_st lt c1 c2, _, rfl, _, rfl, t, _, _, _, rfl, rfl, SqT.of (s2 _ _ ht), at_st lt c3 c4, _, _, rfl, rfl, _, rfl, ite2 (fun e => ?_) (fun e => ?_)⟩
    · refine ⟨_, rfl, .inl ⟨rfl, _, SqL.of hL⟩, _, rfl, by show 2 ≤ sizeLine; decide, fun T nT => ?_⟩
      obtain ⟨g1, g2, g3⟩ := obs_add (w := "orphan") (k := (k : Int)) s2 nL hL hp nT
      exact ⟨L, _, _, rfl, rfl, g1, line_lt (by omega), fin g2 upd_same (by rw [← List.append_assoc]; exact g3) (by rw [ecb, if_pos (of_decide_eq_true e)])⟩
    · exact fin s2 hL hp (by rw [ecb, if_neg (fun z => e (decide_eq_true z)), List.append_nil])
theorem ok_moves_towards {f : Addr} {fd : FuncData} (F : Fun K "_moves_towards" "_moves_towards" s_moves_towards f fd) (B : Blt mg) (B2 : Blt3 mg) : FnOk P w K mg base (L2.CX P w) 1 f fd ["start", "target"] spTw := by
  refine F.okX sc_moves_towards (fun vs H Q E h => ?_) (fun cdv A outer s H vs Q E hr h => ?_)
  · obtain ⟨s, t, n, st, tg, rfl, _⟩ := h
    rfl
  · obtain ⟨s0, t0, n, st, tg, rfl, hs, ls, n40, ht, lt, q⟩ := h
    -- slots: 0 start, 1 target, 2 moves, 3 stage, 4 counter, 5 wanted
    refine ⟨_, (pss_cons (ps_set (i := 2) sc_moves_towards.nd rfl (Or.inl rfl) (pe_lst pa_nil))
      (pss_cons (ps_for (passes_of rfl) rfl (pi_ez B.enum B2.zip (pa_cons (pv 0) (pa_cons (pv 1) pa_nil))) (pg_tup rfl (pgs_cons (pg_name (i := 3) sc_moves_towards.nd rfl (Or.inl rfl)) (pgs_cons (pg_tup rfl (pgs_cons (pg_name (i := 4) sc_moves_towards.nd rfl (Or.inl rfl)) (pgs_cons (pg_name (i := 5) sc_moves_towards.nd rfl (Or.inl rfl)) pgs_nil))) pgs_nil)))
        (pss_one (ps_if (pt_cmpR op_lt (pv 4) (pv 5) (nomark _)) (pss_one (ps_expr (pe_bm PySem.F.plainAttrs_list PySem.F.slot_list_append PySem.F.type_list_append mt_append (pv 2) (pa_cons (pe_tup (pa_cons (pv 3) (pa_cons pe_str pa_nil))) pa_nil)))) (pss_one (ps_if (pt_cmpR op_gt (pv 4) (pv 5) (nomark _)) (pss_one (ps_expr (pe_bm PySem.F.plainAttrs_list PySem.F.slot_list_append PySem.F.type_list_append mt_append (pv 2) (pa_cons (pe_tup (pa_cons (pv 3) (pa_cons pe_str pa_nil))) pa_nil)))) pss_nil)))))
      (pss_one (ps_ret (pv 2))))), ?_⟩
    refine ⟨by show 0 ≤ sizeLine; decide, fun D nD => ?_⟩
    have s1 : Same H (upd H D (.lst [])) := Same.new nD
    refine ⟨_, rfl, _, rfl, s0, t0, _, _, true, true, rfl, SqT.of (s1 _ _ hs), SqT.of (s1 _ _ ht), for_it (walk_ez (K := K) (k1 := true) (k2 := true) (a := s0) (b := t0) (xs := st.map V.int) (ys := tg.map V.int) (by rw [List.length_map, List.length_map]; omega)) (fun i σ H2 => ∃ v3 v4 v5 ks, σ = [some (.ref s0), some (.ref t0), some (.ref D), v3, v4, v5] ∧ Same H H2 ∧ H2 D = some (.lst ks) ∧ Paired (MvR H2) (twM st tg i) ks) ⟨_, _, _, [], rfl, s1, upd_same, .nil⟩ (fun i σ H2 _ z => ?_) ?_ ?_⟩
    · obtain ⟨_, _, _, _, _, z, _⟩ := z
      exact ⟨SqT.of (z _ _ hs), SqT.of (z _ _ ht)⟩
    · rintro i x σ H2 H3 hi ⟨v3, v4, v5, ks, rfl, s2, hD, pk⟩ ⟨U, T, a, b, rfl, nU, nT, rfl, ea, eb⟩
      rw [List.length_map] at hi
      have ha : a = .int (gi st i) := by
        have ea : (st.map V.int)[i]? = some a := ea
        rw [List.getElem?_map, List.getElem?_eq_getElem hi] at ea
        rw [gi_at (List.getElem?_eq_getElem hi)]
        exact (Option.some.inj ea).symm
      have hb : b = .int (gi tg i) := by
        have hi2 : i < tg.length := by omega
        have eb : (tg.map V.int)[i]? = some b := eb
        rw [List.getElem?_map, List.getElem?_eq_getElem hi2] at eb
        rw [gi_at (List.getElem?_eq_getElem hi2)]
        exact (Option.some.inj eb).symm
      subst ha hb
      obtain ⟨H4, e4⟩ : ∃ H4, H4 = upd H2 U (.tup [.int (gi st i), .int (gi tg i)]) := ⟨_, rfl⟩
      obtain ⟨H5, e5⟩ : ∃ H5, H5 = upd H4 T (.tup [.int (i : Nat), .ref U]) := ⟨_, rfl⟩
      rw [← e4] at nT
      rw [← e4, ← e5]
      have s4 : Same H2 H4 := by rw [e4]; exact Same.new nU
      have s5 : Same H4 H5 := by rw [e5]; exact Same.new nT
      have s25 := s4.trans s5
      have hU5 : H5 U = some (.tup [.int (gi st i), .int (gi tg i)]) := s5 _ _ (by rw [e4, upd_same])
      have hT5 : H5 T = some (.tup [.int (i : Nat), .ref U]) := by rw [e5, upd_same]
      have hD5 := s25 _ _ hD
      have pk5 := mvr_same s25 pk
      have lk := pk.length
      have lw := twM_len st tg i
      -- a move more, at a new tuple
      have add : ∀ {adv : Bool} {H6 : Hp} {p : Addr}, H5 p = none → twK st tg i = [((i : Int), adv)] → H6 = upd H5 p (.tup [.int (i : Nat), .str (kw adv)]) → ∃ v3 v4 v5 ks', [some (V.ref s0), some (V.ref t0), some (V.ref D), some (V.int (i : Nat)), some (V.int (gi st i)), some (V.int (gi tg i))] = [some (V.ref s0), some (V.ref t0), some (V.ref D), v3, v4, v5] ∧ Same H (upd H6 D (.lst (ks ++ [.ref p]))) ∧ (upd H6 D (.lst (ks ++ [.ref p]))) D = some (.lst ks') ∧ Paired (MvR (upd H6 D (.lst (ks ++ [.ref p])))) (twM st tg (i + 1)) ks' := fun {adv H6 p} np e e6 => by
        have s6 : Same H5 H6 := by rw [e6]; exact Same.new np
        have hD6 := s6 _ _ hD5
        refine ⟨_, _, _, _, rfl, Same.newer ((s2.trans s25).trans s6) nD, upd_same, ?_⟩
        rw [twM_succ, e]
        refine pr_snoc (mvr_on (mvr_same s6 pk5) (SameB.refl D H6).upd ⟨_, hD6⟩) ⟨p, rfl, ?_⟩
        rw [upd_ne (ne_of_none hD5 np).symm, e6, upd_same]
      refine ⟨T, _, rfl, SqT.of hT5, rfl, _, _, rfl, _, _, rfl, U, _, rfl, SqT.of hU5, rfl, _, _, rfl, _, _, rfl, rfl, rfl, ?_⟩
      refine ⟨_, rfl, _, rfl, _, _, rfl, rfl, _, rfl, ite2 (fun e => ?_) (fun e => ?_)⟩
      · have e := of_decide_eq_true e
        refine ⟨_, rfl, .inl ⟨rfl, _, SqL.of hD5⟩, _, rfl, by show 2 ≤ sizeLine; decide, fun p np => ?_⟩
        have hD6 := Same.new (o := .tup [.int (i : Nat), .str (kw true)]) np _ _ hD5
        exact ⟨D, _, _, rfl, rfl, hD6, line_lt (by omega), add (adv := true) np (by unfold twK; rw [if_pos e]) rfl⟩
      · have e := of_decide_eq_false (Bool.eq_false_iff.mpr e)
        refine ⟨_, rfl, _, rfl, _, _, rfl, rfl, _, rfl, ite2 (fun e3 => ?_) (fun e3 => ?_)⟩
        · have e3 := of_decide_eq_true e3
          refine ⟨_, rfl, .inl ⟨rfl, _, SqL.of hD5⟩, _, rfl, by show 2 ≤ sizeLine; decide, fun p np => ?_⟩
          have hD6 := Same.new (o := .tup [.int (i : Nat), .str (kw false)]) np _ _ hD5
          exact ⟨D, _, _, rfl, rfl, hD6, line_lt (by omega), add (adv := false) np (by unfold twK; rw [if_neg e, if_pos e3]) rfl⟩
        · have e3 := of_decide_eq_false (Bool.eq_false_iff.mpr e3)
          refine ⟨_, _, _, ks, rfl, s2.trans s25, hD5, ?_⟩
          rw [twM_succ, show twK st tg i = [] by unfold twK; rw [if_neg e, if_neg e3], List.append_nil]
          exact pk5
    · rintro σ H2 ⟨v3, v4, v5, ks, rfl, s2, hD, pk⟩
      rw [List.length_map, ls] at pk
      exact ⟨_, rfl, q D ks H2 s2 nD hD pk⟩
end
end WC

set_option maxHeartbeats 8000000
namespace WC
open PySem PySem.Spec PyProof.Rows L2
noncomputable def okB (n : Nat) (cs : List Tri) (ring : Bool) (a b : List Int) : Bool := @decide (∃ U, AllOb cs a b n ring U ∧ U = []) (Classical.propDecidable _)
theorem okB_of {n : Nat} {cs : List Tri} {ring : Bool} {a b : List Int} {U : List Obj_} (h : AllOb cs a b n ring U) : okB n cs ring a b = decide (U.length = 0) := by
  unfold okB
  rw [decide_eq_decide]
  constructor
  · rintro ⟨U2, h2, e⟩
    rw [h.uniq h2, e]; rfl
  · exact fun e => ⟨U, h, List.length_eq_zero_iff.mp e⟩
section
variable {P : Program} {w : World} {K : PySem.W.Frag} {mg : Str → Option Value} {base : Heap}
theorem ok_begins_plan {f : Addr} {CS : List Addr} {fd : FuncData} (F : Fun K "_begins_plan" "_begins_plan" s_begins_plan f fd) (g_is_allowed : DefR P w K mg base "is_allowed" 6 (spSM CS rAlw)) (g_side_of : DefR P w K mg base "side_of" 5 (spSide CS)) (g_other_kind : DefR P w K mg base "other_kind" 1 spOK) (g_state_behind : DefR P w K mg base "state_behind" 1 spBeh) (g_channel_objections : DefR P w K mg base "_channel_objections" 2 (spChOT CS)) : FnOk P w K mg base (L2.CX P w) 7 f fd ["net", "state", "target", "move"] (spBeg CS) := by
  refine F.okX sc_begins_plan (fun vs H Q E h => ?_) (fun cdv A outer s H vs Q E hr h => ?_)
  · obtain ⟨C, x, s, t, v, n, cs, st, tg, m, _, rfl, _⟩ := h
    rfl
  · obtain ⟨C, x, s0, t0, v, n, cs, st, tg, ⟨mk, up⟩, hC, rfl, NA, G, hs, ls, ht, lt, hm, m0, m1, q⟩ := h
    have n40 := G.n40
    have hlen := G.len
    have hm : MvAt H v mk up := hm
    have m0 : 0 ≤ mk := m0
    have m1 : mk < n := m1
    -- slots: 0 net, 1 state, 2 target, 3 move, 4 stage, 5 kind, 6 channels
    refine ⟨_, (pss_cons (ps_if (pt_not (pt_val (pe_cd g_is_allowed hr psE (pa_cons (pv 0) (pa_cons (pv 1) (pa_cons (pv 3) pa_nil)))))) (pss_one (ps_ret pe_bl)) pss_nil)
      (pss_cons (ps_asg (pv 3) (pg_tup rfl (pgs_cons (pg_name (i := 4) sc_begins_plan.nd rfl (Or.inl rfl)) (pgs_cons (pg_name (i := 5) sc_begins_plan.nd rfl (Or.inl rfl)) pgs_nil))))
      (pss_cons (ps_set (i := 6) sc_begins_plan.nd rfl (Or.inl rfl) (pe_cd g_side_of hr psE (pa_cons (pv 0) (pa_cons (pe_tup (pa_cons (pv 4) (pa_cons (pe_cd g_other_kind hr psE (pa_cons (pv 5) pa_nil)) pa_nil))) pa_nil))))
      (pss_one (ps_ret (pe_notT (pe_cd g_channel_objections hr psE (pa_cons (pv 0) (pa_cons (pe_cd g_state_behind hr psE (pa_cons (pv 1) (pa_cons (pv 3) pa_nil))) (pa_cons (pv 2) (pa_cons (pv 6) pa_nil))))))))))), ?_⟩
    refine ⟨_, rfl, _, rfl, _, rfl, C, x, s0, v, n, cs, st, mk, up, hC, rfl, NA, G, hs, ls, hm, m0, m1, fun H2 s2 => ⟨_, rfl, ?_⟩⟩
    cases ea : alw cs st mk up with
    | false =>
      refine iteT ?_
      have z := q H2 s2
      unfold begB at z
      dsimp only at z
      rw [ea, Bool.false_and] at z
      exact z
    | true =>
      refine iteF ?_
      obtain ⟨tm, rfl, htm⟩ := hm
      refine ⟨_, rfl, tm, _, rfl, SqT.of (s2 _ _ htm), rfl, _, _, rfl, _, _, rfl, rfl, ?_⟩
      refine ⟨_, rfl, _, rfl, _, rfl, up, rfl, by show 2 ≤ sizeLine; decide, fun p np => ?_⟩
      have s3 : Same H2 (upd H2 p (.tup [.int mk, .str (kw (!up))])) := Same.new np
      obtain ⟨H3, e3⟩ : ∃ H3, H3 = upd H2 p (.tup [.int mk, .str (kw (!up))]) := ⟨_, rfl⟩
      have hp3 : H3 p = some (.tup [.int mk, .str (kw (!up))]) := by rw [e3, upd_same]
      rw [← e3] at s3 ⊢
      have s03 := s2.trans s3
      refine ⟨C, x, .ref p, n, cs, mk, !up, hC, rfl, NA.same s03, G, ⟨p, rfl, hp3⟩, m0, m1, fun c hc => ?_⟩
      refine ⟨_, rfl, _, rfl, _, rfl, s0, .ref tm, n, st, mk, up, rfl, s03 _ _ hs, ls, by omega, ⟨tm, rfl, s03 _ _ htm⟩, m0, m1, fun H4 r s4 nr hr4 => ?_⟩
      have s04 := s03.trans s4
      have sl := side_len cs (!up) mk
      refine ⟨_, rfl, _, rfl, C, x, r, t0, c, n, cs, behM st mk up, tg, sideI cs (!up) mk, hC, rfl, NA.same s04, G, hr4, by rw [beh_len]; exact ls, s04 _ _ ht, lt, s4 _ _ hc, fun k hk => ?_, by omega, fun L ks H5 s5 nL hL po => ?_⟩
      · obtain ⟨j, d, rfl, hj⟩ := side_mem hk
        have := (List.getElem?_eq_some_iff.mp hj).1
        exact ⟨by omega, by omega⟩
      · have z := q H5 (s04.trans s5)
        unfold begB at z
        dsimp only at z
        rw [ea, Bool.true_and] at z
        refine ⟨_, .inl ⟨_, SqL.of hL, rfl⟩, ?_⟩
        have e : (!(!ks.isEmpty)) = decide (((sideI cs (!up) mk).flatMap (chanOb cs (behM st mk up) tg)).length = 0) := by
          rw [Bool.not_not, po.length]
          cases ks <;> rfl
        rw [e]
        exact z
end
end WC

set_option maxHeartbeats 8000000
namespace WC
open PySem PySem.Spec PyProof.Rows L2
/-! a move towards the target raises no objection but that of its other side -/
/-- what makes no objection -/
def NoAll (n : Nat) (cs : List Tri) (ring : Bool) (a b : List Int) : Prop :=
  (∀ k : Nat, k < n → gi a k < gi b k → ∃ c ∈ cs, c.2.1 = k) ∧ (∀ k : Nat, k < n → gi b k < gi a k → ∃ c ∈ cs, c.1 = k) ∧
  (∀ c ∈ cs, (gi b c.1 < gi a c.1 ∨ gi a c.2.1 < gi b c.2.1) → gi a c.1 - gi a c.2.1 ≤ c.2.2 ∧ gi b c.2.1 ≤ gi b c.1) ∧
  (ring = true → ∀ k : Nat, k < n → (∃ y ∈ a, y ≤ gi b k) ∧ ∃ y ∈ a, gi b k ≤ y)
theorem noAll_iff {n : Nat} {cs : List Tri} {ring : Bool} {a b : List Int} {U : List Obj_} (h : AllOb cs a b n ring U) : U = [] ↔ NoAll n cs ring a b := allOb_nil h
theorem gi_mem_iff {a : List Int} {n : Nat} (hl : a.length = n) {y : Int} : y ∈ a ↔ ∃ k : Nat, k < n ∧ gi a k = y := by
  constructor
  · intro h
    obtain ⟨k, hk⟩ := List.mem_iff_getElem?.mp h
    have hk1 := (List.getElem?_eq_some_iff.mp hk).1
    refine ⟨k, by omega, ?_⟩
    rw [gi_at (List.getElem?_eq_getElem hk1)]
    exact (List.getElem?_eq_some_iff.mp hk).2
  · rintro ⟨k, hk, e⟩
    rw [← e]
    exact gi_mem (by omega) (by omega)
/-- going round a ring -/
theorem ring_walk {n : Nat} {Pr : Nat → Prop} {s k : Nat} (hs : s < n) (hk : k < n) (h0 : Pr k) (hst : ∀ j, j < n → j ≠ s → Pr j → Pr ((j + 1) % n)) : Pr s := by
  have go : ∀ d j : Nat, j < n → Pr j → (j + d) % n = s → Pr s := fun d => by
    induction d with
    | zero =>
      intro j hj pj e
      rw [Nat.add_zero, Nat.mod_eq_of_lt hj] at e
      rw [← e]; exact pj
    | succ d ih =>
      intro j hj pj e
      by_cases q : j = s
      · rw [← q]; exact pj
      · refine ih ((j + 1) % n) (Nat.mod_lt _ (by omega)) (hst j hj q pj) ?_
        rw [Nat.mod_add_mod, show j + 1 + d = j + (d + 1) by omega]
        exact e
  refine go (s + n - k) k hk h0 ?_
  rw [show k + (s + n - k) = s + n by omega, Nat.add_mod_right, Nat.mod_eq_of_lt hs]
theorem ring_back {n : Nat} {Pr : Nat → Prop} {s k : Nat} (hs : s < n) (hk : k < n) (h0 : Pr k) (hst : ∀ j, j < n → (j + 1) % n ≠ s → Pr ((j + 1) % n) → Pr j) : Pr s := by
  have go : ∀ d j : Nat, j < n → Pr j → (s + d) % n = j → Pr s := fun d => by
    induction d with
    | zero =>
      intro j hj pj e
      rw [Nat.add_zero, Nat.mod_eq_of_lt hs] at e
      rw [e]; exact pj
    | succ d ih =>
      intro j hj pj e
      have e2 : ((s + d) % n + 1) % n = j := by
        rw [Nat.mod_add_mod]
        exact e
      by_cases q : j = s
      · rw [← q]; exact pj
      · refine ih ((s + d) % n) (Nat.mod_lt _ (by omega)) (hst _ (Nat.mod_lt _ (by omega)) (by rw [e2]; exact q) (by rw [e2]; exact pj)) rfl
  refine go (k + n - s) k hk h0 ?_
  rw [show s + (k + n - s) = k + n by omega, Nat.add_mod_right, Nat.mod_eq_of_lt hk]
/-- the other side's channels object to nothing -/
def OthOk (cs : List Tri) (a b : List Int) (m : Mv9) : Prop := ∀ c ∈ cs, (if m.2 = true then c.1 else c.2.1) = m.1 → (gi b c.1 < gi a c.1 ∨ gi a c.2.1 < gi b c.2.1) → gi a c.1 - gi a c.2.1 ≤ c.2.2 ∧ gi b c.2.1 ≤ gi b c.1
theorem towards_iff {n : Nat} {cs : List Tri} {ring : Bool} {a b : List Int} {m : Mv9} (ok : ∀ c ∈ cs, ChOk n c) (la : a.length = n) (lb : b.length = n) (rg : ring = true → RgOk n cs) (N : NoAll n cs ring a b) (m0 : 0 ≤ m.1) (m1 : m.1 < n) (tw : if m.2 = true then gi a m.1 < gi b m.1 else gi b m.1 < gi a m.1) (al : alw9 cs a m = true) :
    NoAll n cs ring (stp9 a m) b ↔ OthOk cs (stp9 a m) b m := by
  have st : ∀ j : Int, 0 ≤ j → gi (stp9 a m) j = if j = m.1 then gi a m.1 + (if m.2 = true then 1 else -1) else gi a j := fun j j0 => gi_stp m0 (by omega) j0
  have ls : (stp9 a m).length = n := by rw [stp9_len]; exact la
  constructor
  · exact fun h c hc _ => h.2.2.1 c hc
  · intro ho
    obtain ⟨N1, N2, N3, N4⟩ := N
    obtain ⟨⟨c0, hc0, e0⟩, hf⟩ := alw9_iff.mp al
    obtain ⟨s, up⟩ := m
    dsimp only at st m0 m1 tw
    obtain ⟨s, rfl⟩ : ∃ t : Nat, s = t := ⟨s.toNat, by omega⟩
    have hs : s < n := by omega
    refine ⟨fun k hk h => ?_, fun k hk h => ?_, fun c hc dr => ?_, fun er k hk => ?_⟩
    · rw [st k (by omega)] at h
      by_cases e : (k : Int) = s
      · rw [if_pos e] at h
        cases up
        · rw [if_neg (by decide)] at tw h
          rw [e] at h
          omega
        · rw [if_pos rfl] at tw
          exact N1 k hk (by rw [e]; exact tw)
      · rw [if_neg e] at h
        exact N1 k hk h
    · rw [st k (by omega)] at h
      by_cases e : (k : Int) = s
      · rw [if_pos e] at h
        cases up
        · rw [if_neg (by decide)] at tw
          exact N2 k hk (by rw [e]; exact tw)
        · rw [if_pos rfl] at tw h
          rw [e] at h
          omega
      · rw [if_neg e] at h
        exact N2 k hk h
    · by_cases oc : (if up = true then c.1 else c.2.1) = (s : Int)
      · exact ho c hc oc dr
      · obtain ⟨⟨b1, b2⟩, ⟨b3, b4⟩, b5, b6, b7⟩ := ok c hc
        have f := hf c hc
        unfold sl9 at f
        dsimp only at f
        rw [st c.1 b1, st c.2.1 b3] at dr ⊢
        cases up
        · rw [if_neg (by decide)] at oc f tw
          simp only [Bool.false_eq_true, if_false] at dr ⊢
          rw [if_neg oc] at dr ⊢
          by_cases e : c.1 = s
          · rw [if_pos e] at dr ⊢
            have f := f e
            have z := N3 c hc (.inl (by rw [e]; exact tw))
            rw [e] at f
            exact ⟨by omega, z.2⟩
          · rw [if_neg e] at dr ⊢
            exact N3 c hc dr
        · rw [if_pos rfl] at oc f tw
          simp only [if_true] at dr ⊢
          rw [if_neg oc] at dr ⊢
          by_cases e : c.2.1 = s
          · rw [if_pos e] at dr ⊢
            have f := f e
            have z := N3 c hc (.inr (by rw [e]; exact tw))
            rw [e] at f
            exact ⟨by omega, z.2⟩
          · rw [if_neg e] at dr ⊢
            exact N3 c hc dr
    · obtain ⟨⟨y1, hy1, l1⟩, ⟨y2, hy2, l2⟩⟩ := N4 er k hk
      obtain ⟨j1, hj1, q1⟩ := (gi_mem_iff la).mp hy1
      obtain ⟨j2, hj2, q2⟩ := (gi_mem_iff la).mp hy2
      have mem : ∀ j : Nat, j < n → gi (stp9 a ((s : Int), up)) j ∈ stp9 a ((s : Int), up) := fun j hj => (gi_mem_iff ls).mpr ⟨j, hj, rfl⟩
      have R := rg er
      cases up
      · rw [if_neg (by decide)] at tw
        have sts : gi (stp9 a ((s : Int), false)) s = gi a s + -1 := by rw [st s (by omega), if_pos rfl, if_neg (by decide)]
        have sto : ∀ j : Nat, j ≠ s → gi (stp9 a ((s : Int), false)) j = gi a j := fun j hj => by rw [st j (by omega), if_neg (by omega)]
        refine ⟨?_, ?_⟩
        · by_cases e : j1 = s
          · exact ⟨_, mem s hs, by rw [sts]; rw [e] at q1; omega⟩
          · exact ⟨_, mem j1 hj1, by rw [sto j1 e]; omega⟩
        · by_cases e : ∃ j : Nat, j < n ∧ j ≠ s ∧ gi b k ≤ gi a j
          · obtain ⟨j, hj, ne, le⟩ := e
            exact ⟨_, mem j hj, by rw [sto j ne]; exact le⟩
          · by_cases e2 : gi b k ≤ gi a s - 1
            · exact ⟨_, mem s hs, by rw [sts]; omega⟩
            · exfalso
              have no : ∀ j : Nat, j < n → j ≠ s → gi a j < gi b k := fun j hj ne => Int.not_le.mp fun z => e ⟨j, hj, ne, z⟩
              have j2s : j2 = s := Classical.byContradiction fun z => by have := no j2 hj2 z; omega
              rw [j2s] at q2
              have top : gi b k = gi a s := by omega
              have all : gi b s = gi a s := by
                refine ring_back (Pr := fun j => gi b j = gi a s) hs hk top fun j hj ne p => ?_
                obtain ⟨c, hc, e3, e4⟩ := R j hj
                have e4 : c.2.1 = (((j + 1) % n : Nat) : Int) := by rw [e4]; rfl
                have hj' : (j + 1) % n < n := Nat.mod_lt _ (by omega)
                have lt := no _ hj' ne
                have z := (N3 c hc (.inr (by rw [e4, p]; omega))).2
                rw [e3, e4, p] at z
                obtain ⟨_, ⟨y, hy, ly⟩⟩ := N4 er j hj
                obtain ⟨i, hi, qi⟩ := (gi_mem_iff la).mp hy
                by_cases ei : i = s
                · rw [ei] at qi; omega
                · have := no i hi ei; omega
              omega
      · rw [if_pos rfl] at tw
        have sts : gi (stp9 a ((s : Int), true)) s = gi a s + 1 := by rw [st s (by omega), if_pos rfl, if_pos rfl]
        have sto : ∀ j : Nat, j ≠ s → gi (stp9 a ((s : Int), true)) j = gi a j := fun j hj => by rw [st j (by omega), if_neg (by omega)]
        refine ⟨?_, ?_⟩
        · by_cases e : ∃ j : Nat, j < n ∧ j ≠ s ∧ gi a j ≤ gi b k
          · obtain ⟨j, hj, ne, le⟩ := e
            exact ⟨_, mem j hj, by rw [sto j ne]; exact le⟩
          · by_cases e2 : gi a s + 1 ≤ gi b k
            · exact ⟨_, mem s hs, by rw [sts]; omega⟩
            · exfalso
              have no : ∀ j : Nat, j < n → j ≠ s → gi b k < gi a j := fun j hj ne => Int.not_le.mp fun z => e ⟨j, hj, ne, z⟩
              have j1s : j1 = s := Classical.byContradiction fun z => by have := no j1 hj1 z; omega
              rw [j1s] at q1
              have bot : gi b k = gi a s := by omega
              have all : gi b s = gi a s := by
                refine ring_walk (Pr := fun j => gi b j = gi a s) hs hk bot fun j hj ne p => ?_
                obtain ⟨c, hc, e3, e4⟩ := R j hj
                have e4 : c.2.1 = (((j + 1) % n : Nat) : Int) := by rw [e4]; rfl
                have hj' : (j + 1) % n < n := Nat.mod_lt _ (by omega)
                have lt := no j hj ne
                have z := (N3 c hc (.inl (by rw [e3, p]; omega))).2
                rw [e3, e4, p] at z
                obtain ⟨⟨y, hy, ly⟩, _⟩ := N4 er _ hj'
                obtain ⟨i, hi, qi⟩ := (gi_mem_iff la).mp hy
                by_cases ei : i = s
                · rw [ei] at qi; omega
                · have := no i hi ei; omega
              omega
        · by_cases e : j2 = s
          · exact ⟨_, mem s hs, by rw [sts]; rw [e] at q2; omega⟩
          · exact ⟨_, mem j2 hj2, by rw [sto j2 e]; omega⟩
end WC

set_option maxHeartbeats 8000000
namespace WC
open PySem PySem.Spec PyProof.Rows L2
/-! the law's safe and first moves are the program's -/
theorem allOb_ex {cs : List Tri} {a b : List Int} {n : Nat} {ring : Bool} (la : a.length = n) (n1 : 1 ≤ n) : ∃ U, AllOb cs a b n ring U := by
  cases ring with
  | false => exact ⟨_, .inl ⟨rfl, rfl⟩⟩
  | true =>
    obtain ⟨⟨lo, lo1, lo2⟩, hi, hi1, hi2⟩ : (∃ lo, lo ∈ a ∧ ∀ y ∈ a, lo ≤ y) ∧ ∃ hi, hi ∈ a ∧ ∀ y ∈ a, y ≤ hi := by
      match a, la with
      | [], e => simp at e; omega
      | x :: xs, _ =>
        obtain ⟨p, q⟩ := fold_min xs x
        obtain ⟨r, t⟩ := fold_max xs x
        exact ⟨⟨_, p, q⟩, _, r, t⟩
    exact ⟨_, .inr ⟨rfl, lo, hi, ⟨lo1, lo2⟩, ⟨hi1, hi2⟩, rfl⟩⟩
theorem okB_iff {cs : List Tri} {a b : List Int} {n : Nat} {ring : Bool} (la : a.length = n) (n1 : 1 ≤ n) : okB n cs ring a b = true ↔ NoAll n cs ring a b := by
  obtain ⟨U, hU⟩ := allOb_ex (cs := cs) (b := b) (ring := ring) la n1
  rw [okB_of hU, decide_eq_true_iff, List.length_eq_zero_iff]
  exact noAll_iff hU
theorem chan_nil {cs : List Tri} {a b : List Int} {k : Nat} {c : Tri} (q : cs[k]? = some c) : chanOb cs a b (k : Int) = [] ↔ ((gi b c.1 < gi a c.1 ∨ gi a c.2.1 < gi b c.2.1) → gi a c.1 - gi a c.2.1 ≤ c.2.2 ∧ gi b c.2.1 ≤ gi b c.1) := by
  have dr : drawsM a b c = true ↔ (gi b c.1 < gi a c.1 ∨ gi a c.2.1 < gi b c.2.1) := by
    unfold drawsM
    rw [Bool.or_eq_true, decide_eq_true_eq, decide_eq_true_eq]
  rw [chanOb_at q]
  by_cases e : drawsM a b c = true
  · rw [if_pos e, List.append_eq_nil_iff]
    have e2 := dr.mp e
    constructor
    · rintro ⟨h1, h2⟩ _
      constructor
      · exact Int.not_lt.mp fun z => by rw [if_pos z] at h1; cases h1
      · exact Int.not_lt.mp fun z => by rw [if_pos z] at h2; cases h2
    · intro h
      obtain ⟨h1, h2⟩ := h e2
      exact ⟨if_neg (by omega), if_neg (by omega)⟩
  · rw [if_neg e]
    exact ⟨fun _ z => absurd (dr.mpr z) e, fun _ => rfl⟩
theorem side_iff {cs : List Tri} {a b : List Int} {s : Int} {adv : Bool} : (sideI cs adv s).flatMap (chanOb cs a b) = [] ↔ ∀ c ∈ cs, sel adv c = s → (gi b c.1 < gi a c.1 ∨ gi a c.2.1 < gi b c.2.1) → gi a c.1 - gi a c.2.1 ≤ c.2.2 ∧ gi b c.2.1 ≤ gi b c.1 := by
  rw [List.flatMap_eq_nil_iff]
  constructor
  · intro h c hc e
    obtain ⟨k, hk⟩ := List.mem_iff_getElem?.mp hc
    have hl := (List.getElem?_eq_some_iff.mp hk).1
    refine (chan_nil hk).mp (h (k : Int) ?_)
    unfold sideI occ
    refine List.mem_map.mpr ⟨k, List.mem_filter.mpr ⟨List.mem_range.mpr hl, decide_eq_true ?_⟩, rfl⟩
    rw [List.getElem?_map, hk]
    exact congrArg some e
  · intro h k hk
    unfold sideI occ at hk
    obtain ⟨j, hj, rfl⟩ := List.mem_map.mp hk
    obtain ⟨hj1, hj2⟩ := List.mem_filter.mp hj
    have hl := List.mem_range.mp hj1
    have e := of_decide_eq_true hj2
    have q : cs[j]? = some cs[j] := List.getElem?_eq_getElem hl
    rw [List.getElem?_map, q] at e
    exact (chan_nil q).mpr (h _ (List.getElem_mem hl) (Option.some.inj e))
theorem begB_iff {n : Nat} {cs : List Tri} {ring : Bool} {a b : List Int} {m : Mv9} (ok : ∀ c ∈ cs, ChOk n c) (la : a.length = n) (lb : b.length = n) (n1 : 1 ≤ n) (rg : ring = true → RgOk n cs) (N : NoAll n cs ring a b) (m0 : 0 ≤ m.1) (m1 : m.1 < n) (tw : if m.2 = true then gi a m.1 < gi b m.1 else gi b m.1 < gi a m.1) :
    begB cs a b m = (alw9 cs a m && okB n cs ring (stp9 a m) b) := by
  have e1 : alw cs a m.1 m.2 = alw9 cs a m := alw_eq cs a m.1 m.2
  unfold begB
  rw [e1]
  cases al : alw9 cs a m with
  | false => rfl
  | true =>
    rw [Bool.true_and, Bool.true_and, Bool.eq_iff_iff, okB_iff (by rw [stp9_len]; exact la) n1, towards_iff ok la lb rg N m0 m1 tw al, decide_eq_true_iff, List.length_eq_zero_iff]
    show ((sideI cs (!m.2) m.1).flatMap (chanOb cs (stp9 a m) b)) = [] ↔ _
    rw [side_iff]
    unfold OthOk sel
    obtain ⟨s, up⟩ := m
    cases up <;> exact Iff.rfl
end WC

set_option maxHeartbeats 8000000
namespace WC
open PySem PySem.Spec PyProof.Rows L2
/-! the preorder; a plan's next move -/
theorem NoAll.refl {n : Nat} {cs : List Tri} {ring : Bool} {a : List Int} (la : a.length = n) : NoAll n cs ring a a :=
  ⟨fun k _ h => absurd h (Int.lt_irrefl _), fun k _ h => absurd h (Int.lt_irrefl _), fun c _ h => by omega, fun _ k hk => ⟨⟨_, gi_mem (by omega) (by omega), Int.le_refl _⟩, _, gi_mem (by omega) (by omega), Int.le_refl _⟩⟩
theorem NoAll.trans {n : Nat} {cs : List Tri} {ring : Bool} {a b c : List Int} (lb : b.length = n) (h : NoAll n cs ring a b) (g : NoAll n cs ring b c) : NoAll n cs ring a c := by
  obtain ⟨h1, h2, h3, h4⟩ := h
  obtain ⟨g1, g2, g3, g4⟩ := g
  refine ⟨fun k hk e => ?_, fun k hk e => ?_, fun ch hc dr => ?_, fun er k hk => ?_⟩
  · by_cases q : gi a k < gi b k
    · exact h1 k hk q
    · exact g1 k hk (by omega)
  · by_cases q : gi b k < gi a k
    · exact h2 k hk q
    · exact g2 k hk (by omega)
  · have x := h3 ch hc
    have y := g3 ch hc
    by_cases d1 : gi b ch.1 < gi a ch.1 ∨ gi a ch.2.1 < gi b ch.2.1
    · have x := x d1
      by_cases d2 : gi c ch.1 < gi b ch.1 ∨ gi b ch.2.1 < gi c ch.2.1
      · have y := y d2
        omega
      · omega
    · have y := y (by omega)
      omega
  · obtain ⟨⟨y1, hy1, q1⟩, ⟨y2, hy2, q2⟩⟩ := g4 er k hk
    obtain ⟨i, hi, e1⟩ := (gi_mem_iff lb).mp hy1
    obtain ⟨j, hj, e2⟩ := (gi_mem_iff lb).mp hy2
    obtain ⟨⟨z1, hz1, r1⟩, _⟩ := h4 er i hi
    obtain ⟨_, ⟨z2, hz2, r2⟩⟩ := h4 er j hj
    exact ⟨⟨z1, hz1, by omega⟩, z2, hz2, by omega⟩
theorem noAll_of_lat {n : Nat} {cs : List Tri} {ring : Bool} {a b : List Int} (L : Lat n cs a b) (ok : ∀ c ∈ cs, ChOk n c) (ha : StOk n a) (n1 : 1 ≤ n) : NoAll n cs ring a b := by
  obtain ⟨U, hU⟩ := allOb_ex (cs := cs) (b := b) (ring := ring) ha.1 n1
  exact (noAll_iff hU).mp (L.nil ok ha n1 hU)
/-! distances -/
def dfI (a b : Int) : Int := if a - b < 0 then -(a - b) else a - b
theorem dist_tri (a b c : List Int) : ∀ n : Nat, distM a c n ≤ distM a b n + distM b c n
  | 0 => by rw [distM_zero, distM_zero, distM_zero]; omega
  | n + 1 => by
    have := dist_tri a b c n
    rw [distM_succ, distM_succ, distM_succ]
    split <;> split <;> split <;> omega
theorem dist_mid (a b c : List Int) : ∀ n : Nat, distM a c n = distM a b n + distM b c n ↔ ∀ k : Nat, k < n → (gi a k ≤ gi b k ∧ gi b k ≤ gi c k) ∨ (gi c k ≤ gi b k ∧ gi b k ≤ gi a k)
  | 0 => by
    rw [distM_zero, distM_zero, distM_zero]
    exact ⟨fun _ k hk => absurd hk (Nat.not_lt_zero k), fun _ => rfl⟩
  | n + 1 => by
    have ih := dist_mid a b c n
    have tri := dist_tri a b c n
    rw [distM_succ, distM_succ, distM_succ]
    constructor
    · intro h
      have e : distM a c n = distM a b n + distM b c n ∧ ((gi a n ≤ gi b n ∧ gi b n ≤ gi c n) ∨ (gi c n ≤ gi b n ∧ gi b n ≤ gi a n)) := by
        split at h <;> split at h <;> split at h <;> omega
      intro k hk
      by_cases q : k = n
      · rw [q]; exact e.2
      · exact ih.mp e.1 k (by omega)
    · intro h
      have e1 := ih.mpr fun k hk => h k (by omega)
      have e2 := h n (by omega)
      split <;> split <;> split <;> omega
theorem dist_sym (a b : List Int) : ∀ n : Nat, distM a b n = distM b a n
  | 0 => rfl
  | n + 1 => by
    rw [distM_succ, distM_succ, dist_sym a b n]
    split <;> split <;> omega
/-! corners -/
def maxL (a b : List Int) (n : Nat) : List Int := (List.range n).map fun (k : Nat) => if gi a k < gi b k then gi b k else gi a k
def minL (a b : List Int) (n : Nat) : List Int := (List.range n).map fun (k : Nat) => if gi b k < gi a k then gi b k else gi a k
theorem gi_rng {f : Nat → Int} {n k : Nat} (h : k < n) : gi ((List.range n).map f) k = f k := gi_at (by rw [List.getElem?_map, List.getElem?_range h]; rfl)
theorem maxL_gi {a b : List Int} {n : Nat} {k : Int} (h0 : 0 ≤ k) (h : k < n) : gi (maxL a b n) k = if gi a k < gi b k then gi b k else gi a k := by
  obtain ⟨j, rfl⟩ : ∃ j : Nat, k = j := ⟨k.toNat, by omega⟩
  exact gi_rng (by omega)
theorem minL_gi {a b : List Int} {n : Nat} {k : Int} (h0 : 0 ≤ k) (h : k < n) : gi (minL a b n) k = if gi b k < gi a k then gi b k else gi a k := by
  obtain ⟨j, rfl⟩ : ∃ j : Nat, k = j := ⟨k.toNat, by omega⟩
  exact gi_rng (by omega)
theorem NoAll.max {n : Nat} {cs : List Tri} {ring : Bool} {a b d : List Int} (ok : ∀ c ∈ cs, ChOk n c) (h : NoAll n cs ring a b) (g : NoAll n cs ring a d) : NoAll n cs ring a (maxL b d n) := by
  obtain ⟨h1, h2, h3, h4⟩ := h
  obtain ⟨g1, g2, g3, g4⟩ := g
  refine ⟨fun k hk e => ?_, fun k hk e => ?_, fun ch hc dr => ?_, fun er k hk => ?_⟩
  · rw [maxL_gi (by omega) (by omega)] at e
    split at e
    · exact g1 k hk e
    · exact h1 k hk e
  · rw [maxL_gi (by omega) (by omega)] at e
    split at e
    · exact g2 k hk e
    · exact h2 k hk e
  · obtain ⟨⟨b1, b2⟩, ⟨b3, b4⟩, _⟩ := ok ch hc
    rw [maxL_gi b1 b2, maxL_gi b3 b4] at dr ⊢
    have x := h3 ch hc
    have y := g3 ch hc
    by_cases d1 : gi b ch.1 < gi a ch.1 ∨ gi a ch.2.1 < gi b ch.2.1
    · have x := x d1
      by_cases d2 : gi d ch.1 < gi a ch.1 ∨ gi a ch.2.1 < gi d ch.2.1
      · have y := y d2
        refine ⟨x.1, ?_⟩
        split <;> split <;> omega
      · refine ⟨x.1, ?_⟩
        split at dr <;> split at dr <;> (try split) <;> (try split) <;> omega
    · by_cases d2 : gi d ch.1 < gi a ch.1 ∨ gi a ch.2.1 < gi d ch.2.1
      · have y := y d2
        refine ⟨y.1, ?_⟩
        split at dr <;> split at dr <;> (try split) <;> (try split) <;> omega
      · exfalso
        split at dr <;> split at dr <;> omega
  · rw [maxL_gi (by omega) (by omega)]
    split
    · exact g4 er k hk
    · exact h4 er k hk
theorem NoAll.min {n : Nat} {cs : List Tri} {ring : Bool} {a b d : List Int} (ok : ∀ c ∈ cs, ChOk n c) (h : NoAll n cs ring a b) (g : NoAll n cs ring a d) : NoAll n cs ring a (minL b d n) := by
  obtain ⟨h1, h2, h3, h4⟩ := h
  obtain ⟨g1, g2, g3, g4⟩ := g
  refine ⟨fun k hk e => ?_, fun k hk e => ?_, fun ch hc dr => ?_, fun er k hk => ?_⟩
  · rw [minL_gi (by omega) (by omega)] at e
    split at e
    · exact g1 k hk e
    · exact h1 k hk e
  · rw [minL_gi (by omega) (by omega)] at e
    split at e
    · exact g2 k hk e
    · exact h2 k hk e
  · obtain ⟨⟨b1, b2⟩, ⟨b3, b4⟩, _⟩ := ok ch hc
    rw [minL_gi b1 b2, minL_gi b3 b4] at dr ⊢
    have x := h3 ch hc
    have y := g3 ch hc
    by_cases d1 : gi b ch.1 < gi a ch.1 ∨ gi a ch.2.1 < gi b ch.2.1
    · have x := x d1
      by_cases d2 : gi d ch.1 < gi a ch.1 ∨ gi a ch.2.1 < gi d ch.2.1
      · have y := y d2
        refine ⟨x.1, ?_⟩
        split <;> split <;> omega
      · refine ⟨x.1, ?_⟩
        split at dr <;> split at dr <;> (try split) <;> (try split) <;> omega
    · by_cases d2 : gi d ch.1 < gi a ch.1 ∨ gi a ch.2.1 < gi d ch.2.1
      · have y := y d2
        refine ⟨y.1, ?_⟩
        split at dr <;> split at dr <;> (try split) <;> (try split) <;> omega
      · exfalso
        split at dr <;> split at dr <;> omega
  · rw [minL_gi (by omega) (by omega)]
    split
    · exact g4 er k hk
    · exact h4 er k hk
theorem dist_corners (a b d : List Int) (n : Nat) : ∀ k : Nat, k ≤ n → distM a (maxL b d n) k + distM a (minL b d n) k = distM a b k + distM a d k
  | 0, _ => by rw [distM_zero, distM_zero, distM_zero, distM_zero]
  | k + 1, h => by
    have := dist_corners a b d n k (by omega)
    rw [distM_succ, distM_succ, distM_succ, distM_succ, maxL_gi (by omega) (by omega), minL_gi (by omega) (by omega)]
    by_cases q : gi b k < gi d k
    · rw [if_pos q, if_neg (show ¬ gi d k < gi b k by omega)]
      split <;> split <;> omega
    · rw [if_neg q]
      by_cases q2 : gi d k < gi b k
      · rw [if_pos q2]
        split <;> split <;> omega
      · rw [if_neg q2, show gi d k = gi b k by omega]
        split <;> omega
end WC

set_option maxHeartbeats 8000000
namespace WC
open PySem PySem.Spec PyProof.Rows L2
theorem mod_one {n x y : Nat} (hx : x < n) (hy : y < n) (e : (x + 1) % n = (y + 1) % n) : x = y := by
  by_cases h1 : x + 1 = n
  · by_cases h2 : y + 1 = n
    · omega
    · rw [h1, Nat.mod_self, Nat.mod_eq_of_lt (show y + 1 < n by omega)] at e
      omega
  · rw [Nat.mod_eq_of_lt (show x + 1 < n by omega)] at e
    by_cases h2 : y + 1 = n
    · rw [h2, Nat.mod_self] at e
      omega
    · rw [Nat.mod_eq_of_lt (show y + 1 < n by omega)] at e
      omega
theorem noOb_of {n : Nat} {cs : List Tri} {a b : List Int} {ring : Bool} (h : NoAll n cs ring a b) : NoOb n cs a b := ⟨h.1, h.2.1, h.2.2.1⟩
theorem ring_up {n : Nat} {cs : List Tri} {a b : List Int} (ok : ∀ c ∈ cs, ChOk n c) (la : a.length = n) (lb : b.length = n) (rg : RgOk n cs) (ru : RgUn n cs) (N : NoAll n cs true a b) (h : ∃ k : Nat, k < n ∧ gi a k < gi b k) :
    ∃ k : Nat, k < n ∧ gi a k < gi b k ∧ alw9 cs a ((k : Int), true) = true ∧ NoAll n cs true (stp9 a ((k : Int), true)) b := by
  obtain ⟨k0, hk0, rk0, mk0⟩ := pick_least (fun j => gi a j) (fun _ => 0) (fun j => gi a j < gi b j) n h
  obtain ⟨v, ev⟩ : ∃ v, v = gi a k0 := ⟨_, rfl⟩
  have least : ∀ j : Nat, j < n → gi a j < gi b j → v ≤ gi a j := fun j hj rj => by
    have := mk0 j hj rj
    omega
  have N3 := N.2.2.1
  have N4 := N.2.2.2 rfl
  have top : ∃ j : Nat, j < n ∧ gi a j = v ∧ gi a j < gi b j ∧ ∀ c ∈ cs, c.2.1 = (j : Int) → v < gi a c.1 := by
    refine Classical.byContradiction fun no => ?_
    have all : ∀ s : Nat, s < n → gi a s = v ∧ gi a s < gi b s := fun s hs => by
      refine ring_back (Pr := fun j => gi a j = v ∧ gi a j < gi b j) hs hk0 ⟨ev.symm, rk0⟩ fun j hj _ p => ?_
      have hj' : (j + 1) % n < n := Nat.mod_lt _ (by omega)
      obtain ⟨c, hc, e1, e2⟩ : ∃ c ∈ cs, c.2.1 = (((j + 1) % n : Nat) : Int) ∧ gi a c.1 ≤ v := Classical.byContradiction fun z => no ⟨(j + 1) % n, hj', p.1, p.2, fun c hc e => Int.not_le.mp fun w => z ⟨c, hc, e, w⟩⟩
      obtain ⟨⟨b1, b2⟩, ⟨b3, b4⟩, _⟩ := ok c hc
      obtain ⟨q, eq⟩ : ∃ q : Nat, c.1 = q := ⟨c.1.toNat, by omega⟩
      have eu := ru c hc
      rw [eq] at eu e2
      have eu : c.2.1 = (((q + 1) % n : Nat) : Int) := eu
      have qj : q = j := mod_one (by omega) hj (by have := eu.symm.trans e1; omega)
      rw [qj] at e2 eq
      have z := (N3 c hc (.inr (by rw [e1]; exact p.2))).2
      rw [e1, eq] at z
      have r : gi a j < gi b j := by have := p.1; have := p.2; omega
      have := least j hj r
      exact ⟨by omega, r⟩
    obtain ⟨_, y, hy, ly⟩ := N4 k0 hk0
    obtain ⟨i, hi, qi⟩ := (gi_mem_iff la).mp hy
    have := (all i hi).1
    omega
  obtain ⟨j, hj, ej, rj, inc⟩ := top
  obtain ⟨c0, hc0, e0⟩ := N.1 j hj rj
  have al : alw9 cs a ((j : Int), true) = true := alw9_iff.mpr ⟨⟨c0, hc0, e0⟩, fun c hc e => by
    have e : c.2.1 = (j : Int) := e
    have z := N3 c hc (.inr (by rw [e]; exact rj))
    have := inc c hc e
    rw [e] at z ⊢
    exact ⟨by omega, z.1⟩⟩
  refine ⟨j, hj, rj, al, (towards_iff (m := ((j : Int), true)) ok la lb (fun _ => rg) N (by show (0 : Int) ≤ j; omega) (by show (j : Int) < n; omega) (by rw [if_pos rfl]; exact rj) al).mpr fun c hc e dr => ?_⟩
  have e : c.1 = (j : Int) := by rw [if_pos rfl] at e; exact e
  obtain ⟨⟨b1, b2⟩, ⟨b3, b4⟩, b5, b6, _⟩ := ok c hc
  have st : ∀ i : Int, 0 ≤ i → gi (stp9 a ((j : Int), true)) i = if i = j then gi a j + 1 else gi a i := fun i i0 => gi_stp (m := ((j : Int), true)) (by show (0 : Int) ≤ j; omega) (by show (j : Int) < a.length; omega) i0
  rw [st c.1 b1, st c.2.1 b3, if_pos e, if_neg (fun z => b5 (e.trans z.symm))] at dr ⊢
  obtain ⟨q, eq⟩ : ∃ q : Nat, c.2.1 = q := ⟨c.2.1.toNat, by omega⟩
  rw [e] at dr ⊢
  have rq : gi a c.2.1 < gi b c.2.1 := by omega
  have z := (N3 c hc (.inr rq)).2
  rw [e] at z
  rw [eq] at rq z ⊢
  have := least q (by omega) rq
  exact ⟨by omega, z⟩
theorem ring_down {n : Nat} {cs : List Tri} {a b : List Int} (ok : ∀ c ∈ cs, ChOk n c) (la : a.length = n) (lb : b.length = n) (rg : RgOk n cs) (ru : RgUn n cs) (N : NoAll n cs true a b) (h : ∃ k : Nat, k < n ∧ gi b k < gi a k) :
    ∃ k : Nat, k < n ∧ gi b k < gi a k ∧ alw9 cs a ((k : Int), false) = true ∧ NoAll n cs true (stp9 a ((k : Int), false)) b := by
  obtain ⟨k0, hk0, rk0, mk0⟩ := pick_least (fun j => - gi a j) (fun _ => 0) (fun j => gi b j < gi a j) n h
  obtain ⟨v, ev⟩ : ∃ v, v = gi a k0 := ⟨_, rfl⟩
  have most : ∀ j : Nat, j < n → gi b j < gi a j → gi a j ≤ v := fun j hj rj => by
    have := mk0 j hj rj
    omega
  have N3 := N.2.2.1
  have N4 := N.2.2.2 rfl
  have top : ∃ j : Nat, j < n ∧ gi a j = v ∧ gi b j < gi a j ∧ ∀ c ∈ cs, c.1 = (j : Int) → gi a c.2.1 < v := by
    refine Classical.byContradiction fun no => ?_
    have all : ∀ s : Nat, s < n → gi a s = v ∧ gi b s < gi a s := fun s hs => by
      refine ring_walk (Pr := fun j => gi a j = v ∧ gi b j < gi a j) hs hk0 ⟨ev.symm, rk0⟩ fun j hj _ p => ?_
      have hj' : (j + 1) % n < n := Nat.mod_lt _ (by omega)
      obtain ⟨c, hc, e1, e2⟩ : ∃ c ∈ cs, c.1 = (j : Int) ∧ v ≤ gi a c.2.1 := Classical.byContradiction fun z => no ⟨j, hj, p.1, p.2, fun c hc e => Int.not_le.mp fun w => z ⟨c, hc, e, w⟩⟩
      have eu := ru c hc
      rw [e1] at eu
      have eu : c.2.1 = (((j + 1) % n : Nat) : Int) := eu
      rw [eu] at e2
      have z := (N3 c hc (.inl (by rw [e1]; exact p.2))).2
      rw [e1, eu] at z
      have r : gi b ((j + 1) % n : Nat) < gi a ((j + 1) % n : Nat) := by have := p.1; have := p.2; omega
      have := most _ hj' r
      exact ⟨by omega, r⟩
    obtain ⟨⟨y, hy, ly⟩, _⟩ := N4 k0 hk0
    obtain ⟨i, hi, qi⟩ := (gi_mem_iff la).mp hy
    have := (all i hi).1
    omega
  obtain ⟨j, hj, ej, rj, out⟩ := top
  obtain ⟨c0, hc0, e0⟩ := N.2.1 j hj rj
  have al : alw9 cs a ((j : Int), false) = true := alw9_iff.mpr ⟨⟨c0, hc0, e0⟩, fun c hc e => by
    have e : c.1 = (j : Int) := e
    have z := N3 c hc (.inl (by rw [e]; exact rj))
    have := out c hc e
    rw [e] at z ⊢
    exact ⟨by omega, z.1⟩⟩
  refine ⟨j, hj, rj, al, (towards_iff (m := ((j : Int), false)) ok la lb (fun _ => rg) N (by show (0 : Int) ≤ j; omega) (by show (j : Int) < n; omega) (by rw [if_neg (show ¬ ((false : Bool) = true) by decide)]; exact rj) al).mpr fun c hc e dr => ?_⟩
  have e : c.2.1 = (j : Int) := by rw [if_neg (show ¬ ((false : Bool) = true) by decide)] at e; exact e
  obtain ⟨⟨b1, b2⟩, ⟨b3, b4⟩, b5, b6, _⟩ := ok c hc
  have st : ∀ i : Int, 0 ≤ i → gi (stp9 a ((j : Int), false)) i = if i = j then gi a j + -1 else gi a i := fun i i0 => gi_stp (m := ((j : Int), false)) (by show (0 : Int) ≤ j; omega) (by show (j : Int) < a.length; omega) i0
  rw [st c.1 b1, st c.2.1 b3, if_pos e, if_neg (fun z => b5 (z.trans e.symm))] at dr ⊢
  obtain ⟨q, eq⟩ : ∃ q : Nat, c.1 = q := ⟨c.1.toNat, by omega⟩
  rw [e] at dr ⊢
  have rq : gi b c.1 < gi a c.1 := by omega
  have z := (N3 c hc (.inl rq)).2
  rw [e] at z
  rw [eq] at rq z ⊢
  have := most q (by omega) rq
  exact ⟨by omega, z⟩
theorem next_ex {n : Nat} {cs : List Tri} {ring : Bool} {a b : List Int} (ok : ∀ c ∈ cs, ChOk n c) (la : a.length = n) (lb : b.length = n) (lv : Live n cs ring) (N : NoAll n cs ring a b) (h : ∃ k : Nat, k < n ∧ gi a k ≠ gi b k) :
    ∃ (k : Nat) (up : Bool), k < n ∧ (if up = true then gi a k < gi b k else gi b k < gi a k) ∧ alw9 cs a ((k : Int), up) = true ∧ NoAll n cs ring (stp9 a ((k : Int), up)) b := by
  obtain ⟨k0, hk0, ne⟩ := h
  cases ring with
  | true =>
    obtain ⟨rg, ru⟩ := lv.1 rfl
    by_cases q : gi a k0 < gi b k0
    · obtain ⟨j, h1, h2, h3, h4⟩ := ring_up ok la lb rg ru N ⟨k0, hk0, q⟩
      exact ⟨j, true, h1, by rw [if_pos rfl]; exact h2, h3, h4⟩
    · obtain ⟨j, h1, h2, h3, h4⟩ := ring_down ok la lb rg ru N ⟨k0, hk0, by omega⟩
      exact ⟨j, false, h1, by rw [if_neg (show ¬ ((false : Bool) = true) by decide)]; exact h2, h3, h4⟩
  | false =>
    obtain ⟨r, hr⟩ := lv.2 rfl
    have hr2 : ∀ c ∈ cs, ((r c.1 : Nat) : Int) < ((r c.2.1 : Nat) : Int) := fun c hc => by have := hr c hc; omega
    have fin : ∀ {x : List Int}, NoOb n cs x b → NoAll n cs false x b := fun h => ⟨h.1, h.2.1, h.2.2, fun e => by cases e⟩
    by_cases q : gi a k0 < gi b k0
    · obtain ⟨j, h1, h2, h3, h4⟩ := up_step (r := fun x => ((r x : Nat) : Int)) ok la hr2 (noOb_of N) ⟨k0, hk0, q⟩
      exact ⟨j, true, h1, by rw [if_pos rfl]; exact h2, h3, fin h4⟩
    · obtain ⟨j, h1, h2, h3, h4⟩ := down_step (r := fun x => ((r x : Nat) : Int)) ok la hr2 (noOb_of N) ⟨k0, hk0, by omega⟩
      exact ⟨j, false, h1, by rw [if_neg (show ¬ ((false : Bool) = true) by decide)]; exact h2, h3, fin h4⟩
theorem twM_in {a b : List Int} {k : Nat} {up : Bool} (tw : if up = true then gi a k < gi b k else gi b k < gi a k) {n : Nat} (hk : k < n) : ((k : Int), up) ∈ twM a b n := by
  unfold twM
  refine List.mem_flatMap.mpr ⟨k, List.mem_range.mpr hk, ?_⟩
  unfold twK
  cases up
  · rw [if_neg (show ¬ ((false : Bool) = true) by decide)] at tw
    rw [if_neg (by omega), if_pos tw]
    exact List.mem_singleton.mpr rfl
  · rw [if_pos rfl] at tw
    rw [if_pos tw]
    exact List.mem_singleton.mpr rfl
/-- the plan's next move -/
def nxM (n : Nat) (cs : List Tri) (a b : List Int) : Option Mv9 := (twM a b n).find? (begB cs a b)
theorem nxM_of {n : Nat} {cs : List Tri} {ring : Bool} {a b : List Int} (ok : ∀ c ∈ cs, ChOk n c) (so : StOk n a) (lb : b.length = n) (n1 : 1 ≤ n) (lv : Live n cs ring) (N : NoAll n cs ring a b) (h : 0 < distM a b n) :
    ∃ m, nxM n cs a b = some m ∧ 0 ≤ m.1 ∧ m.1 < n ∧ alw9 cs a m = true ∧ NoAll n cs ring (stp9 a m) b ∧ StOk n (stp9 a m) ∧ distM (stp9 a m) b n = distM a b n - 1 := by
  have la := so.1
  have rg : ring = true → RgOk n cs := fun e => (lv.1 e).1
  obtain ⟨k, hk, ne⟩ := distM_pos n h
  obtain ⟨j, up, hj, tw, al, N2⟩ := next_ex ok la lb lv N ⟨k, hk, ne⟩
  have hb : begB cs a b ((j : Int), up) = true := by
    rw [begB_iff (ring := ring) ok la lb n1 rg N (by show (0 : Int) ≤ j; omega) (by show (j : Int) < n; omega) tw, al, Bool.true_and]
    exact (okB_iff (by rw [stp9_len]; exact la) n1).mpr N2
  cases hf : nxM n cs a b with
  | none =>
    unfold nxM at hf
    exact absurd hb (by simpa using List.find?_eq_none.mp hf _ (twM_in tw hj))
  | some m =>
    unfold nxM at hf
    have hm := List.mem_of_find?_eq_some hf
    have hb2 := List.find?_some hf
    obtain ⟨m0, m1, mt⟩ := twM_mem hm
    rw [begB_iff (ring := ring) ok la lb n1 rg N m0 m1 mt, Bool.and_eq_true] at hb2
    obtain ⟨i, ei⟩ : ∃ i : Nat, m.1 = i := ⟨m.1.toNat, by omega⟩
    obtain ⟨s, u⟩ := m
    dsimp only at ei mt m0 m1
    subst ei
    refine ⟨_, rfl, m0, m1, hb2.1, (okB_iff (by rw [stp9_len]; exact la) n1).mp hb2.2, (stp9_ok ok so hb2.1).1, (distM_to (k := i) (up := u) (by omega) mt n).2 (by omega)⟩
/-- each move is the next one -/
def PlanOf (n : Nat) (cs : List Tri) (a b : List Int) (ms : List Mv9) : Prop := ∀ (i : Nat) m, ms[i]? = some m → nxM n cs (runF a (ms.take i)) b = some m
theorem PlanOf.snoc {n : Nat} {cs : List Tri} {a b : List Int} {ms : List Mv9} {m : Mv9} (h : PlanOf n cs a b ms) (e : nxM n cs (runF a ms) b = some m) : PlanOf n cs a b (ms ++ [m]) := fun i x hx => by
  rcases Nat.lt_or_ge i ms.length with z | z
  · rw [List.getElem?_append_left z] at hx
    rw [List.take_append_of_le_length (by omega)]
    exact h i x hx
  · have hx2 := (List.getElem?_eq_some_iff.mp hx).1
    rw [List.length_append] at hx2
    have hx2 : i < ms.length + 1 := hx2
    obtain rfl : i = ms.length := by omega
    rw [List.getElem?_append_right (Nat.le_refl _), Nat.sub_self] at hx
    rw [← Option.some.inj hx, List.take_left]
    exact e
/-- a plan's part: a run, the rest of the way as much shorter -/
structure PartOf (n : Nat) (cs : List Tri) (ring : Bool) (a b : List Int) (ms : List Mv9) : Prop where
  plan : PlanOf n cs a b ms
  run : RunR cs a ms (runF a ms)
  so : StOk n (runF a ms)
  no : NoAll n cs ring (runF a ms) b
  far : distM (runF a ms) b n = distM a b n - ms.length
theorem PartOf.nil {n : Nat} {cs : List Tri} {ring : Bool} {a b : List Int} (so : StOk n a) (N : NoAll n cs ring a b) : PartOf n cs ring a b [] := ⟨fun i m e => by simp at e, .nil, so, N, by show distM a b n = distM a b n - 0; omega⟩
theorem PartOf.next {n : Nat} {cs : List Tri} {ring : Bool} {a b : List Int} {ms : List Mv9} (h : PartOf n cs ring a b ms) (ok : ∀ c ∈ cs, ChOk n c) (lb : b.length = n) (n1 : 1 ≤ n) (lv : Live n cs ring) (hl : (ms.length : Int) < distM a b n) :
    ∃ m, nxM n cs (runF a ms) b = some m ∧ 0 ≤ m.1 ∧ m.1 < n ∧ PartOf n cs ring a b (ms ++ [m]) := by
  obtain ⟨m, e, m0, m1, al, N2, so2, d2⟩ := nxM_of ok h.so lb n1 lv h.no (by rw [h.far]; omega)
  refine ⟨m, e, m0, m1, h.plan.snoc e, ?_, ?_, ?_, ?_⟩
  · rw [runF_snoc]; exact .snoc h.run al
  · rw [runF_snoc]; exact so2
  · rw [runF_snoc]; exact N2
  · rw [runF_snoc, d2, h.far, List.length_append]
    show _ = distM a b n - ((ms.length : Int) + 1)
    omega
end WC

set_option maxHeartbeats 8000000
namespace WC
open PySem PySem.Spec PyProof.Rows L2
def flT : List V → List (Str × V)
  | [s, m] => [("most", m), ("size", s)]
  | _ => []
def unrE (CU : Addr) (H : Hp) (n : Nat) (cs : List Tri) (ring : Bool) (st tg : List Int) (E : XK) : Prop :=
  ∀ (U os : List Obj_) (o : Obj_), AllOb cs st tg n ring U → os.Perm U → os.Pairwise (fun a b => lexSI b a = false) → os[0]? = some o → ∀ H2 r d, Same H H2 → ObA H2 o r → H2 d = some (.xd [("objection", r)]) → E (.ref CU) (some d) H2
def resLen (CU CT : Addr) : Hp → Nat → List Tri → Bool → List Int → List Int → VK → XK → Prop := fun H n cs ring st tg Q E =>
  (∀ U, AllOb cs st tg n ring U → U = [] → distM st tg n ≤ 2000 → ∀ H2, Same H H2 → Q (.int (distM st tg n)) H2) ∧ (∀ U, AllOb cs st tg n ring U → U = [] → 2000 < distM st tg n → ErrX E CT H [("most", .int 2000), ("size", .int (distM st tg n))]) ∧ unrE CU H n cs ring st tg E
def resPlan (CU CT : Addr) : Hp → Nat → List Tri → Bool → List Int → List Int → VK → XK → Prop := fun H n cs ring st tg Q E =>
  (∀ U, AllOb cs st tg n ring U → U = [] → distM st tg n ≤ 2000 → ∀ T ks ms H2, Same H H2 → H2 T = some (.tup ks) → Paired (MvR H2) ms ks → PartOf n cs ring st tg ms → (ms.length : Int) = distM st tg n → Q (.ref T) H2) ∧ (∀ U, AllOb cs st tg n ring U → U = [] → 2000 < distM st tg n → ErrX E CT H [("most", .int 2000), ("size", .int (distM st tg n))]) ∧ unrE CU H n cs ring st tg E
/-- of two states, the net as the law's nets are -/
def spO2L (K : PySem.W.Frag) (CP CR CX : Addr) (res : Hp → Nat → List Tri → Bool → List Int → List Int → VK → XK → Prop) : Sp := fun vs H Q E => ∃ (C x : Addr) (v1 v2 : V) (ring : Bool) (n : Nat) (cs : List Tri), KC CP CR C ring ∧ vs = [.ref x, v1, v2] ∧ NetAt H x C n cs ∧ NOk n cs ∧ Live n cs ring ∧ Cand K H v1 ∧ Cand K H v2 ∧
  (∀ st tg, StAt H v1 st → StOk n st → StAt H v2 tg → StOk n tg → res H n cs ring st tg Q E) ∧ (∀ p, StBad K H n v1 p → ErrX E CX H [("position", p)]) ∧ (∀ st p, StAt H v1 st → StOk n st → StBad K H n v2 p → ErrX E CX H [("position", p)])
def spFm (CS : List Addr) : Sp := fun vs H Q _ => ∃ (C x s t : Addr) (n : Nat) (cs : List Tri) (st tg : List Int), C ∈ CS ∧ vs = [.ref x, .ref s, .ref t] ∧ NetAt H x C n cs ∧ NOk n cs ∧ H s = some (.tup (st.map V.int)) ∧ st.length = n ∧ H t = some (.tup (tg.map V.int)) ∧ tg.length = n ∧ (∀ m, nxM n cs st tg = some m → ∀ v H2, Same H H2 → MvR H2 m v → Q v H2) ∧ (nxM n cs st tg = none → ∀ H2, Same H H2 → Q .non H2)
section
variable {P : Program} {w : World} {K : PySem.W.Frag} {mg : Str → Option Value} {base : Heap}
theorem ok_TooLarge_init {f C : Addr} {fd : FuncData} (F : Fun K "__init__" "TooLarge.__init__" s_TooLarge_init f fd) (T : OexC K C) (h1 : PySem.W.findIn K (.ref C) "size" = some none) (h2 : PySem.W.findIn K (.ref C) "most" = some none) :
    FnOk P w K mg base (L2.CX P w) 1 f fd ["self", "size", "most"] (spX C 2 flT) := by
  refine F.okX sc_TooLarge_init (fun vs H Q E h => ?_) (fun cdv A outer s H vs Q E hr h => ?_)
  · obtain ⟨a, ws, rfl, hl, _⟩ := h
    simp [hl]
  · obtain ⟨a, ws, rfl, hl, ha, k⟩ := h
    match ws, hl with
    | [v, u], _ =>
      refine ⟨_, pss_cons (ps_ost (pv 0) (pv 1)) (pss_one (ps_ost (pv 0) (pv 2))), ?_⟩
      refine ⟨_, rfl, _, rfl, a, C, rfl, T, h1, .inl ⟨ha, fun d hd hne => ⟨_, rfl, _, rfl, a, C, rfl, T, h2, .inr ⟨d, _, upd_same, by rw [upd_ne hne, upd_same], Nat.le_of_ble_eq_true rfl, ?_⟩⟩⟩⟩
      have q : upd (upd (upd H d (exd d [("size", v)])) a (exo a C (some d))) d (exd d [("most", u), ("size", v)]) = upd (upd H d (exd d [("most", u), ("size", v)])) a (exo a C (some d)) := by
        funext b
        by_cases e : b = d
        · subst e
          rw [upd_same, upd_ne hne, upd_same]
        · by_cases e2 : b = a
          · subst e2
            rw [upd_ne e, upd_same, upd_same]
          · rw [upd_ne e, upd_ne e2, upd_ne e, upd_ne e2, upd_ne e]
      show _
      rw [q]
      exact k d hd hne
theorem ok_plan_length {f CX CU CT CP CR : Addr} {fd : FuncData} {vM : Value} (F : Fun K "plan_length" "plan_length" s_plan_length f fd) (gM : mg "MOST_MOVES" = some vM) (rM : RelV (.int 2000) vM) (g_distance : DefR P w K mg base "distance" 8 (spO2 K CP CR CX (resDist CU))) (t_TooLarge : ExcR P w K mg base "TooLarge" CT 1 2 flT) :
    FnOk P w K mg base (L2.CX P w) 9 f fd ["net", "start", "target"] (spO2 K CP CR CX (resLen CU CT)) := by
  refine F.okX sc_plan_length (fun vs H Q E h => ?_) (fun cdv A outer s H vs Q E hr h => ?_)
  · obtain ⟨C, x, v1, v2, ring, n, cs, _, rfl, _⟩ := h
    rfl
  · obtain ⟨C, x, v1, v2, ring, n, cs, hK, rfl, NA, G, c1, c2, k1, k2, k3⟩ := h
    -- slots: 0 net, 1 start, 2 target, 3 size
    refine ⟨_, (pss_cons (ps_set (i := 3) sc_plan_length.nd rfl (Or.inl rfl) (pe_cd g_distance hr psE (pa_cons (pv 0) (pa_cons (pv 1) (pa_cons (pv 2) pa_nil)))))
      (pss_cons (ps_if (pt_cmpR op_gt (pv 3) (pe_glob (v := .int 2000) (by rfl) gM rM) (nomark _)) (pss_one (ps_raise rfl (takes_of rfl rfl rfl rfl) (pmk_x t_TooLarge hr (pa_cons (pv 3) (pa_cons (pe_glob (v := .int 2000) (by rfl) gM rM) pa_nil))))) pss_nil)
      (pss_one (ps_ret (pv 3))))), ?_⟩
    refine ⟨_, rfl, _, rfl, _, rfl, C, x, v1, v2, ring, n, cs, hK, rfl, NA, G, c1, c2, fun st tg ha hk hb hl => ?_, k2, k3⟩
    obtain ⟨r1, r2, r3⟩ := k1 st tg ha hk hb hl
    refine ⟨fun U hU e0 H2 s2 => ?_, r3⟩
    refine ⟨_, rfl, _, _, rfl, rfl, _, rfl, ite2 (fun e => ?_) (fun e => ?_)⟩
    · have e := of_decide_eq_true e
      refine ⟨_, rfl, x_use rfl (by decide) fun d hd => ?_⟩
      exact r2 U hU e0 e _ d (s2.trans (Same.new hd)) (s2.free hd) upd_same
    · have e := of_decide_eq_false (Bool.eq_false_iff.mpr e)
      exact ⟨_, rfl, r1 U hU e0 (by omega) H2 s2⟩
theorem ok_first_move {f : Addr} {CS : List Addr} {fd : FuncData} (F : Fun K "_first_move" "_first_move" s_first_move f fd) (g_moves_towards : DefR P w K mg base "_moves_towards" 1 spTw) (g_begins_plan : DefR P w K mg base "_begins_plan" 7 (spBeg CS)) : FnOk P w K mg base (L2.CX P w) 8 f fd ["net", "state", "target"] (spFm CS) := by
  refine F.okX sc_first_move (fun vs H Q E h => ?_) (fun cdv A outer s H vs Q E hr h => ?_)
  · obtain ⟨C, x, s, t, n, cs, st, tg, _, rfl, _⟩ := h
    rfl
  · obtain ⟨C, x, s0, t0, n, cs, st, tg, hC, rfl, NA, G, hs, ls, ht, lt, q1, q2⟩ := h
    have n40 := G.n40
    -- slots: 0 net, 1 state, 2 target, 3 move
    refine ⟨_, (pss_cons (ps_for (passes_of rfl) rfl (pi_list (pe_cd g_moves_towards hr psE (pa_cons (pv 1) (pa_cons (pv 2) pa_nil)))) (pg_name (i := 3) sc_first_move.nd rfl (Or.inl rfl))
        (pss_one (ps_if (pt_val (pe_cd g_begins_plan hr psE (pa_cons (pv 0) (pa_cons (pv 1) (pa_cons (pv 2) (pa_cons (pv 3) pa_nil)))))) (pss_one (ps_ret (pv 3))) pss_nil)))
      (pss_one (ps_ret pe_non))), ?_⟩
    refine ⟨_, rfl, _, rfl, s0, t0, n, st, tg, rfl, hs, ls, n40, ht, lt, fun M km H2 s2 nM hM pm => ?_⟩
    have lkm := pm.length
    refine ⟨M, rfl, ⟨_, SqL.of hM⟩, for_it (walk_list (xs := km)) (fun i σ H3 => ∃ v3, σ = [some (.ref x), some (.ref s0), some (.ref t0), v3] ∧ Same H2 H3 ∧ ∀ j, j < i → ∀ m, (twM st tg n)[j]? = some m → begB cs st tg m = false) ⟨_, rfl, Same.refl H2, fun j hj => absurd hj (Nat.not_lt_zero j)⟩ (fun i σ H3 _ z => ?_) ?_ ?_⟩
    · obtain ⟨_, _, z, _⟩ := z
      exact SqL.of (z _ _ hM)
    · rintro i y σ H5 H4 hi ⟨v3, rfl, s4, no⟩ ⟨rfl, e1⟩
      obtain ⟨m, qm, hm⟩ := pr_at pm e1
      have hm4 : MvR H4 m y := MvAt.same hm s4
      obtain ⟨m0, m1, _⟩ := twM_mem (List.mem_of_getElem? qm)
      have s24 := s2.trans s4
      refine ⟨_, rfl, _, rfl, _, rfl, _, rfl, C, x, s0, t0, y, n, cs, st, tg, m, hC, rfl, NA.same s24, G, s24 _ _ hs, ls, s24 _ _ ht, lt, hm4, m0, m1, fun H6 s6 => ⟨_, rfl, ite2 (fun e => ?_) (fun e => ?_)⟩⟩
      · refine ⟨_, rfl, q1 m ?_ y H6 (s24.trans s6) (MvAt.same hm4 s6)⟩
        obtain ⟨hl, el⟩ := List.getElem?_eq_some_iff.mp qm
        unfold nxM
        rw [List.find?_eq_some_iff_getElem]
        refine ⟨e, i, hl, el, fun j hj => ?_⟩
        rw [no j hj _ (List.getElem?_eq_getElem (Nat.lt_trans hj hl))]
        rfl
      · refine ⟨_, rfl, s4.trans s6, fun j hj m2 e2 => ?_⟩
        by_cases ej : j = i
        · rw [ej, qm] at e2
          rw [← Option.some.inj e2]
          exact Bool.eq_false_iff.mpr e
        · exact no j (by omega) m2 e2
    · rintro σ H3 ⟨v3, rfl, s3, no⟩
      refine q2 ?_ H3 (s2.trans s3)
      unfold nxM
      rw [List.find?_eq_none]
      intro m hm
      obtain ⟨j, hj⟩ := List.mem_iff_getElem?.mp hm
      have hl := (List.getElem?_eq_some_iff.mp hj).1
      rw [no j (by omega) m hj]
      decide
theorem ok_plan {f CX CU CT CP CR : Addr} {fd : FuncData} (F : Fun K "plan" "plan" s_plan f fd) (B : Blt mg) (g_plan_length : DefR P w K mg base "plan_length" 9 (spO2 K CP CR CX (resLen CU CT))) (g_first_move : DefR P w K mg base "_first_move" 8 (spFm [CP, CR])) (g_state_behind : DefR P w K mg base "state_behind" 1 spBeh) : FnOk P w K mg base (L2.CX P w) 10 f fd ["net", "start", "target"] (spO2L K CP CR CX (resPlan CU CT)) := by
  refine F.okX sc_plan (fun vs H Q E h => ?_) (fun cdv A outer s H vs Q E hr h => ?_)
  · obtain ⟨C, x, v1, v2, ring, n, cs, _, rfl, _⟩ := h
    rfl
  · obtain ⟨C, x, v1, v2, ring, n, cs, hK, rfl, NA, G, lv, c1, c2, k1, k2, k3⟩ := h
    have n40 := G.n40
    -- slots: 0 net, 1 start, 2 target, 3 state, 4 moves, 5 _, 6 move
    refine ⟨_, (pss_cons (ps_set (i := 3) sc_plan.nd rfl (Or.inl rfl) (pv 1))
      (pss_cons (ps_set (i := 4) sc_plan.nd rfl (Or.inl rfl) (pe_lst pa_nil))
      (pss_cons (ps_for (passes_of rfl) rfl (pi_range1 (by rfl) B.range (pa_cons (pe_cd g_plan_length hr psE (pa_cons (pv 0) (pa_cons (pv 1) (pa_cons (pv 2) pa_nil)))) pa_nil)) (pg_name (i := 5) sc_plan.nd rfl (Or.inl rfl))
        (pss_cons (ps_set (i := 6) sc_plan.nd rfl (Or.inl rfl) (pe_cd g_first_move hr psE (pa_cons (pv 0) (pa_cons (pv 3) (pa_cons (pv 2) pa_nil)))))
      (pss_cons (ps_expr (pe_bm PySem.F.plainAttrs_list PySem.F.slot_list_append PySem.F.type_list_append mt_append (pv 4) (pa_cons (pv 6) pa_nil)))
      (pss_one (ps_set (i := 3) sc_plan.nd rfl (Or.inl rfl) (pe_cd g_state_behind hr psE (pa_cons (pv 3) (pa_cons (pv 6) pa_nil))))))))
      (pss_one (ps_ret (pe_callTy (T := "tuple") (c_tup (K := K)) (by rfl) B.tuple bt_tuple (pa_cons (pv 4) pa_nil))))))), ?_⟩
    refine ⟨_, rfl, by show 0 ≤ sizeLine; decide, fun D nD => ?_⟩
    have s1 : Same H (upd H D (.lst [])) := Same.new nD
    refine ⟨_, rfl, _, rfl, _, rfl, C, x, v1, v2, ring, n, cs, hK, rfl, NA.same s1, G, c1.same s1, c2.same s1, fun st tg ha1 hk hb1 hl => ?_, fun p b => (k2 p (bad_back c1 s1 b)).on s1, fun st p a hk b => (k3 st p (st_back c1 s1 a) hk (bad_back c2 s1 b)).on s1⟩
    have ha := st_back c1 s1 ha1
    have hb := st_back c2 s1 hb1
    obtain ⟨r1, r2, r3⟩ := k1 st tg ha hk hb hl
    refine ⟨fun U hU e0 le H2 s2 => ?_, fun U hU e0 gt => (r2 U hU e0 gt).on s1, fun U os o h1 h2 h3 h4 H2 r d s2 hr2 hd => r3 U os o h1 h2 h3 h4 H2 r d (s1.trans s2) hr2 hd⟩
    have N := (noAll_iff hU).mp e0
    have nn := distM_nn st tg n
    have s02 := s1.trans s2
    obtain ⟨t2, e2, h2⟩ := hb
    subst e2
    refine ⟨distM st tg n, rfl, by omega, by omega, for_it walk_range (fun i σ H5 => ∃ sv ms ks v5 v6, σ = [some (.ref x), some v1, some (.ref t2), some sv, some (.ref D), v5, v6] ∧ Same H H5 ∧ H5 D = some (.lst ks) ∧ Paired (MvR H5) ms ks ∧ ms.length = i ∧ PartOf n cs ring st tg ms ∧ StAt H5 sv (runF st ms)) ⟨v1, [], [], _, _, rfl, s02, s2 _ _ upd_same, .nil, rfl, PartOf.nil hk N, ha.same s02⟩ (fun _ _ _ _ _ => trivial) ?_ ?_⟩
    · rintro i y σ H4 H5 hil ⟨sv, ms, ks, v5, v6, rfl, s5, hD, pk, lm, pp, t1, e1, h1⟩ ⟨rfl, _⟩
      subst e1
      have hi : i < (distM st tg n).toNat := hil
      obtain ⟨m, em, m0, m1, pp2⟩ := pp.next G.ok hl.1 G.n1 lv (by omega)
      have lx := pp.so.1
      have lk := pk.length
      dsimp only [gName]
      refine ⟨_, rfl, _, rfl, _, rfl, C, x, t1, t2, n, cs, runF st ms, tg, hK.mem, rfl, NA.same s5, G, h1, lx, s5 _ _ h2, hl.1, fun m2 em2 v H6 s6 hv => ?_, fun en => ?_⟩
      · rw [em] at em2
        obtain rfl := Option.some.inj em2
        have hD6 := s6 _ _ hD
        refine ⟨_, rfl, .inl ⟨rfl, _, SqL.of hD6⟩, _, rfl, D, _, _, rfl, rfl, hD6, line_lt (by omega), ?_⟩
        obtain ⟨tv, ev, htv⟩ := hv
        have s57 : Same H (upd H6 D (.lst (ks ++ [v]))) := Same.newer (s5.trans s6) nD
        have tD : tv ≠ D := ne_of htv hD6 (by intro z; cases z)
        have t1D : t1 ≠ D := ne_of h1 hD (by intro z; cases z)
        have hv7 : MvR (upd H6 D (.lst (ks ++ [v]))) m v := ⟨tv, ev, by rw [upd_ne tD]; exact htv⟩
        refine ⟨_, rfl, _, rfl, t1, v, n, runF st ms, m.1, m.2, rfl, by rw [upd_ne t1D]; exact s6 _ _ h1, lx, by omega, hv7, m0, m1, fun H8 r s8 nr hr8 => ?_⟩
        refine ⟨.ref r, ms ++ [m], _, _, _, rfl, s57.trans s8, s8 _ _ upd_same, mvr_same s8 (pr_snoc (mvr_on (mvr_same s6 pk) (SameB.refl D H6).upd ⟨_, hD6⟩) hv7), by rw [List.length_append, lm]; rfl, pp2, r, rfl, ?_⟩
        rw [runF_snoc]
        exact hr8
      · rw [em] at en
        cases en
    · rintro σ H5 ⟨sv, ms, ks, v5, v6, rfl, s5, hD, pk, lm, pp, _⟩
      refine ⟨_, rfl, D, _, rfl, .inl ⟨SqL.of hD, fun T nT => r1 U hU e0 le T ks ms _ (s5.trans (Same.new nT)) upd_same (mvr_same (Same.new nT) pk) pp (by omega)⟩⟩
end
end WC

set_option maxHeartbeats 8000000
namespace WC
open PySem PySem.Spec PyProof.Rows L2
section
variable {P : Program} {w : World} {K : PySem.W.Frag} {mg : Str → Option Value} {base : Heap}
end
theorem dpAll_ints {K : PySem.W.Frag} {H : Hp} : ∀ ns : List Int, DpAll K H (fS ns) (ns.map PyData.int)
  | [] => .nil
  | c :: cs => .cons (.int c) (dpAll_ints cs)
theorem lay_ints : ∀ ns : List Int, PyData.canLayAll0 (ns.map PyData.int) = true
  | [] => by simp only [List.map_nil, PyData.canLayAll0]
  | c :: cs => by
    simp only [List.map_cons, PyData.canLayAll0, PyData.canLay0, lay_ints cs, Bool.and_true, Bool.true_and]
theorem shaped_ints (ns : List Int) : SeqAt.shaped (.tuple (ns.map PyData.int)) = true := by
  unfold SeqAt.shaped
  rw [Bool.and_eq_true, decide_eq_true_iff]
  refine ⟨by simp only [PyData.canLay0]; exact lay_ints ns, ?_⟩
  have := dep_n ns
  simp only [PyData.depth]
  omega
theorem eqvAll_ints : ∀ ns : List Int, PyData.eqvAll (ns.map PyData.int) (ns.map PyData.int) = true
  | [] => by simp only [List.map_nil, PyData.eqvAll]
  | c :: cs => by
    simp only [List.map_cons, PyData.eqvAll, PyData.eqv, eqvAll_ints cs, Bool.and_true]
    simp
theorem eqv_ints (ns : List Int) : PyData.eqv (.tuple (ns.map PyData.int)) (.tuple (ns.map PyData.int)) = true := by
  simp only [PyData.eqv]
  exact eqvAll_ints ns
/-- is_plan, asked of moves that lead to the target if they are as many as its distance -/
def spPlan9 (CP CR : Addr) : Sp := fun vs H Q _ => ∃ (C x s g T : Addr) (ring : Bool) (n : Nat) (cs : List Tri) (st tg : List Int) (ks : List V) (us : List Mv9), KC CP CR C ring ∧ vs = [.ref x, .ref s, .ref g, .ref T] ∧ NetAt H x C n cs ∧ NOk n cs ∧ H s = some (.tup (fS st)) ∧ StOk n st ∧ H g = some (.tup (fS tg)) ∧ StOk n tg ∧ Lat n cs st tg ∧ H T = some (.tup ks) ∧ Paired (TA fM H) us ks ∧ us.length ≤ 1000 ∧ ((us.length : Int) = distM st tg n → RunR cs st us tg) ∧ ∀ H2, Same H H2 → Q (.bl (decide ((us.length : Int) = distM st tg n))) H2
section
variable {P : Program} {w : World} {K : PySem.W.Frag} {mg : Str → Option Value} {base : Heap}
theorem ok_is_plan {f CX CP CR : Addr} {fd : FuncData} (F : Fun K "is_plan" "is_plan" s_is_plan f fd) (B : Blt mg) (g_reaches : DefR P w K mg base "reaches" 8 (spO2 K CP CR CX resRch)) (g_moves_between : DefR P w K mg base "moves_between" 1 spMvB) (g_is_move : DefR P w K mg base "is_move" 2 (spIsMv K [CP, CR])) (g_is_allowed : DefR P w K mg base "is_allowed" 6 (spSM [CP, CR] rAlw)) (g_state_behind : DefR P w K mg base "state_behind" 1 spBeh) :
    FnOk P w K mg base (L2.CX P w) 9 f fd ["net", "start", "target", "moves"] (spPlan9 CP CR) := by
  refine F.okX sc_is_plan (fun vs H Q E h => ?_) (fun cdv A outer s H vs Q E hr h => ?_)
  · obtain ⟨C, x, s, g, T, ring, n, cs, st, tg, ks, us, _, rfl, _⟩ := h
    rfl
  · obtain ⟨C, x, s0, g, T, ring, n, cs, st, tg, ks, us, hK, rfl, NA, G, hs, so, hg, go, L, hT, pT, lu, hrun, q⟩ := h
    have n40 := G.n40
    have n1 := G.n1
    have lk := pT.length
    -- slots: 0 net, 1 start, 2 target, 3 moves, 4 state, 5 move
    refine ⟨_, (pss_cons (ps_if (PW.pt (pw_or (pt_not (pt_val (pe_cd g_reaches hr psE (pa_cons (pv 0) (pa_cons (pv 1) (pa_cons (pv 2) pa_nil)))))) (pw_or1 (pt_not (pt_val (pe_callB call_isi (by rfl) B.isi bt_isi (pa_cons (pv 3) (pa_cons (pe_bltn (v := .ty "tuple") (by rfl) B.tuple bt_tuple rfl) pa_nil)))))))) (pss_one (ps_ret pe_bl)) pss_nil)
      (pss_cons (ps_if (pt_cmpR op_ne (pe_callB call_len_seq (by rfl) B.len bt_len (pa_cons (pv 3) pa_nil)) (pe_cd g_moves_between hr psE (pa_cons (pv 1) (pa_cons (pv 2) pa_nil))) (nomark _)) (pss_one (ps_ret pe_bl)) pss_nil)
      (pss_cons (ps_set (i := 4) sc_is_plan.nd rfl (Or.inl rfl) (pv 1))
      (pss_cons (ps_for (passes_of rfl) rfl (pi_tup (pv 3)) (pg_name (i := 5) sc_is_plan.nd rfl (Or.inl rfl))
        (pss_cons (ps_if (PW.pt (pw_or (pt_not (pt_val (pe_cd g_is_move hr psE (pa_cons (pv 0) (pa_cons (pv 5) pa_nil))))) (pw_or1 (pt_not (pt_val (pe_cd g_is_allowed hr psE (pa_cons (pv 0) (pa_cons (pv 4) (pa_cons (pv 5) pa_nil))))))))) (pss_one (ps_ret pe_bl)) pss_nil)
      (pss_one (ps_set (i := 4) sc_is_plan.nd rfl (Or.inl rfl) (pe_cd g_state_behind hr psE (pa_cons (pv 4) (pa_cons (pv 5) pa_nil)))))))
      (pss_one (ps_ret (pe_cmpR (op_eqD (unR hr)) (pv 4) (pv 2) (nomark _)))))))), ?_⟩
    refine ⟨_, rfl, _, rfl, _, rfl, C, x, .ref s0, .ref g, ring, n, cs, hK, rfl, NA, G, st_cand9 hs so n40, st_cand9 hg go n40, fun st2 tg2 a1 a2 a3 a4 U H2 s2 hU => ?_, fun p b => st_good9 hs so b, fun st2 p _ _ b => st_good9 hg go b⟩
    obtain rfl := st_same9 hs a1
    obtain rfl := st_same9 hg a3
    have e := L.nil G.ok so n1 hU
    rw [show decide (U.length = 0) = true from decide_eq_true (by rw [e]; rfl)]
    refine ⟨_, rfl, iteF ?_⟩
    have hT2 := s2 _ _ hT
    refine ⟨_, rfl, _, _, _, _, _, rfl, .ty _, .base (.tup hT2), kit_ty (r := true) (by decide +kernel), _, rfl, iteF ?_⟩
    refine ⟨_, rfl, T, _, rfl, .inr (SqT.of hT2), _, rfl, _, rfl, s0, g, n, st2, tg2, rfl, s2 _ _ hs, so.1, n40, s2 _ _ hg, go.1, fun H3 s3 => ⟨rfl, _, rfl, ?_⟩⟩
    have s03 := s2.trans s3
    by_cases e2 : (us.length : Int) = distM st2 tg2 n
    · rw [show (!decide (V.int (ks.length : Nat) = V.int (distM st2 tg2 n))) = false by rw [← lk, e2]; simp]
      obtain ⟨r1, r2⟩ := (hrun e2).at
      have q : ∀ H4, Same H H4 → Q (.bl true) H4 := fun H4 s4 => by have := q H4 s4; rw [decide_eq_true e2] at this; exact this
      refine iteF ⟨_, rfl, ?_⟩
      refine ⟨_, rfl, T, rfl, ⟨_, SqT.of (s3 _ _ hT2)⟩, for_it (walk_tup (xs := ks)) (fun i σ H5 => ∃ (S : Addr) (v5 : Option V), σ = [some (.ref x), some (.ref s0), some (.ref g), some (.ref T), some (.ref S), v5] ∧ Same H H5 ∧ H5 S = some (.tup (fS (runF st2 (us.take i))))) ⟨_, _, rfl, s03, s03 _ _ hs⟩ (fun i σ H5 _ z => ?_) ?_ ?_⟩
      · obtain ⟨_, _, _, z, _⟩ := z
        exact SqT.of (z _ _ hT)
      · rintro i y σ H4 H5 hi ⟨S, v5, rfl, s5, hS⟩ ⟨rfl, e3⟩
        obtain ⟨m, qm, Tm, rfl, hTm⟩ := pr_at pT e3
        have hal := r2 i m qm
        have oc : StOk n (runF st2 (us.take i)) := by
          have rr : ∀ j : Nat, j ≤ us.length → StOk n (runF st2 (us.take j)) := fun j => by
            induction j with
            | zero => exact fun _ => so
            | succ j ih =>
              intro hj
              have qj : us[j]? = some us[j] := List.getElem?_eq_getElem (by omega)
              rw [take_snoc qj, runF_snoc]
              exact (stp9_ok G.ok (ih (by omega)) (r2 j _ qj)).1
          exact rr i (by have := (List.getElem?_eq_some_iff.mp qm).1; omega)
        obtain ⟨_, m0, m1⟩ := stp9_ok G.ok oc hal
        have mv : MvAt H5 (.ref Tm) m.1 m.2 := ⟨Tm, rfl, s5 _ _ hTm⟩
        refine ⟨_, rfl, _, rfl, C, x, .ref Tm, n, cs, hK.mem, rfl, NA.same s5, G, mv_cand mv, fun _ => ⟨_, rfl, iteF ?_⟩, fun z => absurd ⟨m.1, m.2, mv, m0, m1⟩ z⟩
        refine ⟨_, rfl, _, rfl, _, rfl, C, x, S, .ref Tm, n, cs, runF st2 (us.take i), m.1, m.2, hK.mem, rfl, NA.same s5, G, hS, oc.1, mv, m0, m1, fun H6 s6 => ?_⟩
        rw [alw_eq, hal]
        refine ⟨_, rfl, iteF ?_⟩
        refine ⟨_, rfl, _, rfl, S, .ref Tm, n, runF st2 (us.take i), m.1, m.2, rfl, s6 _ _ hS, oc.1, by omega, mv.same s6, m0, m1, fun H7 r s7 nr hr7 => ?_⟩
        refine ⟨r, _, rfl, s5.trans (s6.trans s7), ?_⟩
        rw [take_snoc qm, runF_snoc]
        exact hr7
      · rintro σ H5 ⟨S, v5, rfl, s5, hS⟩
        rw [← lk, List.take_length, ← r1] at hS
        refine ⟨_, rfl, _, rfl, .tuple (tg2.map PyData.int), .tuple (tg2.map PyData.int), .tup (SqT.of hS) (dpAll_ints tg2), .tup (SqT.of (s5 _ _ hg)) (dpAll_ints tg2), shaped_ints tg2, shaped_ints tg2, ?_⟩
        rw [eqv_ints]
        exact q H5 s5
    · rw [show (!decide (V.int (ks.length : Nat) = V.int (distM st2 tg2 n))) = true by rw [← lk]; simp; exact e2]
      have := q H3 s03
      rw [decide_eq_false e2] at this
      exact iteT this
end
end WC

set_option maxHeartbeats 8000000
namespace WC
open PySem PySem.Spec PyProof.Rows L2
/-! all states of a window, and how far each is from a start -/
abbrev Rn (cs : List Tri) (a : List Int) (k : Nat) (b : List Int) : Prop := RunIn (fun _ => True) cs a k b
theorem Rn.runR {cs : List Tri} {a b : List Int} {k : Nat} (h : Rn cs a k b) : ∃ ms : List Mv9, ms.length = k ∧ RunR cs a ms b := by
  induction h with
  | nil => exact ⟨[], rfl, .nil⟩
  | @snoc k b m r e _ ih =>
    obtain ⟨ms, h1, h2⟩ := ih
    exact ⟨ms ++ [m], by rw [List.length_append, h1]; rfl, .snoc h2 e⟩
theorem alw_mem {cs c2 : List Tri} (h : ∀ c, c ∈ cs ↔ c ∈ c2) (b : List Int) (m : Mv9) : alw9 cs b m = alw9 c2 b m := by
  rw [Bool.eq_iff_iff, alw9_iff, alw9_iff]
  simp only [h]
theorem RunR.mem {cs c2 : List Tri} (h : ∀ c, c ∈ cs ↔ c ∈ c2) {a b : List Int} {ms : List Mv9} (r : RunR cs a ms b) : RunR c2 a ms b := by
  induction r with
  | nil => exact .nil
  | snoc _ e ih => exact .snoc ih (by rw [← alw_mem h]; exact e)
theorem Rn.mem {cs c2 : List Tri} (h : ∀ c, c ∈ cs ↔ c ∈ c2) {a b : List Int} {k : Nat} (r : Rn cs a k b) : Rn c2 a k b := by
  induction r with
  | nil z => exact .nil z
  | snoc _ e z ih => exact .snoc ih (by rw [← alw_mem h]; exact e) z
/-- the least number of moves to a state -/
def Least (cs : List Tri) (a : List Int) (k : Nat) (b : List Int) : Prop := Rn cs a k b ∧ ∀ j, j < k → ¬ Rn cs a j b
/-- the states of a window -/
def InW (n : Nat) (lev base : Int) (x : List Int) : Prop := x.length = n ∧ ∀ y ∈ x, base ≤ y ∧ y < base + lev
def winM (lev : Nat) (base : Int) : Nat → List (List Int)
  | 0 => [[]]
  | n + 1 => (winM lev base n).flatMap fun p => (List.range lev).map fun (l : Nat) => p ++ [base + (l : Int)]
theorem winM_mem {lev : Nat} {base : Int} : ∀ {n : Nat} {x : List Int}, x ∈ winM lev base n ↔ InW n lev base x
  | 0, x => by
    unfold winM InW
    rw [List.mem_singleton]
    constructor
    · rintro rfl
      exact ⟨rfl, fun y hy => by cases hy⟩
    · exact fun h => List.length_eq_zero_iff.mp h.1
  | n + 1, x => by
    unfold winM
    rw [List.mem_flatMap]
    constructor
    · rintro ⟨p, hp, hx⟩
      obtain ⟨l, hl, rfl⟩ := List.mem_map.mp hx
      have hl := List.mem_range.mp hl
      obtain ⟨h1, h2⟩ := winM_mem.mp hp
      refine ⟨by rw [List.length_append, h1]; rfl, fun y hy => ?_⟩
      rcases List.mem_append.mp hy with z | z
      · exact h2 y z
      · rw [List.mem_singleton.mp z]; omega
    · rintro ⟨h1, h2⟩
      have hne : x ≠ [] := fun e => by rw [e] at h1; simp at h1
      have e := List.dropLast_concat_getLast hne
      have hl := h2 _ (List.getLast_mem hne)
      refine ⟨x.dropLast, winM_mem.mpr ⟨by rw [List.length_dropLast, h1]; rfl, fun y hy => h2 y (List.dropLast_subset _ hy)⟩, List.mem_map.mpr ⟨(x.getLast hne - base).toNat, List.mem_range.mpr (by omega), ?_⟩⟩
      rw [show base + (((x.getLast hne - base).toNat : Nat) : Int) = x.getLast hne by omega]
      exact e
theorem winM_len {lev : Nat} {base : Int} : ∀ n : Nat, (winM lev base n).length = lev ^ n
  | 0 => rfl
  | n + 1 => by
    have f : ∀ ls : List (List Int), (ls.flatMap fun p => (List.range lev).map fun (l : Nat) => p ++ [base + (l : Int)]).length = ls.length * lev := fun ls => by
      induction ls with
      | nil => simp
      | cons p ps ih => rw [List.flatMap_cons, List.length_append, ih, List.length_map, List.length_range, List.length_cons, Nat.succ_mul, Nat.add_comm]
    unfold winM
    rw [f, winM_len n, Nat.pow_succ]
theorem winM_nd {lev : Nat} {base : Int} : ∀ n : Nat, (winM lev base n).Nodup
  | 0 => by unfold winM; simp
  | n + 1 => by
    have f : ∀ ls : List (List Int), ls.Nodup → (ls.flatMap fun p => (List.range lev).map fun (l : Nat) => p ++ [base + (l : Int)]).Nodup := fun ls => by
      induction ls with
      | nil => intro _; simp
      | cons p ps ih =>
        intro h
        rw [List.nodup_cons] at h
        rw [List.flatMap_cons, List.nodup_append]
        refine ⟨?_, ih h.2, fun x hx y hy e => ?_⟩
        · unfold List.Nodup
          rw [List.pairwise_map]
          refine List.Pairwise.imp (fun {i j} hij e => hij ?_) (List.nodup_range (n := lev))
          have := List.append_cancel_left e
          simp at this
          omega
        · obtain ⟨i, _, e1⟩ := List.mem_map.mp hx
          obtain ⟨q, hq, hy2⟩ := List.mem_flatMap.mp hy
          obtain ⟨j, _, e2⟩ := List.mem_map.mp hy2
          rw [← e1, ← e2] at e
          have := (List.append_inj' e rfl).1
          rw [this] at h
          exact h.1 hq
    unfold winM
    exact f _ (winM_nd n)
theorem nodup_leW {α : Type} [DecidableEq α] : ∀ {l m : List α}, l.Nodup → (∀ x ∈ l, x ∈ m) → l.length ≤ m.length
  | [], _, _, _ => Nat.zero_le _
  | a :: l, m, nd, h => by
    rw [List.nodup_cons] at nd
    have ha := h a List.mem_cons_self
    have z := nodup_leW (l := l) (m := m.erase a) nd.2 fun x hx => by
      have ne : x ≠ a := fun e => nd.1 (e ▸ hx)
      exact (List.mem_erase_of_ne ne).mpr (h x (List.mem_cons_of_mem _ hx))
    rw [List.length_erase_of_mem ha] at z
    have := List.length_pos_of_mem ha
    simp only [List.length_cons]
    omega
theorem InW.gi {n : Nat} {lev base : Int} {x : List Int} (h : InW n lev base x) {k : Int} (k0 : 0 ≤ k) (k1 : k < n) : base ≤ gi x k ∧ gi x k < base + lev := h.2 _ (gi_mem k0 (by have := h.1; omega))
/-- an allowed move stays in the window -/
theorem InW.step {n : Nat} {lev base : Int} {cs : List Tri} {x : List Int} {m : Mv9} (h : InW n lev base x) (ok : ∀ c ∈ cs, ChOk n c) (e : alw9 cs x m = true) : InW n lev base (stp9 x m) ∧ 0 ≤ m.1 ∧ m.1 < n := by
  obtain ⟨⟨c0, hc0, e0⟩, hf⟩ := alw9_iff.mp e
  have f0 := hf c0 hc0 e0
  obtain ⟨⟨a1, a2⟩, ⟨a3, a4⟩, a5, a6, a7⟩ := ok c0 hc0
  have g1 := h.gi a1 a2
  have g2 := h.gi a3 a4
  obtain ⟨s, up⟩ := m
  unfold sl9 at e0
  dsimp only at e0
  have rg : 0 ≤ s ∧ s < n := by
    cases up
    · rw [if_neg (by decide)] at e0; omega
    · rw [if_pos rfl] at e0; omega
  refine ⟨⟨by rw [stp9_len]; exact h.1, fun y hy => ?_⟩, rg⟩
  unfold stp9 at hy
  rcases List.mem_or_eq_of_mem_set hy with z | z
  · exact h.2 y z
  · rw [z]
    dsimp only
    cases up
    · rw [if_neg (by decide)] at e0 ⊢
      rw [← e0]; omega
    · rw [if_pos rfl] at e0 ⊢
      rw [← e0]; omega
theorem Rn.inW {n : Nat} {lev base : Int} {cs : List Tri} {a b : List Int} {k : Nat} (ha : InW n lev base a) (ok : ∀ c ∈ cs, ChOk n c) (r : Rn cs a k b) : InW n lev base b := by
  induction r with
  | nil _ => exact ha
  | snoc _ e _ ih => exact (ih.step ok e).1
theorem InW.dist {n : Nat} {lev : Nat} {base : Int} {a b : List Int} (ha : InW n lev base a) (hb : InW n lev base b) : ∀ k : Nat, k ≤ n → distM a b k ≤ (k : Int) * ((lev : Int) - 1)
  | 0, _ => by rw [distM_zero]; simp
  | k + 1, h => by
    have z := InW.dist ha hb k (by omega)
    have g1 := ha.gi (k := (k : Int)) (by omega) (by omega)
    have g2 := hb.gi (k := (k : Int)) (by omega) (by omega)
    rw [distM_succ]
    rw [show (((k + 1 : Nat) : Int)) * ((lev : Int) - 1) = (k : Int) * ((lev : Int) - 1) + ((lev : Int) - 1) by rw [show ((k + 1 : Nat) : Int) = (k : Int) + 1 from rfl, Int.add_mul, Int.one_mul]]
    split <;> omega
/-- what a search tells of a start, its ways no longer than N -/
structure FarOk (N : Nat) (cs : List Tri) (a : List Int) (far : List Int → Option Int) : Prop where
  val : ∀ x d, far x = some d → ∃ k : Nat, d = k ∧ k ≤ N ∧ Least cs a k x
  all : ∀ x k, k ≤ N → Rn cs a k x → far x ≠ none
/-- it tells the distance -/
theorem FarOk.due {N n lev : Nat} {base : Int} {cs c2 : List Tri} {a b : List Int} {far : List Int → Option Int} {U : List Obj_} (F : FarOk N cs a far) (hm : ∀ c, c ∈ cs ↔ c ∈ c2) (ok : ∀ c ∈ cs, ChOk n c) (ac : Acyc cs) (n1 : 1 ≤ n) (ha : InW n lev base a) (hb : InW n lev base b) (sa : StOk n a) (hN : (n : Int) * ((lev : Int) - 1) ≤ N) (hU : AllOb c2 a b n false U) :
    (U = [] → far b = some (distM a b n)) ∧ (U ≠ [] → far b = none) := by
  have ok2 : ∀ c ∈ c2, ChOk n c := fun c hc => ok c ((hm c).mpr hc)
  constructor
  · intro e
    obtain ⟨r, hr⟩ := ac
    have nb := (noOb_iff hU).mp e
    have nn := distM_nn a b n
    have dl := ha.dist hb n (Nat.le_refl _)
    obtain ⟨d, hd⟩ : ∃ d : Nat, distM a b n = d := ⟨(distM a b n).toNat, by omega⟩
    have run : Rn c2 a d b := run_to (S := fun _ => True) (r := fun x => ((r x : Nat) : Int)) ok2 (fun c hc => by have := hr c ((hm c).mpr hc); show ((r c.1 : Nat) : Int) < ((r c.2.1 : Nat) : Int); omega) hb.1 d a ha.1 hd nb (fun _ _ => trivial)
    have run1 := run.mem (fun c => (hm c).symm)
    have z := F.all b d (by omega) run1
    cases hf : far b with
    | none => exact absurd hf z
    | some v =>
      obtain ⟨k, rfl, hk, l1, l2⟩ := F.val b v hf
      obtain ⟨ms, e1, e2⟩ := l1.runR
      have := (e2.dist ok sa).1
      have k1 : ¬ d < k := fun q => l2 d q run1
      rw [e1] at this
      exact congrArg some (by omega)
  · intro e
    cases hf : far b with
    | none => rfl
    | some v =>
      obtain ⟨k, rfl, hk, l1, l2⟩ := F.val b v hf
      obtain ⟨ms, e1, e2⟩ := l1.runR
      have L := (e2.mem hm).lat ok2 sa
      exact absurd (L.nil ok2 sa n1 hU) e
/-- a search's turn t: what is known at its begin -/
structure Bfs0 (cs : List Tri) (a : List Int) (t : Nat) (far : List Int → Option Int) (line : List (List Int)) : Prop where
  val : ∀ x d, far x = some d → ∃ k : Nat, d = k ∧ k ≤ t ∧ Least cs a k x
  all : ∀ x k, k ≤ t → Rn cs a k x → far x ≠ none
  line : ∀ x, x ∈ line ↔ far x = some (t : Int)
/-- and amid it, with ahead filled and the points in ys gone through -/
structure Bfs1 (cs : List Tri) (a : List Int) (t : Nat) (far : List Int → Option Int) (line ahead ys : List (List Int)) : Prop where
  val : ∀ x d, far x = some d → ∃ k : Nat, d = k ∧ k ≤ t + 1 ∧ Least cs a k x
  all : ∀ x k, k ≤ t → Rn cs a k x → far x ≠ none
  line : ∀ x, x ∈ line ↔ far x = some (t : Int)
  ahd : ∀ x, x ∈ ahead ↔ far x = some ((t : Int) + 1)
  nd : List.Nodup ahead
  done : ∀ y ∈ ys, ∀ m, alw9 cs y m = true → far (stp9 y m) ≠ none
def put1 (far : List Int → Option Int) (y : List Int) (d : Int) : List Int → Option Int := fun x => if x = y then some d else far x
theorem Bfs0.base (cs : List Tri) (a : List Int) : Bfs0 cs a 0 (put1 (fun _ => none) a 0) [a] := by
  unfold put1
  refine ⟨fun x d h => ?_, fun x k hk r => ?_, fun x => ?_⟩
  · split at h
    · rename_i e
      refine ⟨0, (Option.some.inj h).symm, Nat.le_refl _, ?_, fun j hj => absurd hj (Nat.not_lt_zero j)⟩
      rw [e]
      exact .nil trivial
    · cases h
  · obtain rfl : k = 0 := by omega
    cases r
    rw [if_pos rfl]
    simp
  · rw [List.mem_singleton]
    constructor
    · intro e
      rw [if_pos e]; rfl
    · intro h
      split at h
      · rename_i e; exact e
      · cases h
theorem Bfs0.start {cs : List Tri} {a : List Int} {t : Nat} {far : List Int → Option Int} {line : List (List Int)} (h : Bfs0 cs a t far line) : Bfs1 cs a t far line [] [] := by
  refine ⟨fun x d e => ?_, h.all, h.line, fun x => ⟨fun z => (by cases z), fun z => ?_⟩, List.nodup_nil, fun y hy => by cases hy⟩
  · obtain ⟨k, e1, e2, e3⟩ := h.val x d e
    exact ⟨k, e1, by omega, e3⟩
  · obtain ⟨k, e1, e2, e3⟩ := h.val x _ z
    omega
theorem Bfs1.put {cs : List Tri} {a : List Int} {t : Nat} {far : List Int → Option Int} {line ahead ys : List (List Int)} (h : Bfs1 cs a t far line ahead ys) {y : List Int} {m : Mv9} (hy : y ∈ line) (e : alw9 cs y m = true) (hn : far (stp9 y m) = none) :
    Bfs1 cs a t (put1 far (stp9 y m) ((t : Int) + 1)) line (ahead ++ [stp9 y m]) ys := by
  have ne : ∀ {x d}, far x = some d → x ≠ stp9 y m := fun {x d} h1 e => by rw [e, hn] at h1; cases h1
  have keep : ∀ {x}, x ≠ stp9 y m → put1 far (stp9 y m) ((t : Int) + 1) x = far x := fun {x} q => if_neg q
  refine ⟨fun x d h1 => ?_, fun x k hk r => ?_, fun x => ?_, fun x => ?_, ?_, fun z hz m2 e2 => ?_⟩
  · by_cases q : x = stp9 y m
    · rw [q] at h1 ⊢
      unfold put1 at h1
      rw [if_pos rfl] at h1
      obtain ⟨k, k1, k2, k3⟩ := h.val y _ ((h.line y).mp hy)
      obtain rfl : k = t := by omega
      refine ⟨k + 1, (Option.some.inj h1).symm, Nat.le_refl _, .snoc k3.1 e trivial, fun j hj r => h.all _ j (by omega) r hn⟩
    · rw [keep q] at h1
      exact h.val x d h1
  · by_cases q : x = stp9 y m
    · rw [q]; unfold put1; rw [if_pos rfl]; simp
    · rw [keep q]; exact h.all x k hk r
  · by_cases q : x = stp9 y m
    · rw [h.line, q, hn]
      unfold put1
      rw [if_pos rfl]
      constructor
      · intro z; cases z
      · intro z
        have := Option.some.inj z
        omega
    · rw [keep q]; exact h.line x
  · rw [List.mem_append, List.mem_singleton, h.ahd]
    by_cases q : x = stp9 y m
    · rw [q]
      unfold put1
      rw [if_pos rfl]
      exact ⟨fun _ => rfl, fun _ => .inr rfl⟩
    · rw [keep q]
      exact ⟨fun z => z.resolve_right q, .inl⟩
  · rw [List.nodup_append]
    refine ⟨h.nd, by simp, fun x hx z hz q => ?_⟩
    rw [List.mem_singleton.mp hz] at q
    have := (h.ahd x).mp hx
    rw [q, hn] at this
    cases this
  · by_cases q : stp9 z m2 = stp9 y m
    · rw [q]; unfold put1; rw [if_pos rfl]; simp
    · rw [keep q]; exact h.done z hz m2 e2
theorem Bfs1.next {cs : List Tri} {a : List Int} {t : Nat} {far : List Int → Option Int} {line ahead ys : List (List Int)} (h : Bfs1 cs a t far line ahead ys) {y : List Int} (hd : ∀ m, alw9 cs y m = true → far (stp9 y m) ≠ none) : Bfs1 cs a t far line ahead (ys ++ [y]) :=
  ⟨h.val, h.all, h.line, h.ahd, h.nd, fun z hz => by
    rcases List.mem_append.mp hz with q | q
    · exact h.done z q
    · rw [List.mem_singleton.mp q]; exact hd⟩
theorem Bfs1.over {cs : List Tri} {a : List Int} {t : Nat} {far : List Int → Option Int} {line ahead : List (List Int)} (h : Bfs1 cs a t far line ahead line) : Bfs0 cs a (t + 1) far ahead := by
  refine ⟨h.val, fun x k hk r => ?_, fun x => by rw [h.ahd]; rfl⟩
  by_cases q : k ≤ t
  · exact h.all x k q r
  · obtain rfl : k = t + 1 := by omega
    cases r with
    | @snoc _ y m r1 e _ =>
      cases hf : far y with
      | none => exact absurd hf (h.all y t (Nat.le_refl _) r1)
      | some d =>
        obtain ⟨j, e1, e2, e3⟩ := h.val y d hf
        have jt : j ≤ t := Nat.not_lt.mp fun q => e3.2 t q r1
        by_cases q : j = t
        · subst q
          exact h.done y ((h.line y).mpr (by rw [hf, e1])) m e
        · exact h.all _ (j + 1) (by omega) (.snoc e3.1 e trivial)
theorem Bfs0.far {cs : List Tri} {a : List Int} {t : Nat} {far : List Int → Option Int} {line : List (List Int)} (h : Bfs0 cs a t far line) : FarOk t cs a far := ⟨h.val, h.all⟩
end WC

set_option maxHeartbeats 8000000
namespace WC
open PySem PySem.Spec PyProof.Rows L2
def spStates9 : Sp := fun vs H Q _ => ∃ (n lev : Nat) (base : Int), vs = [.int n, .int lev, .int base] ∧ n ≤ 5 ∧ lev ≤ 12 ∧ lev ^ n ≤ 256 ∧ 1 ≤ lev ∧ ∀ (Z : Addr) ks H2, Same H H2 → H Z = none → H2 Z = some (.lst ks) → Paired (TA fS H2) (winM lev base n) ks → Q (.ref Z) H2
/-- the states behind one -/
def rowM (lev : Nat) (base : Int) (p : List Int) : List (List Int) := (List.range lev).map fun (l : Nat) => p ++ [base + (l : Int)]
theorem winM_succ (lev : Nat) (base : Int) (n : Nat) : winM lev base (n + 1) = (winM lev base n).flatMap (rowM lev base) := rfl
theorem pw_le {lev n i : Nat} (h1 : 1 ≤ lev) (h : lev ^ n ≤ 256) (hi : i ≤ n) : lev ^ i ≤ 256 := Nat.le_trans (Nat.pow_le_pow_right h1 hi) h
section
variable {P : Program} {w : World} {K : PySem.W.Frag} {mg : Str → Option Value} {base : Heap}
theorem ok_states9 {f : Addr} {fd : FuncData} (F : Fun K "_law_states" "_law_states" s_law_states f fd) (B : Blt mg) : FnOk P w K mg base (L2.CX P w) 1 f fd ["_law_stages", "_law_levels", "_law_base"] spStates9 := by
  refine F.okX sc_law_states (fun vs H Q E h => ?_) (fun cdv A outer s H vs Q E hr h => ?_)
  · obtain ⟨n, lev, b, rfl, _⟩ := h
    rfl
  · obtain ⟨n, lev, b, rfl, n5, l12, lp, l1, q⟩ := h
    -- slots: 0 _law_stages, 1 _law_levels, 2 _law_base, 3 _law_found, 4 _law_stage, 5 _law_longer, 6 _law_point, 7 _law_level
    refine ⟨_, (pss_cons (ps_set (i := 3) sc_law_states.nd rfl (Or.inl rfl) (pe_lst (pa_cons (pe_tup pa_nil) pa_nil)))
      (pss_cons (ps_for (passes_of rfl) rfl (pi_range1 (by rfl) B.range (pa_cons (pv 0) pa_nil)) (pg_name (i := 4) sc_law_states.nd rfl (Or.inl rfl))
        (pss_cons (ps_set (i := 5) sc_law_states.nd rfl (Or.inl rfl) (pe_lst pa_nil))
      (pss_cons (ps_for (passes_of rfl) rfl (pi_list (pv 3)) (pg_name (i := 6) sc_law_states.nd rfl (Or.inl rfl))
        (pss_one (ps_for (passes_of rfl) rfl (pi_range1 (by rfl) B.range (pa_cons (pv 1) pa_nil)) (pg_name (i := 7) sc_law_states.nd rfl (Or.inl rfl))
        (pss_one (ps_expr (pe_bm PySem.F.plainAttrs_list PySem.F.slot_list_append PySem.F.type_list_append mt_append (pv 5) (pa_cons (pe_op op_catA (pv 6) (pe_tup (pa_cons (pe_op op_add (pv 2) (pv 7)) pa_nil))) pa_nil)))))))
      (pss_one (ps_set (i := 3) sc_law_states.nd rfl (Or.inl rfl) (pv 5))))))
      (pss_one (ps_ret (pv 3))))), ?_⟩
    refine ⟨by show 0 ≤ sizeLine; decide, fun T nT => ⟨by show 1 ≤ sizeLine; decide, fun Z0 nZ0 => ?_⟩⟩
    have TZ : T ≠ Z0 := fun e => by rw [e, upd_same] at nZ0; cases nZ0
    have fz : H Z0 = none := by rw [upd_ne (Ne.symm TZ)] at nZ0; exact nZ0
    refine ⟨_, rfl, (n : Int), rfl, by omega, by omega, for_it walk_range (fun i σ H5 => ∃ Zf ks v4 v5 v6 v7, σ = [some (.int n), some (.int lev), some (.int b), some (.ref Zf), v4, v5, v6, v7] ∧ Same H H5 ∧ H Zf = none ∧ H5 Zf = some (.lst ks) ∧ Paired (TA fS H5) (winM lev b i) ks) ⟨Z0, _, _, _, _, _, rfl, (Same.new nT).trans (Same.new nZ0), fz, upd_same, .cons ⟨T, rfl, by rw [upd_ne TZ, upd_same]; rfl⟩ .nil⟩ (fun _ _ _ _ _ => trivial) ?_ ?_⟩
    · rintro i x σ H4 H5 hil ⟨Zf, ks, v4, v5, v6, v7, rfl, s5, nZf, hZf, pk⟩ ⟨rfl, e1⟩
      have hi : i < n := hil
      have lk := pk.length
      rw [winM_len] at lk
      have l256 := pw_le l1 lp (i := i) (by omega)
      refine ⟨by show 0 ≤ sizeLine; decide, fun D nD => ?_⟩
      have nDH : H D = none := s5.free nD
      obtain ⟨H6, e6⟩ : ∃ H6, H6 = upd H5 D (.lst []) := ⟨_, rfl⟩
      have s6 : Same H5 H6 := by rw [e6]; exact Same.new nD
      have hD6 : H6 D = some (.lst []) := by rw [e6, upd_same]
      rw [← e6]
      have ZD : Zf ≠ D := ne_of_none hZf nD
      dsimp only [gName]
      refine ⟨_, rfl, Zf, rfl, ⟨_, SqL.of (s6 _ _ hZf)⟩, for_it (walk_list (xs := ks)) (fun j σ H7 => ∃ kd v6 v7, σ = [some (.int n), some (.int lev), some (.int b), some (.ref Zf), some x, some (.ref D), v6, v7] ∧ Same H5 H7 ∧ H7 D = some (.lst kd) ∧ Paired (TA fS H7) (((winM lev b i).take j).flatMap (rowM lev b)) kd) ⟨[], _, _, rfl, s6, hD6, .nil⟩ (fun j σ H7 _ z => ?_) ?_ ?_⟩
      · obtain ⟨_, _, _, _, z, _⟩ := z
        exact SqL.of (z _ _ hZf)
      · rintro j y σ H7 H8 hj ⟨kd, w6, w7, rfl, s7, hD7, pd⟩ ⟨rfl, e2⟩
        obtain ⟨p, qp, T1, rfl, hT1⟩ := pr_at pk e2
        have lj := (List.getElem?_eq_some_iff.mp qp).1
        have lpn : p.length = i := (winM_mem.mp (List.mem_of_getElem? qp)).1
        have ld := pd.length
        dsimp only [gName]
        refine ⟨_, rfl, (lev : Int), rfl, by omega, by omega, for_it walk_range (fun l σ H9 => ∃ kd v7, σ = [some (.int n), some (.int lev), some (.int b), some (.ref Zf), some x, some (.ref D), some (.ref T1), v7] ∧ Same H5 H9 ∧ H9 D = some (.lst kd) ∧ Paired (TA fS H9) (((winM lev b i).take j).flatMap (rowM lev b) ++ (rowM lev b p).take l) kd) ⟨kd, _, rfl, s7, hD7, by rw [List.take_zero, List.append_nil]; exact pd⟩ (fun _ _ _ _ _ => trivial) ?_ ?_⟩
        · rintro l z σ H10 H9 hll ⟨kd, w7, rfl, s9, hD9, pd9⟩ ⟨rfl, e3⟩
          have hl : l < lev := hll
          have z0 : (0 : Int) + (l : Nat) = (l : Nat) := by omega
          have e3 : z = .int ((l : Nat) : Int) := by
            rw [← z0]
            exact e3
          subst e3
          have lrow : (rowM lev b p)[l]? = some (p ++ [b + (l : Int)]) := by
            unfold rowM
            rw [List.getElem?_map, List.getElem?_range hl]
            rfl
          have hT9 : H9 T1 = some (.tup (fS p)) := s9 _ _ hT1
          have lkd := pd9.length
          have bound : kd.length ≤ 256 * 12 + 12 := by
            have f : ∀ ls : List (List Int), (ls.flatMap (rowM lev b)).length = ls.length * lev := fun ls => by
              induction ls with
              | nil => simp
              | cons p ps ih => rw [List.flatMap_cons, List.length_append, ih]; unfold rowM; rw [List.length_map, List.length_range, List.length_cons, Nat.succ_mul, Nat.add_comm]
            rw [← lkd, List.length_append, f, List.length_take, List.length_take]
            have q1 : min j (winM lev b i).length ≤ 256 := by rw [winM_len]; omega
            have q2 : (rowM lev b p).length = lev := by unfold rowM; rw [List.length_map, List.length_range]
            have q3 := Nat.mul_le_mul q1 l12
            omega
          refine ⟨_, rfl, .inl ⟨rfl, _, SqL.of hD9⟩, ?_⟩
          refine ⟨_, rfl, _, rfl, _, rfl, _, _, rfl, rfl, by show 1 ≤ sizeLine; decide, fun T2 nT2 => ?_⟩
          have s10 := Same.new (o := .tup [V.int (b + (l : Int))]) nT2
          refine catA_use (s10 _ _ hT9) upd_same (by unfold fS; rw [List.length_map]; show _ + 1 ≤ _; omega) rfl fun T3 H11 s11 hT3 => ?_
          have s911 := s10.trans s11
          refine ⟨D, _, _, rfl, rfl, s911 _ _ hD9, line_lt (by omega), ?_⟩
          refine ⟨_, _, rfl, Same.newer (s9.trans s911) nD, upd_same, ?_⟩
          rw [take_snoc lrow, ← List.append_assoc]
          refine pr_snoc (ta_onB (ta_same pd9 s911) (SameB.refl D H11).upd ⟨_, s911 _ _ hD9⟩) ⟨T3, rfl, ?_⟩
          rw [upd_ne (ne_of hT3 (s911 _ _ hD9) (by intro z; cases z)), hT3]
          unfold fS
          rw [List.map_append]
          rfl
        · rintro σ H9 ⟨kd, w7, rfl, s9, hD9, pd9⟩
          refine ⟨kd, _, _, rfl, s9, hD9, ?_⟩
          rw [take_snoc qp, List.flatMap_append, List.flatMap_singleton]
          have pd9 : Paired (TA fS H9) (((winM lev b i).take j).flatMap (rowM lev b) ++ (rowM lev b p).take (lev : Int).toNat) kd := pd9
          rw [show List.take (lev : Int).toNat (rowM lev b p) = rowM lev b p from List.take_of_length_le (by unfold rowM; rw [List.length_map, List.length_range]; omega)] at pd9
          exact pd9
      · rintro σ H7 ⟨kd, w6, w7, rfl, s7, hD7, pd⟩
        refine ⟨_, rfl, D, kd, _, _, _, _, rfl, s5.trans s7, nDH, hD7, ?_⟩
        rw [winM_succ]
        rw [List.take_of_length_le (by rw [pk.length]; exact Nat.le_refl _)] at pd
        exact pd
    · rintro σ H5 ⟨Zf, ks, v4, v5, v6, v7, rfl, s5, nZf, hZf, pk⟩
      exact ⟨_, rfl, q Zf ks H5 s5 nZf hZf pk⟩
end
end WC

set_option maxHeartbeats 8000000
namespace WC
open PySem PySem.Spec PyProof.Rows L2
/-! the dict of the states that lie one move behind each state -/
def keyS (x : List Int) : List Key := x.map Sum.inl
theorem keyS_inj {x y : List Int} : keyS x = keyS y ↔ x = y := by
  unfold keyS
  constructor
  · intro h
    exact (List.map_inj_right (fun a b e => Sum.inl.inj e)).mp h
  · exact congrArg _
theorem keyS_V (x : List Int) : (keyS x).map kV = fS x := by
  unfold keyS fS
  rw [List.map_map]
  rfl
def ents (ks : List (List Int)) (g : List Int → V) : List (List Key × V) := ks.map fun x => (keyS x, g x)
theorem ents_val (g : List Int → V) (x : List Int) : ∀ ks : List (List Int), valV (ents ks g) (keyS x) = if x ∈ ks then some (g x) else none
  | [] => by rw [if_neg (by simp)]; rfl
  | k :: ks => by
    unfold ents
    rw [List.map_cons]
    by_cases e : k = x
    · rw [valV_pos (p := (keyS k, g k)) (keyS_inj.mpr e), e, if_pos List.mem_cons_self]
    · rw [valV_neg (p := (keyS k, g k)) (fun z => e (keyS_inj.mp z))]
      have ih := ents_val g x ks
      unfold ents at ih
      rw [ih]
      by_cases h : x ∈ ks
      · rw [if_pos h, if_pos (List.mem_cons_of_mem _ h)]
      · rw [if_neg h, if_neg (fun z => by
          rcases List.mem_cons.mp z with z | z
          · exact e z.symm
          · exact h z)]
theorem ents_congr {ks : List (List Int)} {g g2 : List Int → V} (h : ∀ x ∈ ks, g x = g2 x) : ents ks g = ents ks g2 := List.map_congr_left fun x hx => by rw [h x hx]
theorem ents_put {ks : List (List Int)} {g : List Int → V} {x : List Int} {v : V} (h : x ∉ ks) : putK (ents ks g) (keyS x) v = ents (ks ++ [x]) (fun y => if y = x then v else g y) := by
  rw [putK_new v (by rw [ents_val, if_neg h])]
  unfold ents
  rw [List.map_append]
  congr 1
  · refine List.map_congr_left fun y hy => ?_
    show (keyS y, g y) = (keyS y, if y = x then v else g y)
    rw [if_neg (fun e : y = x => h (e ▸ hy))]
  · show [(keyS x, v)] = [(keyS x, if x = x then v else g x)]
    rw [if_pos rfl]
/-- the states one move behind x -/
def nextM (n : Nat) (cs : List Tri) (x : List Int) : List (List Int) := ((movesM n).filter (alw9 cs x)).map (stp9 x)
theorem nextM_mem {n : Nat} {cs : List Tri} {x y : List Int} (ok : ∀ c ∈ cs, ChOk n c) : y ∈ nextM n cs x ↔ ∃ m, alw9 cs x m = true ∧ y = stp9 x m := by
  unfold nextM
  rw [List.mem_map]
  constructor
  · rintro ⟨m, hm, rfl⟩
    exact ⟨m, (List.mem_filter.mp hm).2, rfl⟩
  · rintro ⟨m, e, rfl⟩
    refine ⟨m, List.mem_filter.mpr ⟨?_, e⟩, rfl⟩
    obtain ⟨⟨c0, hc0, e0⟩, _⟩ := alw9_iff.mp e
    obtain ⟨⟨a1, a2⟩, ⟨a3, a4⟩, _⟩ := ok c0 hc0
    obtain ⟨s, up⟩ := m
    unfold sl9 at e0
    dsimp only at e0
    have rg : 0 ≤ s ∧ s < n := by
      cases up
      · rw [if_neg (by decide)] at e0; omega
      · rw [if_pos rfl] at e0; omega
    obtain ⟨k, rfl⟩ : ∃ k : Nat, s = k := ⟨s.toNat, by omega⟩
    unfold movesM
    refine List.mem_flatMap.mpr ⟨k, List.mem_range.mpr (by omega), ?_⟩
    cases up <;> simp
def NextA (H : Hp) (n : Nat) (cs : List Tri) (x : List Int) (v : V) : Prop := ∃ l ks, v = .ref l ∧ H l = some (.lst ks) ∧ Paired (TA fS H) (nextM n cs x) ks
theorem NextA.same {H H2 : Hp} {n : Nat} {cs : List Tri} {x : List Int} {v : V} (h : NextA H n cs x v) (s : Same H H2) : NextA H2 n cs x v := by
  obtain ⟨l, ks, e, h1, h2⟩ := h
  exact ⟨l, ks, e, s _ _ h1, ta_same h2 s⟩
/-- the dict of roads -/
def Roads (H : Hp) (R : Addr) (n : Nat) (cs : List Tri) (xs : List (List Int)) : Prop := ∃ g : List Int → V, H R = some (.dT (ents xs g)) ∧ ∀ x ∈ xs, NextA H n cs x (g x)
theorem Roads.same {H H2 : Hp} {R : Addr} {n : Nat} {cs : List Tri} {xs : List (List Int)} (h : Roads H R n cs xs) (s : Same H H2) : Roads H2 R n cs xs := by
  obtain ⟨g, h1, h2⟩ := h
  exact ⟨g, s _ _ h1, fun x hx => (h2 x hx).same s⟩
theorem movesM_rng {n : Nat} {m : Mv9} (h : m ∈ movesM n) : 0 ≤ m.1 ∧ m.1 < n := by
  unfold movesM at h
  obtain ⟨k, hk, hm⟩ := List.mem_flatMap.mp h
  have hk := List.mem_range.mp hk
  simp only [List.mem_cons, List.not_mem_nil, or_false] at hm
  rcases hm with e | e <;> rw [e] <;> exact ⟨by show (0 : Int) ≤ k; omega, by show (k : Int) < n; omega⟩
def spRoads9 : Sp := fun vs H Q _ => ∃ (cl Z : Addr) (n : Nat) (cs : List Tri) (kc kz : List V) (xs : List (List Int)), vs = [.ref cl, .ref Z] ∧ n ≤ 5 ∧ H cl = some (.lst kc) ∧ Paired (TriA H) cs kc ∧ (∀ c ∈ cs, ChOk n c) ∧ cs.length ≤ 40 ∧ H Z = some (.lst kz) ∧ Paired (TA fS H) xs kz ∧ (∀ x ∈ xs, x.length = n) ∧ xs.Nodup ∧ xs.length ≤ 1000 ∧
  ∀ (R : Addr) H2, Same H H2 → H R = none → Roads H2 R n cs xs → Q (.ref R) H2
section
variable {P : Program} {w : World} {K : PySem.W.Frag} {mg : Str → Option Value} {base : Heap}
theorem ok_roads9 {f : Addr} {fd : FuncData} (F : Fun K "_law_roads" "_law_roads" s_law_roads f fd) (B : Blt mg) (g_law_moves : DefR P w K mg base "_law_moves" 1 spMoves9) (g_law_is_allowed : DefR P w K mg base "_law_is_allowed" 1 spAllow9) (g_law_after : DefR P w K mg base "_law_after" 1 spAfter9) : FnOk P w K mg base (L2.CX P w) 2 f fd ["_law_channels", "_law_states_here"] spRoads9 := by
  refine F.okX sc_law_roads (fun vs H Q E h => ?_) (fun cdv A outer s H vs Q E hr h => ?_)
  · obtain ⟨cl, Z, n, cs, kc, kz, xs, rfl, _⟩ := h
    rfl
  · obtain ⟨cl, Z, n, cs, kc, kz, xs, rfl, n5, hcl, pcl, ok, l40, hZ, pz, lx, nd, lz, q⟩ := h
    have hu := hu_of hr
    have lkz := pz.length
    -- slots: 0 _law_channels*, 1 _law_states_here, 2 _law_roads_here, 3 _law_point*, 4 _law_ready, 5 _law_move
    refine ⟨_, (pss_cons (ps_set (i := 2) sc_law_roads.nd rfl (Or.inl rfl) pe_dnewT)
      (pss_cons (ps_for (passes_of rfl) rfl (pi_list (pv 1)) (pg_name (i := 3) sc_law_roads.nd rfl (Or.inr rfl))
        (pss_cons (ps_setLc (i := 4) (own := [("_law_move", 5)]) rfl sc_law_roads.nd rfl rfl (sw_true rfl rfl rfl (by decide +kernel)) (pi_list (pe_cd g_law_moves hr psE (pa_cons (pe_callB call_len_seq (by rfl) B.len bt_len (pa_cons (pv 3) pa_nil)) pa_nil))) (blkOk_by (N := nn_law_roads) (sc := defScope s_law_roads) (own := [("_law_move", 5)]) (by decide +kernel)) (fun _ _ _ _ _ => (pg_name (i := 5) sc_law_roads.nd rfl (Or.inl rfl))) (fun _ _ _ _ _ => (pts_one (pt_val (pe_cd g_law_is_allowed (by exact hr) passL (pa_cons (pv 0) (pa_cons (pv 3) (pa_cons (pv 5) pa_nil))))))) (fun _ _ _ _ _ => (pv 5)))
      (pss_one (ps_dput hu (pv 2) (pv 3) (pe_lc (own := [("_law_move", 5)]) rfl sc_law_roads.nd (pi_list (pv 4)) (blkOk_by (N := nn_law_roads) (sc := defScope s_law_roads) (own := [("_law_move", 5)]) (by decide +kernel)) (fun _ _ _ _ _ => (pg_name (i := 5) sc_law_roads.nd rfl (Or.inl rfl))) (fun _ _ _ _ _ => pts_nil) (fun _ _ _ _ _ => (pe_cd g_law_after (by exact hr) passL (pa_cons (pv 3) (pa_cons (pv 5) pa_nil))))) rfl))))
      (pss_one (ps_ret (pv 2))))), ?_⟩
    intro R nR
    have s0 : Same H (upd H R (.dT [])) := Same.new nR
    refine ⟨_, rfl, Z, rfl, ⟨_, SqL.of (s0 _ _ hZ)⟩, for_it (walk_list (xs := kz)) (fun i σ H5 => ∃ v3 v4 v5, σ = [some (.ref cl), some (.ref Z), some (.ref R), v3, v4, v5] ∧ Same H H5 ∧ Roads H5 R n cs (xs.take i)) ⟨_, _, _, rfl, s0, fun _ => .non, upd_same, fun x hx => by cases hx⟩ (fun j σ H7 _ z => ?_) ?_ ?_⟩
    · obtain ⟨_, _, _, _, z, _⟩ := z
      exact SqL.of (z _ _ hZ)
    · rintro i x σ H6 H5 hi ⟨v3, v4, v5, rfl, s5, g, hR5, hg⟩ ⟨rfl, e1⟩
      obtain ⟨p, qp, T, rfl, hT⟩ := pr_at pz e1
      have li := (List.getElem?_eq_some_iff.mp qp).1
      have lp : p.length = n := lx p (List.mem_of_getElem? qp)
      have hT5 := s5 _ _ hT
      dsimp only [gName]
      refine ⟨_, rfl, T, _, rfl, .inr (SqT.of hT5), n, (by show [V.int ((fS p).length : Nat)] = _; unfold fS; rw [List.length_map, lp]), by omega, fun M km H7 s7 nM hM pm => ⟨M, rfl, ⟨_, SqL.of hM⟩, fun D nD => ?_⟩⟩
      have mvl := movesM_len n
      have lkm := pm.length
      refine lc_it (walk_list (xs := km)) (fun j H8 => Same H7 H8 ∧ ∃ js, H8 D = some (.lst js) ∧ Paired (MvA H8) (((movesM n).take j).filter (alw9 cs p)) js) ⟨Same.new nD, [], upd_same, .nil⟩ (fun j H8 _ z => SqL.of (z.1 _ _ hM)) ?_ ?_
      · rintro j y H9 H8 hj ⟨s8, js, hD8, pj⟩ ⟨rfl, e2⟩
        obtain ⟨m, qm, T2, rfl, hT2⟩ := pr_at pm e2
        have s58 : Same H5 H8 := s7.trans s8
        have lkk := pj.length
        have lf := List.length_filter_le (alw9 cs p) ((movesM n).take j)
        rw [List.length_take] at lf
        refine ⟨rfl, _, rfl, _, rfl, _, rfl, cl, T, T2, cs, kc, p, m, rfl, s58 _ _ (s5 _ _ hcl), Paired.mapP pcl (fun c v ⟨t, e, ht⟩ => ⟨t, e, s58 _ _ (s5 _ _ ht)⟩), l40, s58 _ _ hT5, fun c hc => ?_, ⟨T2, rfl, s8 _ _ hT2⟩, fun H10 s10 => ⟨_, rfl, ite2 (fun e => ?_) (fun e => ?_)⟩⟩
        · obtain ⟨⟨g1, g2⟩, ⟨g3, g4⟩, _⟩ := ok c hc
          omega
        · refine ⟨_, rfl, js, s10 _ _ hD8, line_lt (by omega), Same.newer (s8.trans s10) nD, _, upd_same, ?_⟩
          rw [take_snoc qm, List.filter_append, show [m].filter (alw9 cs p) = [m] from by rw [List.filter_cons, if_pos e]; rfl]
          exact pr_snoc (Paired.mapP pj fun c2 v2 ⟨t2, e1, e2⟩ => ⟨t2, e1, by rw [upd_ne (ne_of (s10 _ _ e2) (s10 _ _ hD8) (by intro z; cases z))]; exact s10 _ _ e2⟩) ⟨T2, rfl, by rw [upd_ne (ne_of (s10 _ _ (s8 _ _ hT2)) (s10 _ _ hD8) (by intro z; cases z))]; exact s10 _ _ (s8 _ _ hT2)⟩
        · refine ⟨s8.trans s10, js, s10 _ _ hD8, ?_⟩
          rw [take_snoc qm, List.filter_append, show [m].filter (alw9 cs p) = [] from by rw [List.filter_cons, if_neg e]; rfl, List.append_nil]
          exact Paired.mapP pj fun c2 v2 ⟨t2, e1, e2⟩ => ⟨t2, e1, s10 _ _ e2⟩
      rintro H8 ⟨s8, js, hD8, pj⟩
      rw [List.take_of_length_le (by rw [lkm]; exact Nat.le_refl _)] at pj
      have s58 : Same H5 H8 := s7.trans s8
      have lj := pj.length
      have lf := List.length_filter_le (alw9 cs p) (movesM n)
      refine ⟨_, rfl, D, rfl, ⟨_, SqL.of hD8⟩, fun D2 nD2 => lc_it (walk_list (xs := js)) (fun j H9 => Same H8 H9 ∧ ∃ ys, H9 D2 = some (.lst ys) ∧ Paired (TA fS H9) ((((movesM n).filter (alw9 cs p)).take j).map (stp9 p)) ys) ⟨Same.new nD2, [], upd_same, .nil⟩ (fun j H9 _ z => SqL.of (z.1 _ _ hD8)) ?_ ?_⟩
      · rintro j y H10 H9 hj ⟨s9, ys, hD9, py⟩ ⟨rfl, e2⟩
        obtain ⟨m, qm, T2, rfl, hT2⟩ := pr_at pj e2
        obtain ⟨m0, m1⟩ := movesM_rng (List.mem_filter.mp (List.mem_of_getElem? qm)).1
        have lyy := py.length
        rw [List.length_map, List.length_take] at lyy
        have s59 := s58.trans s9
        refine ⟨rfl, yes ⟨_, rfl, _, rfl, T, T2, p, m, rfl, s59 _ _ hT5, ⟨T2, rfl, s9 _ _ hT2⟩, m0, by omega, by omega, fun T3 H11 s11 hT3 => ⟨ys, s11 _ _ hD9, line_lt (by omega), Same.newer (s9.trans s11) nD2, _, upd_same, ?_⟩⟩⟩
        rw [take_snoc qm, List.map_append]
        exact pr_snoc (ta_onB (ta_same py s11) (SameB.refl D2 H11).upd ⟨_, s11 _ _ hD9⟩) ⟨T3, rfl, by rw [upd_ne (ne_of hT3 (s11 _ _ hD9) (by intro z; cases z))]; exact hT3⟩
      rintro H9 ⟨s9, ys, hD9, py⟩
      rw [List.take_of_length_le (by rw [lj]; exact Nat.le_refl _)] at py
      have s59 : Same H5 H9 := s58.trans s9
      have pn : p ∉ xs.take i := fun z => by
        obtain ⟨k, hk⟩ := List.mem_iff_getElem?.mp z
        have hk1 := (List.getElem?_eq_some_iff.mp hk).1
        rw [List.length_take] at hk1
        rw [List.getElem?_take_of_lt (by omega)] at hk
        have := (List.getElem?_inj (by omega) nd).mp (hk.trans qp.symm)
        omega
      have le : (ents (xs.take i) g).length ≤ 1000 := by unfold ents; rw [List.length_map, List.length_take]; omega
      refine ⟨_, rfl, _, rfl, R, _, rfl, DPut.t (k := keyS p) (s59 _ _ hR5) (by rw [keyS_V]; exact s59 _ _ hT5) (line_lt (by omega)), ?_⟩
      have RD : D2 ≠ R := ne_of hD9 (s59 _ _ hR5) (by intro z; cases z)
      refine ⟨_, _, _, rfl, Same.newer (s5.trans s59) nR, _, by rw [upd_same, ents_put pn, ← take_snoc qp], fun x hx => ?_⟩
      have nx : ∀ {v : V}, NextA H9 n cs x v → NextA (upd H9 R (.dT (putK (ents (xs.take i) g) (keyS p) (.ref D2)))) n cs x v := fun {v} ⟨l, ks, e, h1, h2⟩ => ⟨l, ks, e, by rw [upd_ne (ne_of h1 (s59 _ _ hR5) (by intro z; cases z))]; exact h1, Paired.mapP h2 fun c2 v2 ⟨t2, e1, e2⟩ => ⟨t2, e1, by rw [upd_ne (ne_of e2 (s59 _ _ hR5) (by intro z; cases z))]; exact e2⟩⟩
      rw [take_snoc qp] at hx
      by_cases e : x = p
      · rw [if_pos e]
        rw [e] at nx ⊢
        exact nx ⟨D2, ys, rfl, hD9, py⟩
      · rw [if_neg e]
        rcases List.mem_append.mp hx with z | z
        · exact nx ((hg x z).same s59)
        · exact absurd (List.mem_singleton.mp z) e
    · rintro σ H5 ⟨v3, v4, v5, rfl, s5, g, hR5, hg⟩
      rw [List.take_of_length_le (by rw [lkz]; exact Nat.le_refl _)] at hR5 hg
      exact ⟨_, rfl, q R H5 s5 nR ⟨g, hR5, hg⟩⟩
end
end WC

set_option maxHeartbeats 8000000
namespace WC
open PySem PySem.Spec PyProof.Rows L2
/-! the law's search, breadth first -/
def farV (far : List Int → Option Int) (x : List Int) : V := .int ((far x).getD 0)
def FarAt (H : Hp) (D : Addr) (far : List Int → Option Int) : Prop := ∃ ks : List (List Int), H D = some (.dT (ents ks (farV far))) ∧ (∀ x, x ∈ ks ↔ far x ≠ none) ∧ ks.Nodup
theorem FarAt.get {H : Hp} {D a : Addr} {far : List Int → Option Int} {x : List Int} (h : FarAt H D far) (ha : H a = some (.tup (fS x))) : DGet H D (.ref a) ((far x).map V.int) := by
  obtain ⟨ks, h1, h2, _⟩ := h
  have z := DGet.t (k := keyS x) h1 (by rw [keyS_V]; exact ha)
  rw [ents_val] at z
  cases e : far x with
  | none => rw [if_neg (fun q => (h2 x).mp q e)] at z; exact z
  | some d => rw [if_pos ((h2 x).mpr (by rw [e]; simp))] at z; unfold farV at z; rw [e] at z; exact z
theorem FarAt.put {H : Hp} {D a : Addr} {far : List Int → Option Int} {x : List Int} {d : Int} {N : Nat} (h : FarAt H D far) (ha : H a = some (.tup (fS x))) (hn : far x = none) (hb : ∀ ks : List (List Int), ks.Nodup → (∀ y ∈ ks, far y ≠ none) → ks.length ≤ 1000) :
    ∃ kvs, DPut H D (.ref a) (.int d) (upd H D (.dT kvs)) ∧ FarAt (upd H D (.dT kvs)) D (put1 far x d) := by
  obtain ⟨ks, h1, h2, h3⟩ := h
  have xn : x ∉ ks := fun z => (h2 x).mp z hn
  have le := hb ks h3 fun y hy => (h2 y).mp hy
  refine ⟨_, DPut.t (k := keyS x) h1 (by rw [keyS_V]; exact ha) (line_lt (by unfold ents; rw [List.length_map]; omega)), ks ++ [x], ?_, fun y => ?_, ?_⟩
  · rw [upd_same, ents_put xn]
    refine congrArg some (congrArg HO.dT (ents_congr fun y hy => ?_))
    unfold farV put1
    by_cases e : y = x
    · rw [if_pos e, if_pos e]; rfl
    · rw [if_neg e, if_neg e]
  · rw [List.mem_append, List.mem_singleton]
    unfold put1
    by_cases e : y = x
    · rw [if_pos e]
      exact ⟨fun _ => by simp, fun _ => .inr e⟩
    · rw [if_neg e, h2]
      exact ⟨fun z => z.resolve_right e, .inl⟩
  · rw [List.nodup_append]
    refine ⟨h3, by simp, fun y hy z hz e => ?_⟩
    rw [List.mem_singleton.mp hz] at e
    exact xn (e ▸ hy)
theorem FarAt.on {H H2 : Hp} {D : Addr} {far : List Int → Option Int} (h : FarAt H D far) (e : H2 D = H D) : FarAt H2 D far := by
  obtain ⟨ks, h1, h2⟩ := h
  exact ⟨ks, by rw [e]; exact h1, h2⟩
theorem same_off {H H5 H7 : Hp} {F : Addr} (s5 : Same H H5) (nF : H F = none) (s7 : SameB F H5 H7) : Same H H7 := fun c o e => s7 c o (s5 c o e) (ne_of_none e nF)
theorem ents_len (ks : List (List Int)) (g : List Int → V) : (ents ks g).length = ks.length := List.length_map ..
section
variable {P : Program} {w : World} {K : PySem.W.Frag} {mg : Str → Option Value} {base : Heap}
end
end WC

set_option maxHeartbeats 8000000
namespace WC
open PySem PySem.Spec PyProof.Rows L2
/-! a search, breadth first, along any roads -/
inductive Pth (nx : List Int → List (List Int)) (a : List Int) : Nat → List Int → Prop
  | nil : Pth nx a 0 a
  | snoc {k : Nat} {b c : List Int} : Pth nx a k b → c ∈ nx b → Pth nx a (k + 1) c
def LeastG (nx : List Int → List (List Int)) (a : List Int) (k : Nat) (b : List Int) : Prop := Pth nx a k b ∧ ∀ j, j < k → ¬ Pth nx a j b
structure FarG (N : Nat) (nx : List Int → List (List Int)) (a : List Int) (far : List Int → Option Int) : Prop where
  val : ∀ x d, far x = some d → ∃ k : Nat, d = k ∧ k ≤ N ∧ LeastG nx a k x
  all : ∀ x k, k ≤ N → Pth nx a k x → far x ≠ none
theorem Pth.inn {nx : List Int → List (List Int)} {a b : List Int} {k : Nat} {xs : List (List Int)} (ha : a ∈ xs) (cl : ∀ x ∈ xs, ∀ y ∈ nx x, y ∈ xs) (r : Pth nx a k b) : b ∈ xs := by
  induction r with
  | nil => exact ha
  | snoc _ e ih => exact cl _ ih _ e
theorem Pth.cons {nx : List Int → List (List Int)} {a b c : List Int} {k : Nat} (e : b ∈ nx a) (r : Pth nx b k c) : Pth nx a (k + 1) c := by
  induction r with
  | nil => exact .snoc .nil e
  | snoc _ e2 ih => exact .snoc ih e2
/-- from the other end -/
theorem Pth.rev {nx bk : List Int → List (List Int)} {a b : List Int} {k : Nat} {xs : List (List Int)} (ha : a ∈ xs) (cl : ∀ x ∈ xs, ∀ y ∈ nx x, y ∈ xs) (h : ∀ x ∈ xs, ∀ y ∈ xs, y ∈ nx x → x ∈ bk y) (r : Pth nx a k b) : Pth bk b k a := by
  induction r with
  | nil => exact .nil
  | @snoc k b c r e ih =>
    have hb := r.inn ha cl
    exact .cons (h b hb c (cl b hb c e) e) ih
theorem FarG.least {N : Nat} {nx : List Int → List (List Int)} {a : List Int} {far : List Int → Option Int} (F : FarG N nx a far) {x : List Int} {k : Nat} (h : LeastG nx a k x) (hk : k ≤ N) : far x = some (k : Int) := by
  cases hf : far x with
  | none => exact absurd hf (F.all x k hk h.1)
  | some d =>
    obtain ⟨j, rfl, _, h1, h2⟩ := F.val x d hf
    have e1 : ¬ j < k := fun z => h.2 j z h1
    have e2 : ¬ k < j := fun z => h2 k z h.1
    rw [show j = k by omega]
theorem pth_rn {n : Nat} {cs : List Tri} {a b : List Int} {k : Nat} (ok : ∀ c ∈ cs, ChOk n c) : Pth (nextM n cs) a k b ↔ Rn cs a k b := by
  constructor
  · intro r
    induction r with
    | nil => exact .nil trivial
    | snoc _ e ih =>
      obtain ⟨m, e1, rfl⟩ := (nextM_mem ok).mp e
      exact .snoc ih e1 trivial
  · intro r
    induction r with
    | nil => exact .nil
    | snoc _ e _ ih => exact .snoc ih ((nextM_mem ok).mpr ⟨_, e, rfl⟩)
/-- a search's turn t: what is known at its begin -/
structure BfsG0 (nx : List Int → List (List Int)) (a : List Int) (t : Nat) (far : List Int → Option Int) (line : List (List Int)) : Prop where
  val : ∀ x d, far x = some d → ∃ k : Nat, d = k ∧ k ≤ t ∧ LeastG nx a k x
  all : ∀ x k, k ≤ t → Pth nx a k x → far x ≠ none
  line : ∀ x, x ∈ line ↔ far x = some (t : Int)
/-- and amid it, with ahead filled and the points in ys gone through -/
structure BfsG1 (nx : List Int → List (List Int)) (a : List Int) (t : Nat) (far : List Int → Option Int) (line ahead ys : List (List Int)) : Prop where
  val : ∀ x d, far x = some d → ∃ k : Nat, d = k ∧ k ≤ t + 1 ∧ LeastG nx a k x
  all : ∀ x k, k ≤ t → Pth nx a k x → far x ≠ none
  line : ∀ x, x ∈ line ↔ far x = some (t : Int)
  ahd : ∀ x, x ∈ ahead ↔ far x = some ((t : Int) + 1)
  nd : List.Nodup ahead
  done : ∀ y ∈ ys, ∀ c ∈ nx y, far c ≠ none
theorem BfsG0.base (nx : List Int → List (List Int)) (a : List Int) : BfsG0 nx a 0 (put1 (fun _ => none) a 0) [a] := by
  unfold put1
  refine ⟨fun x d h => ?_, fun x k hk r => ?_, fun x => ?_⟩
  · split at h
    · rename_i e
      refine ⟨0, (Option.some.inj h).symm, Nat.le_refl _, ?_, fun j hj => absurd hj (Nat.not_lt_zero j)⟩
      rw [e]
      exact .nil
    · cases h
  · obtain rfl : k = 0 := by omega
    cases r
    rw [if_pos rfl]
    simp
  · rw [List.mem_singleton]
    constructor
    · intro e
      rw [if_pos e]; rfl
    · intro h
      split at h
      · rename_i e; exact e
      · cases h
theorem BfsG0.start {nx : List Int → List (List Int)} {a : List Int} {t : Nat} {far : List Int → Option Int} {line : List (List Int)} (h : BfsG0 nx a t far line) : BfsG1 nx a t far line [] [] := by
  refine ⟨fun x d e => ?_, h.all, h.line, fun x => ⟨fun z => (by cases z), fun z => ?_⟩, List.nodup_nil, fun y hy => by cases hy⟩
  · obtain ⟨k, e1, e2, e3⟩ := h.val x d e
    exact ⟨k, e1, by omega, e3⟩
  · obtain ⟨k, e1, e2, e3⟩ := h.val x _ z
    omega
theorem BfsG1.put {nx : List Int → List (List Int)} {a : List Int} {t : Nat} {far : List Int → Option Int} {line ahead ys : List (List Int)} (h : BfsG1 nx a t far line ahead ys) {y c : List Int} (hy : y ∈ line) (e : c ∈ nx y) (hn : far c = none) :
    BfsG1 nx a t (put1 far c ((t : Int) + 1)) line (ahead ++ [c]) ys := by
  have ne : ∀ {x d}, far x = some d → x ≠ c := fun {x d} h1 e => by rw [e, hn] at h1; cases h1
  have keep : ∀ {x}, x ≠ c → put1 far c ((t : Int) + 1) x = far x := fun {x} q => if_neg q
  refine ⟨fun x d h1 => ?_, fun x k hk r => ?_, fun x => ?_, fun x => ?_, ?_, fun z hz m2 e2 => ?_⟩
  · by_cases q : x = c
    · rw [q] at h1 ⊢
      unfold put1 at h1
      rw [if_pos rfl] at h1
      obtain ⟨k, k1, k2, k3⟩ := h.val y _ ((h.line y).mp hy)
      obtain rfl : k = t := by omega
      refine ⟨k + 1, (Option.some.inj h1).symm, Nat.le_refl _, .snoc k3.1 e, fun j hj r => h.all _ j (by omega) r hn⟩
    · rw [keep q] at h1
      exact h.val x d h1
  · by_cases q : x = c
    · rw [q]; unfold put1; rw [if_pos rfl]; simp
    · rw [keep q]; exact h.all x k hk r
  · by_cases q : x = c
    · rw [h.line, q, hn]
      unfold put1
      rw [if_pos rfl]
      constructor
      · intro z; cases z
      · intro z
        have := Option.some.inj z
        omega
    · rw [keep q]; exact h.line x
  · rw [List.mem_append, List.mem_singleton, h.ahd]
    by_cases q : x = c
    · rw [q]
      unfold put1
      rw [if_pos rfl]
      exact ⟨fun _ => rfl, fun _ => .inr rfl⟩
    · rw [keep q]
      exact ⟨fun z => z.resolve_right q, .inl⟩
  · rw [List.nodup_append]
    refine ⟨h.nd, by simp, fun x hx z hz q => ?_⟩
    rw [List.mem_singleton.mp hz] at q
    have := (h.ahd x).mp hx
    rw [q, hn] at this
    cases this
  · by_cases q : m2 = c
    · rw [q]; unfold put1; rw [if_pos rfl]; simp
    · rw [keep q]; exact h.done z hz m2 e2
theorem BfsG1.next {nx : List Int → List (List Int)} {a : List Int} {t : Nat} {far : List Int → Option Int} {line ahead ys : List (List Int)} (h : BfsG1 nx a t far line ahead ys) {y : List Int} (hd : ∀ c ∈ nx y, far c ≠ none) : BfsG1 nx a t far line ahead (ys ++ [y]) :=
  ⟨h.val, h.all, h.line, h.ahd, h.nd, fun z hz => by
    rcases List.mem_append.mp hz with q | q
    · exact h.done z q
    · rw [List.mem_singleton.mp q]; exact hd⟩
theorem BfsG1.over {nx : List Int → List (List Int)} {a : List Int} {t : Nat} {far : List Int → Option Int} {line ahead : List (List Int)} (h : BfsG1 nx a t far line ahead line) : BfsG0 nx a (t + 1) far ahead := by
  refine ⟨h.val, fun x k hk r => ?_, fun x => by rw [h.ahd]; rfl⟩
  by_cases q : k ≤ t
  · exact h.all x k q r
  · obtain rfl : k = t + 1 := by omega
    cases r with
    | @snoc _ y c r1 e =>
      cases hf : far y with
      | none => exact absurd hf (h.all y t (Nat.le_refl _) r1)
      | some d =>
        obtain ⟨j, e1, e2, e3⟩ := h.val y d hf
        have jt : j ≤ t := Nat.not_lt.mp fun q => e3.2 t q r1
        by_cases q : j = t
        · subst q
          exact h.done y ((h.line y).mpr (by rw [hf, e1])) _ e
        · exact h.all _ (j + 1) (by omega) (.snoc e3.1 e)
theorem BfsG0.far {nx : List Int → List (List Int)} {a : List Int} {t : Nat} {far : List Int → Option Int} {line : List (List Int)} (h : BfsG0 nx a t far line) : FarG t nx a far := ⟨h.val, h.all⟩
end WC

set_option maxHeartbeats 8000000
namespace WC
open PySem PySem.Spec PyProof.Rows L2
def NextG (H : Hp) (ys : List (List Int)) (v : V) : Prop := ∃ l ks, v = .ref l ∧ H l = some (.lst ks) ∧ Paired (TA fS H) ys ks
theorem NextG.same {H H2 : Hp} {ys : List (List Int)} {v : V} (h : NextG H ys v) (s : Same H H2) : NextG H2 ys v := by
  obtain ⟨l, ks, e, h1, h2⟩ := h
  exact ⟨l, ks, e, s _ _ h1, ta_same h2 s⟩
def RoadsG (H : Hp) (R : Addr) (nx : List Int → List (List Int)) (xs : List (List Int)) : Prop := ∃ g : List Int → V, H R = some (.dT (ents xs g)) ∧ ∀ x ∈ xs, NextG H (nx x) (g x)
theorem RoadsG.same {H H2 : Hp} {R : Addr} {nx : List Int → List (List Int)} {xs : List (List Int)} (h : RoadsG H R nx xs) (s : Same H H2) : RoadsG H2 R nx xs := by
  obtain ⟨g, h1, h2⟩ := h
  exact ⟨g, s _ _ h1, fun x hx => (h2 x hx).same s⟩
def spSearchG : Sp := fun vs H Q _ => ∃ (R a : Addr) (nx : List Int → List (List Int)) (xs : List (List Int)) (st : List Int), vs = [.ref R, .ref a] ∧ RoadsG H R nx xs ∧ xs.length ≤ 1000 ∧ (∀ x ∈ xs, ∀ y ∈ nx x, y ∈ xs) ∧ H a = some (.tup (fS st)) ∧ st ∈ xs ∧
  ∀ (D : Addr) far H2, Same H H2 → H D = none → FarAt H2 D far → FarG xs.length nx st far → Q (.ref D) H2
section
variable {P : Program} {w : World} {K : PySem.W.Frag} {mg : Str → Option Value} {base : Heap}
theorem ok_searchG {f : Addr} {fd : FuncData} (F : Fun K "_law_search" "_law_search" s_law_search f fd) (B : Blt mg) : FnOk P w K mg base (L2.CX P w) 1 f fd ["_law_roads_here", "_law_start"] spSearchG := by
  refine F.okX sc_law_search (fun vs H Q E h => ?_) (fun cdv A outer s H vs Q E hr h => ?_)
  · obtain ⟨R, a, nx, xs, st, rfl, _⟩ := h
    rfl
  · obtain ⟨R, a, nx, xs, st, rfl, ⟨g, hR, hg⟩, lx, cl, ha, hst, q⟩ := h
    have hu := hu_of hr
    -- slots: 0 _law_roads_here, 1 _law_start, 2 _law_far, 3 _law_line, 4 _law_turn, 5 _law_ahead, 6 _law_point, 7 _law_other
    refine ⟨_, (pss_cons (ps_set (i := 2) sc_law_search.nd rfl (Or.inl rfl) pe_dnewT)
      (pss_cons (ps_dput hu (pv 2) (pv 1) pe_int rfl)
      (pss_cons (ps_set (i := 3) sc_law_search.nd rfl (Or.inl rfl) (pe_lst (pa_cons (pv 1) pa_nil)))
      (pss_cons (ps_for (passes_of rfl) rfl (pi_range1 (by rfl) B.range (pa_cons (pe_callB call_len_dT (by rfl) B.len bt_len (pa_cons (pv 0) pa_nil)) pa_nil)) (pg_name (i := 4) sc_law_search.nd rfl (Or.inl rfl))
        (pss_cons (ps_set (i := 5) sc_law_search.nd rfl (Or.inl rfl) (pe_lst pa_nil))
      (pss_cons (ps_for (passes_of rfl) rfl (pi_list (pv 3)) (pg_name (i := 6) sc_law_search.nd rfl (Or.inl rfl))
        (pss_one (ps_for (passes_of rfl) rfl (pi_list (pe_dget hu (pv 0) (pv 6) (fun _ _ => rfl))) (pg_name (i := 7) sc_law_search.nd rfl (Or.inl rfl))
        (pss_one (ps_if (pt_cmp (pc_dnotin hu (pv 7) (pv 2))) (pss_cons (ps_dput hu (pv 2) (pv 7) (pe_op op_add (pv 4) pe_int) rfl)
      (pss_one (ps_expr (pe_bm PySem.F.plainAttrs_list PySem.F.slot_list_append PySem.F.type_list_append mt_append (pv 5) (pa_cons (pv 7) pa_nil))))) pss_nil)))))
      (pss_one (ps_set (i := 3) sc_law_search.nd rfl (Or.inl rfl) (pv 5))))))
      (pss_one (ps_ret (pv 2))))))), ?_⟩
    intro Fd nF
    have aF : a ≠ Fd := ne_of_none ha nF
    have RF : R ≠ Fd := ne_of_none hR nF
    have f0 : FarAt (upd H Fd (.dT [])) Fd (fun _ => none) := ⟨[], upd_same, fun x => ⟨fun z => (by cases z), fun z => absurd rfl z⟩, List.nodup_nil⟩
    obtain ⟨kv0, p0, f1⟩ := f0.put (N := 0) (a := a) (x := st) (d := 0) (by rw [upd_ne aF]; exact ha) rfl (fun ks _ h => by
      cases ks with
      | nil => exact Nat.zero_le _
      | cons y ys => exact absurd rfl (h y List.mem_cons_self))
    refine ⟨_, rfl, _, rfl, Fd, _, rfl, p0, ?_⟩
    obtain ⟨H1, e1⟩ : ∃ H1, H1 = upd (upd H Fd (.dT [])) Fd (.dT kv0) := ⟨_, rfl⟩
    have s1 : Same H H1 := by rw [e1]; exact Same.newer (Same.new nF) nF
    rw [← e1] at f1 ⊢
    refine ⟨_, rfl, by show 1 ≤ sizeLine; decide, fun L0 nL0 => ?_⟩
    have LF : Fd ≠ L0 := ne_of_none f1.choose_spec.1 nL0
    obtain ⟨H2, e2⟩ : ∃ H2, H2 = upd H1 L0 (.lst [.ref a]) := ⟨_, rfl⟩
    have s12 : Same H1 H2 := by rw [e2]; exact Same.new nL0
    have s2 : Same H H2 := s1.trans s12
    have f2 : FarAt H2 Fd (put1 (fun _ => none) st 0) := f1.on (by rw [e2, upd_ne LF])
    have hL0 : H2 L0 = some (.lst [.ref a]) := by rw [e2, upd_same]
    rw [← e2]
    refine ⟨_, rfl, R, _, rfl, s2 _ _ hR, (xs.length : Int), (by rw [ents_len]), by omega, by omega, for_it walk_range (fun t σ H5 => ∃ L kl line far v4 v5 v6 v7, σ = [some (.ref R), some (.ref a), some (.ref Fd), some (.ref L), v4, v5, v6, v7] ∧ Same H H5 ∧ FarAt H5 Fd far ∧ H5 L = some (.lst kl) ∧ Paired (TA fS H5) line kl ∧ BfsG0 nx st t far line) ⟨L0, _, [st], _, _, _, _, _, rfl, s2, f2, hL0, .cons ⟨a, rfl, s2 _ _ ha⟩ .nil, BfsG0.base nx st⟩ (fun _ _ _ _ _ => trivial) ?_ ?_⟩
    · rintro t x σ H4 H5 htl ⟨L, kl, line, far, v4, v5, v6, v7, rfl, s5, fa, hL, pl, b0⟩ ⟨rfl, e3⟩
      have z0 : (0 : Int) + (t : Nat) = (t : Nat) := by omega
      have e3 : x = .int ((t : Nat) : Int) := by
        rw [← z0]
        exact e3
      subst e3
      -- all that is known lies in the window
      have inW : ∀ {far : List Int → Option Int} {N : Nat}, (∀ x d, far x = some d → ∃ k : Nat, d = k ∧ k ≤ N ∧ LeastG nx st k x) → ∀ x, far x ≠ none → x ∈ xs := fun {far N} val x hx => by
        cases e : far x with
        | none => exact absurd e hx
        | some d =>
          obtain ⟨k, _, _, l1, _⟩ := val x d e
          exact Pth.inn hst cl l1
      have hb : ∀ {far : List Int → Option Int} {N : Nat}, (∀ x d, far x = some d → ∃ k : Nat, d = k ∧ k ≤ N ∧ LeastG nx st k x) → ∀ ks : List (List Int), ks.Nodup → (∀ y ∈ ks, far y ≠ none) → ks.length ≤ 1000 := fun {far N} val ks nd h => Nat.le_trans (nodup_leW nd fun y hy => inW val y (h y hy)) lx
      refine ⟨by show 0 ≤ sizeLine; decide, fun D nD => ?_⟩
      have FD : Fd ≠ D := ne_of_none fa.choose_spec.1 nD
      obtain ⟨H6, e6⟩ : ∃ H6, H6 = upd H5 D (.lst []) := ⟨_, rfl⟩
      have s6 : Same H5 H6 := by rw [e6]; exact Same.new nD
      have hD6 : H6 D = some (.lst []) := by rw [e6, upd_same]
      have fa6 : FarAt H6 Fd far := fa.on (by rw [e6, upd_ne FD])
      rw [← e6]
      have LD : L ≠ D := ne_of_none hL nD
      have LFd : L ≠ Fd := ne_of hL fa.choose_spec.1 (by intro z; cases z)
      dsimp only [gName]
      refine ⟨_, rfl, L, rfl, ⟨_, SqL.of (s6 _ _ hL)⟩, for_it (walk_list (xs := kl)) (fun j σ H7 => ∃ far ahead ka v6 v7, σ = [some (.ref R), some (.ref a), some (.ref Fd), some (.ref L), some (.int t), some (.ref D), v6, v7] ∧ SameB Fd H5 H7 ∧ FarAt H7 Fd far ∧ H7 D = some (.lst ka) ∧ Paired (TA fS H7) ahead ka ∧ BfsG1 nx st t far line ahead (line.take j)) ⟨far, [], [], _, _, rfl, SameB.of s6, fa6, hD6, .nil, b0.start⟩ (fun j σ H7 _ z => ?_) ?_ ?_⟩
      · obtain ⟨_, _, _, _, _, _, z, _⟩ := z
        exact SqL.of (z _ _ hL LFd)
      · rintro j y σ H8 H7 hj ⟨far, ahead, ka, w6, w7, rfl, s7, fa7, hD7, pa7, b1⟩ ⟨rfl, e4⟩
        obtain ⟨p, qp, Tp, rfl, hTp⟩ := pr_at pl e4
        have pm := List.mem_of_getElem? qp
        have pW : p ∈ xs := inW b1.val p (by rw [(b1.line p).mp pm]; simp)
        obtain ⟨lo, ko, eg, hlo, po⟩ := hg p pW
        have s07 : Same H H7 := same_off s5 nF s7
        have TpF : Tp ≠ Fd := ne_of hTp fa.choose_spec.1 (by intro z; cases z)
        have dg : DGet H7 R (.ref Tp) (some (.ref lo)) := by
          have z := DGet.t (k := keyS p) (s07 _ _ hR) (by rw [keyS_V]; exact s7 _ _ hTp TpF)
          rw [ents_val, if_pos pW, eg] at z
          exact z
        dsimp only [gName]
        refine ⟨_, rfl, _, rfl, R, .ref lo, rfl, dg, lo, rfl, ⟨_, SqL.of (s07 _ _ hlo)⟩, for_it (walk_list (xs := ko)) (fun l σ H9 => ∃ far ahead ka v7, σ = [some (.ref R), some (.ref a), some (.ref Fd), some (.ref L), some (.int t), some (.ref D), some (.ref Tp), v7] ∧ SameB Fd H5 H9 ∧ FarAt H9 Fd far ∧ H9 D = some (.lst ka) ∧ Paired (TA fS H9) ahead ka ∧ BfsG1 nx st t far line ahead (line.take j) ∧ ∀ o ∈ (nx p).take l, far o ≠ none) ⟨far, ahead, ka, _, rfl, s7, fa7, hD7, pa7, b1, fun o ho => by cases ho⟩ (fun l σ H9 _ z => ?_) ?_ ?_⟩
        · obtain ⟨_, _, _, _, _, z, _⟩ := z
          exact SqL.of ((same_off s5 nF z) _ _ hlo)
        · rintro l y σ H10 H9 hl ⟨far, ahead, ka, w7, rfl, s9, fa9, hD9, pa9, b9, dn⟩ ⟨rfl, e5⟩
          obtain ⟨o, qo, To, rfl, hTo⟩ := pr_at po e5
          have am := List.mem_of_getElem? qo
          have s09 : Same H H9 := same_off s5 nF s9
          have hTo9 := s09 _ _ hTo
          have lka := pa9.length
          refine ⟨_, rfl, _, rfl, Fd, _, rfl, fa9.get hTo9, _, rfl, ?_⟩
          cases hf : far o with
          | some d =>
            refine iteF ⟨far, ahead, ka, _, rfl, s9, fa9, hD9, pa9, b9, fun u hu2 => ?_⟩
            rw [take_snoc qo] at hu2
            rcases List.mem_append.mp hu2 with z | z
            · exact dn u z
            · rw [List.mem_singleton.mp z, hf]; simp
          | none =>
            obtain ⟨kvs, dp, fa10⟩ := fa9.put (N := 0) (d := (t : Int) + 1) hTo9 hf (hb b9.val)
            have DF : D ≠ Fd := Ne.symm FD
            have hD10 : (upd H9 Fd (.dT kvs)) D = some (.lst ka) := by rw [upd_ne DF]; exact hD9
            have aW : ahead.length ≤ 1000 := hb b9.val ahead b9.nd fun y hy => by rw [(b9.ahd y).mp hy]; simp
            refine iteT ⟨_, rfl, _, _, rfl, rfl, _, rfl, _, rfl, Fd, _, rfl, dp, ?_⟩
            refine ⟨_, rfl, .inl ⟨rfl, _, SqL.of hD10⟩, _, rfl, D, _, _, rfl, rfl, hD10, line_lt (by omega), ?_⟩
            have tF : ∀ {T : Addr} {us : List V}, H9 T = some (.tup us) → (upd (upd H9 Fd (.dT kvs)) D (.lst (ka ++ [.ref To]))) T = some (.tup us) := fun {T us} h => by
              rw [upd_ne (ne_of h hD9 (by intro z; cases z)), upd_ne (ne_of h fa9.choose_spec.1 (by intro z; cases z))]
              exact h
            refine ⟨put1 far o ((t : Int) + 1), ahead ++ [o], _, _, rfl, ?_, fa10.on (by rw [upd_ne FD]), upd_same, pr_snoc (Paired.mapP pa9 fun c v ⟨T, e, hT⟩ => ⟨T, e, tF hT⟩) ⟨To, rfl, tF hTo9⟩, ?_, fun u hu2 => ?_⟩
            · exact (s9.trans ((SameB.refl Fd H9).upd)).put nD
            · exact b9.put pm am hf
            · unfold put1
              by_cases e : u = o
              · rw [if_pos e]; simp
              · rw [if_neg e]
                rw [take_snoc qo] at hu2
                rcases List.mem_append.mp hu2 with z | z
                · exact dn u z
                · exact absurd (List.mem_singleton.mp z) e
        · rintro σ H9 ⟨far, ahead, ka, w7, rfl, s9, fa9, hD9, pa9, b9, dn⟩
          rw [List.take_of_length_le (by rw [po.length]; exact Nat.le_refl _)] at dn
          refine ⟨far, ahead, ka, _, _, rfl, s9, fa9, hD9, pa9, ?_⟩
          rw [take_snoc qp]
          exact b9.next fun c hc => dn c hc
      · rintro σ H7 ⟨far, ahead, ka, w6, w7, rfl, s7, fa7, hD7, pa7, b1⟩
        rw [List.take_of_length_le (by rw [pl.length]; exact Nat.le_refl _)] at b1
        exact ⟨_, rfl, D, ka, ahead, far, _, _, _, _, rfl, same_off s5 nF s7, fa7, hD7, pa7, b1.over⟩
    · rintro σ H5 ⟨L, kl, line, far, v4, v5, v6, v7, rfl, s5, fa, hL, pl, b0⟩
      exact ⟨_, rfl, q Fd far H5 s5 nF fa b0.far⟩
end
end WC

set_option maxHeartbeats 8000000
namespace WC
open PySem PySem.Spec PyProof.Rows L2
/-! the roads turned round: a dict of own lists -/
def bk1 (p : List Int) (os : List (List Int)) (y : List Int) : List (List Int) := (os.filter fun o => decide (o = y)).map fun _ => p
def backM (nx : List Int → List (List Int)) (ps : List (List Int)) (y : List Int) : List (List Int) := ps.flatMap fun x => bk1 x (nx x) y
theorem bk1_snoc (p o : List Int) (os : List (List Int)) (y : List Int) : bk1 p (os ++ [o]) y = bk1 p os y ++ (if o = y then [p] else []) := by
  unfold bk1
  rw [List.filter_append, List.map_append]
  by_cases e : o = y
  · rw [if_pos e, List.filter_cons, if_pos (decide_eq_true e)]; rfl
  · rw [if_neg e, List.filter_cons, if_neg (by rw [decide_eq_false e]; decide)]; rfl
theorem bk1_mem {p x y : List Int} {os : List (List Int)} : x ∈ bk1 p os y ↔ x = p ∧ y ∈ os := by
  unfold bk1
  rw [List.mem_map]
  constructor
  · rintro ⟨o, ho, rfl⟩
    obtain ⟨h1, h2⟩ := List.mem_filter.mp ho
    exact ⟨rfl, of_decide_eq_true h2 ▸ h1⟩
  · rintro ⟨rfl, h⟩
    exact ⟨y, List.mem_filter.mpr ⟨h, decide_eq_true rfl⟩, rfl⟩
theorem backM_mem {nx : List Int → List (List Int)} {ps : List (List Int)} {x y : List Int} : x ∈ backM nx ps y ↔ x ∈ ps ∧ y ∈ nx x := by
  unfold backM
  rw [List.mem_flatMap]
  constructor
  · rintro ⟨p, hp, h⟩
    obtain ⟨rfl, h2⟩ := bk1_mem.mp h
    exact ⟨hp, h2⟩
  · rintro ⟨h1, h2⟩
    exact ⟨x, h1, bk1_mem.mpr ⟨rfl, h2⟩⟩
theorem bk1_len (p : List Int) (os : List (List Int)) (y : List Int) : (bk1 p os y).length ≤ os.length := by
  unfold bk1
  rw [List.length_map]
  exact List.length_filter_le _ _
theorem backM_len {nx : List Int → List (List Int)} (y : List Int) (h : ∀ x, (nx x).length ≤ 20) : ∀ ps : List (List Int), (backM nx ps y).length ≤ ps.length * 20
  | [] => Nat.zero_le _
  | p :: ps => by
    have ih := backM_len y h ps
    have e1 := bk1_len p (nx p) y
    have e2 := h p
    unfold backM at ih ⊢
    rw [List.flatMap_cons, List.length_append, List.length_cons]
    omega
structure Own14 (HL H : Hp) (Bk : Addr) (ps : List (List Int)) (la : List Int → Addr) (part : List Int → List (List Int)) : Prop where
  same : Same HL H
  nB : HL Bk = none
  hB : H Bk = some (.dT (ents ps fun x => .ref (la x)))
  ow : ∀ x ∈ ps, HL (la x) = none ∧ ∃ ks, H (la x) = some (.lst ks) ∧ Paired (TA fS H) (part x) ks
  inj : ∀ x ∈ ps, ∀ y ∈ ps, la x = la y → x = y
/-- a thing that stood before is exchanged (locked, unlocked) -/
theorem Own14.swap {HL H : Hp} {Bk R : Addr} {ps : List (List Int)} {la : List Int → Addr} {part : List Int → List (List Int)} (h : Own14 HL H Bk ps la part) {o1 o2 : HO} (hR : HL R = some o1) (no : ∀ xs, o1 ≠ .tup xs) : Own14 (upd HL R o2) (upd H R o2) Bk ps la part := by
  have RB : Bk ≠ R := fun e => by rw [← e, h.nB] at hR; cases hR
  have hR2 := h.same _ _ hR
  refine ⟨fun c o hc => ?_, by rw [upd_ne RB]; exact h.nB, by rw [upd_ne RB]; exact h.hB, fun x hx => ?_, h.inj⟩
  · by_cases e : c = R
    · rw [e, upd_same] at hc ⊢; exact hc
    · rw [upd_ne e] at hc ⊢; exact h.same _ _ hc
  · obtain ⟨n, ks, h1, h2⟩ := h.ow x hx
    have l : la x ≠ R := fun e => by rw [e, hR] at n; cases n
    refine ⟨by rw [upd_ne l]; exact n, ks, by rw [upd_ne l]; exact h1, Paired.mapP h2 fun c v ⟨t, e, ht⟩ => ⟨t, e, ?_⟩⟩
    have tR : t ≠ R := fun e => by
      rw [e, hR2] at ht
      exact no _ (Option.some.inj ht)
    rw [upd_ne tR]; exact ht
theorem Own14.on {HL H H2 : Hp} {Bk : Addr} {ps : List (List Int)} {la : List Int → Addr} {part : List Int → List (List Int)} (h : Own14 HL H Bk ps la part) (s : Same H H2) : Own14 HL H2 Bk ps la part :=
  ⟨h.same.trans s, h.nB, s _ _ h.hB, fun x hx => let ⟨n, ks, h1, h2⟩ := h.ow x hx; ⟨n, ks, s _ _ h1, ta_same h2 s⟩, h.inj⟩
/-- a new entry, its list new and empty -/
theorem Own14.add {HL H : Hp} {Bk D : Addr} {ps : List (List Int)} {la : List Int → Addr} (h : Own14 HL H Bk ps la fun _ => []) {p : List Int} (hp : p ∉ ps) (nD : H D = none) : Own14 HL (upd (upd H D (.lst [])) Bk (.dT (putK (ents ps fun x => .ref (la x)) (keyS p) (.ref D)))) Bk (ps ++ [p]) (fun x => if x = p then D else la x) fun _ => [] := by
  have DB : D ≠ Bk := (ne_of_none h.hB nD).symm
  have nDL : HL D = none := h.same.free nD
  have ne : ∀ x ∈ ps, x ≠ p := fun x hx e => hp (e ▸ hx)
  have lD : ∀ x ∈ ps, la x ≠ D := fun x hx e => by
    obtain ⟨_, ks, h1, _⟩ := h.ow x hx
    rw [e, nD] at h1; cases h1
  refine ⟨Same.newer (Same.newer h.same nDL) h.nB, h.nB, ?_, fun x hx => ?_, fun x hx y hy e => ?_⟩
  · rw [upd_same, ents_put hp]
    refine congrArg some (congrArg HO.dT (ents_congr fun y _ => ?_))
    by_cases e : y = p
    · rw [if_pos e, if_pos e]
    · rw [if_neg e, if_neg e]
  · by_cases e : x = p
    · rw [if_pos e]
      exact ⟨nDL, [], by rw [upd_ne DB, upd_same], .nil⟩
    · rw [if_neg e]
      have hx : x ∈ ps := (List.mem_append.mp hx).resolve_right fun z => e (List.mem_singleton.mp z)
      obtain ⟨n, ks, h1, h2⟩ := h.ow x hx
      cases h2
      have lB : la x ≠ Bk := ne_of h1 h.hB (by intro z; cases z)
      exact ⟨n, [], by rw [upd_ne lB, upd_ne (lD x hx)]; exact h1, .nil⟩
  · have mem : ∀ z ∈ ps ++ [p], z ≠ p → z ∈ ps := fun z hz ne => (List.mem_append.mp hz).resolve_right fun q => ne (List.mem_singleton.mp q)
    by_cases e1 : x = p
    · by_cases e2 : y = p
      · rw [e1, e2]
      · rw [if_pos e1, if_neg e2] at e
        exact absurd e.symm (lD y (mem y hy e2))
    · by_cases e2 : y = p
      · rw [if_neg e1, if_pos e2] at e
        exact absurd e (lD x (mem x hx e1))
      · rw [if_neg e1, if_neg e2] at e
        exact h.inj x (mem x hx e1) y (mem y hy e2) e
/-- one list gets a point more -/
theorem Own14.push {HL H : Hp} {Bk t : Addr} {ps : List (List Int)} {la : List Int → Addr} {part : List Int → List (List Int)} (h : Own14 HL H Bk ps la part) {o p : List Int} (ho : o ∈ ps) (ht : H t = some (.tup (fS p))) {ks : List V} (hk : H (la o) = some (.lst ks)) (pk : Paired (TA fS H) (part o) ks) : Own14 HL (upd H (la o) (.lst (ks ++ [.ref t]))) Bk ps la fun y => part y ++ (if o = y then [p] else []) := by
  obtain ⟨no, _⟩ := h.ow o ho
  have lB : Bk ≠ la o := ne_of h.hB hk (by intro z; cases z)
  have tl : ∀ {u : Addr} {us : List V}, H u = some (.tup us) → upd H (la o) (.lst (ks ++ [.ref t])) u = some (.tup us) := fun {u us} hu => by rw [upd_ne (ne_of hu hk (by intro z; cases z))]; exact hu
  refine ⟨Same.newer h.same no, h.nB, by rw [upd_ne lB]; exact h.hB, fun x hx => ?_, h.inj⟩
  obtain ⟨n, ks2, h1, h2⟩ := h.ow x hx
  refine ⟨n, ?_⟩
  by_cases e : o = x
  · subst e
    rw [if_pos rfl]
    exact ⟨_, upd_same, pr_snoc (Paired.mapP pk fun c v ⟨u, e, hu⟩ => ⟨u, e, tl hu⟩) ⟨t, rfl, tl ht⟩⟩
  · rw [if_neg e, List.append_nil]
    have l : la x ≠ la o := fun z => e (h.inj o ho x hx z.symm)
    exact ⟨ks2, by rw [upd_ne l]; exact h1, Paired.mapP h2 fun c v ⟨u, e, hu⟩ => ⟨u, e, tl hu⟩⟩
theorem Own14.get {HL H : Hp} {Bk a : Addr} {ps : List (List Int)} {la : List Int → Addr} {part : List Int → List (List Int)} (h : Own14 HL H Bk ps la part) {o : List Int} (ho : o ∈ ps) (ha : H a = some (.tup (fS o))) : DGet H Bk (.ref a) (some (.ref (la o))) := by
  have z := DGet.t (k := keyS o) h.hB (by rw [keyS_V]; exact ha)
  rw [ents_val, if_pos ho] at z
  exact z
theorem Own14.roads {HL H : Hp} {Bk : Addr} {ps : List (List Int)} {la : List Int → Addr} {part : List Int → List (List Int)} (h : Own14 HL H Bk ps la part) : RoadsG H Bk part ps :=
  ⟨_, h.hB, fun x hx => let ⟨_, ks, h1, h2⟩ := h.ow x hx; ⟨la x, ks, rfl, h1, h2⟩⟩
theorem dget_frz {H : Hp} {a b : Addr} {o : Obj} {xs : List (List Int)} {g : List Int → V} {p : List Int} (e : H a = some (.frz o (.dT (ents xs g)))) (hp : p ∈ xs) (hb : H b = some (.tup (fS p))) : DGet H a (.ref b) (some (g p)) := by
  have z : DGet H a (.ref b) (valV (ents xs g) (keyS p)) := .inr ⟨_, keyS p, b, .inr ⟨o, e⟩, rfl, by rw [keyS_V]; exact hb, rfl⟩
  rw [ents_val, if_pos hp] at z
  exact z
theorem ents_at {xs : List (List Int)} {g : List Int → V} {i : Nat} {k : List Key} {v : V} (h : (ents xs g)[i]? = some (k, v)) : ∃ p, xs[i]? = some p ∧ k = keyS p := by
  unfold ents at h
  rw [List.getElem?_map] at h
  cases e : xs[i]? with
  | none => rw [e] at h; cases h
  | some p =>
    rw [e] at h
    have h := Option.some.inj h
    exact ⟨p, rfl, (congrArg Prod.fst h).symm⟩
def spTurn : Sp := fun vs H Q _ => ∃ (R : Addr) (nx : List Int → List (List Int)) (xs : List (List Int)), vs = [.ref R] ∧ RoadsG H R nx xs ∧ xs.Nodup ∧ xs.length ≤ 1000 ∧ (∀ x ∈ xs, ∀ y ∈ nx x, y ∈ xs) ∧ (∀ x, (nx x).length ≤ 20) ∧ ∀ (Bk : Addr) H2, Same H H2 → H Bk = none → RoadsG H2 Bk (backM nx xs) xs → Q (.ref Bk) H2
section
variable {P : Program} {w : World} {K : PySem.W.Frag} {mg : Str → Option Value} {base : Heap}
theorem ok_turned {f : Addr} {fd : FuncData} (F : Fun K "_law_turned_round" "_law_turned_round" s_law_turned_round f fd) : FnOk P w K mg base (L2.CX P w) 1 f fd ["_law_roads_here"] spTurn := by
  refine F.okX sc_law_turned_round (fun vs H Q E h => ?_) (fun cdv A outer s H vs Q E hr h => ?_)
  · obtain ⟨R, nx, xs, rfl, _⟩ := h
    rfl
  · obtain ⟨R, nx, xs, rfl, ⟨g, hR, hg⟩, nd, lx, cl, l20, q⟩ := h
    have hu := hu_of hr
    -- slots: 0 _law_roads_here, 1 _law_back, 2 _law_point, 3 _law_other, 4 _law_befores
    refine ⟨_, pss_cons (ps_set (i := 1) sc_law_turned_round.nd rfl (Or.inl rfl) pe_dnewT)
      (pss_cons (ps_lock (ps_for (passes_of rfl) rfl (pi_keys (pv 0)) (pg_name (i := 2) sc_law_turned_round.nd rfl (Or.inl rfl))
        (pss_one (ps_dput hu (pv 1) (pv 2) (pe_lst pa_nil) rfl))))
      (pss_cons (ps_lock (ps_for (passes_of rfl) rfl (pi_keys (pv 0)) (pg_name (i := 2) sc_law_turned_round.nd rfl (Or.inl rfl))
        (pss_one (ps_for (passes_of rfl) rfl (pi_list (pe_dget hu (pv 0) (pv 2) (fun _ _ => rfl))) (pg_name (i := 3) sc_law_turned_round.nd rfl (Or.inl rfl))
        (pss_cons (ps_set (i := 4) sc_law_turned_round.nd rfl (Or.inl rfl) (pe_dget hu (pv 1) (pv 3) (fun _ _ => rfl)))
      (pss_one (ps_expr (pe_bm PySem.F.plainAttrs_list PySem.F.slot_list_append PySem.F.type_list_append mt_append (pv 4) (pa_cons (pv 2) pa_nil)))))))))
      (pss_one (ps_ret (pv 1))))), ?_⟩
    intro Bk nB
    have RB : R ≠ Bk := ne_of_none hR nB
    have o0 : Own14 H (upd H Bk (.dT [])) Bk [] (fun _ => 0) fun _ => [] := ⟨Same.new nB, nB, upd_same, fun x hx => (by cases hx), fun x hx => (by cases hx)⟩
    obtain ⟨H1, e1⟩ : ∃ H1, H1 = upd H Bk (.dT []) := ⟨_, rfl⟩
    rw [← e1] at o0 ⊢
    have hR1 := o0.same _ _ hR
    refine ⟨R, _, hR1, trivial, fun od => ?_⟩
    have oL := o0.swap (o2 := .frz od (.dT (ents xs g))) hR (fun xs z => by cases z)
    obtain ⟨HL, eL⟩ : ∃ HL, HL = upd H R (.frz od (.dT (ents xs g))) := ⟨_, rfl⟩
    have hRL : HL R = some (.frz od (.dT (ents xs g))) := by rw [eL, upd_same]
    rw [← eL] at oL
    refine ⟨_, rfl, R, od, rfl, .inr ⟨ents xs g, upd_same, for_it walk_keysT (fun i σ H5 => ∃ la v2 v3 v4, σ = [some (.ref R), some (.ref Bk), v2, v3, v4] ∧ Own14 HL H5 Bk (xs.take i) la fun _ => []) ⟨_, _, _, _, rfl, oL⟩ (fun i σ H5 _ z => ?_) ?_ ?_⟩⟩
    · obtain ⟨_, _, _, _, _, z⟩ := z
      exact z.same _ _ hRL
    · rintro i y σ H6 H5 hi ⟨la, v2, v3, v4, rfl, o5⟩ ⟨rfl, k, v, tq, hk, rfl, hq⟩
      obtain ⟨p, qp, rfl⟩ := ents_at hk
      rw [keyS_V] at hq
      have li := (List.getElem?_eq_some_iff.mp qp).1
      have pn : p ∉ xs.take i := fun z => by
        obtain ⟨k, hk⟩ := List.mem_iff_getElem?.mp z
        have hk1 := (List.getElem?_eq_some_iff.mp hk).1
        rw [List.length_take] at hk1
        rw [List.getElem?_take_of_lt (by omega)] at hk
        have := (List.getElem?_inj (by omega) nd).mp (hk.trans qp.symm)
        omega
      dsimp only [gName]
      refine ⟨by show 0 ≤ sizeLine; decide, fun D nD => ?_⟩
      have sD : Same H5 (upd H5 D (.lst [])) := Same.new nD
      refine ⟨_, rfl, _, rfl, Bk, _, rfl, DPut.t (k := keyS p) (sD _ _ o5.hB) (by rw [keyS_V]; exact sD _ _ hq) (line_lt (by rw [ents_len, List.length_take]; omega)), ?_⟩
      refine ⟨fun x => if x = p then D else la x, _, _, _, rfl, ?_⟩
      rw [take_snoc qp]
      exact o5.add pn nD
    · rintro σ H5 ⟨la, v2, v3, v4, rfl, o5⟩
      rw [ents_len, List.take_length] at o5
      refine ⟨o5.same _ _ hRL, ?_⟩
      have oU := o5.swap (o2 := .dT (ents xs g)) hRL (fun xs z => by cases z)
      have eU : upd HL R (.dT (ents xs g)) = H := by
        funext c
        by_cases e : c = R
        · rw [e, upd_same, hR]
        · rw [upd_ne e, eL, upd_ne e]
      rw [eU] at oU
      obtain ⟨H6, e6⟩ : ∃ H6, H6 = upd H5 R (.dT (ents xs g)) := ⟨_, rfl⟩
      rw [← e6] at oU ⊢
      have hR6 := oU.same _ _ hR
      refine ⟨R, _, hR6, trivial, fun od2 => ?_⟩
      have oM := oU.swap (o2 := .frz od2 (.dT (ents xs g))) hR (fun xs z => by cases z)
      obtain ⟨HM, eM⟩ : ∃ HM, HM = upd H R (.frz od2 (.dT (ents xs g))) := ⟨_, rfl⟩
      have hRM : HM R = some (.frz od2 (.dT (ents xs g))) := by rw [eM, upd_same]
      rw [← eM] at oM
      have hgM : ∀ x ∈ xs, ∃ l ks, g x = .ref l ∧ HM l = some (.lst ks) ∧ Paired (TA fS HM) (nx x) ks := fun x hx => by
        obtain ⟨l, ks, h1, h2, h3⟩ := hg x hx
        refine ⟨l, ks, h1, by rw [eM, upd_ne (ne_of h2 hR (by intro z; cases z))]; exact h2, Paired.mapP h3 fun c v ⟨t, e, ht⟩ => ⟨t, e, by rw [eM, upd_ne (ne_of ht hR (by intro z; cases z))]; exact ht⟩⟩
      refine ⟨_, rfl, R, od2, rfl, .inr ⟨ents xs g, upd_same, for_it walk_keysT (fun i σ H7 => ∃ v2 v3 v4, σ = [some (.ref R), some (.ref Bk), v2, v3, v4] ∧ Own14 HM H7 Bk xs la (backM nx (xs.take i))) ⟨_, _, _, rfl, oM⟩ (fun i σ H7 _ z => ?_) ?_ ?_⟩⟩
      · obtain ⟨_, _, _, _, z⟩ := z
        exact z.same _ _ hRM
      · rintro i y σ H8 H7 hi ⟨v2, v3, v4, rfl, o7⟩ ⟨rfl, k, v, tq, hk, rfl, hq⟩
        obtain ⟨p, qp, rfl⟩ := ents_at hk
        rw [keyS_V] at hq
        have li := (List.getElem?_eq_some_iff.mp qp).1
        have pm := List.mem_of_getElem? qp
        obtain ⟨lo, ko, eg, hlo, po⟩ := hgM p pm
        dsimp only [gName]
        refine ⟨_, rfl, _, rfl, R, .ref lo, rfl, by have z := dget_frz (g := g) (o7.same _ _ hRM) pm hq; rw [eg] at z; exact z, lo, rfl, ⟨_, SqL.of (o7.same _ _ hlo)⟩, for_it (walk_list (xs := ko)) (fun j σ H9 => ∃ v3 v4, σ = [some (.ref R), some (.ref Bk), some (.ref tq), v3, v4] ∧ Own14 HM H9 Bk xs la (fun y => backM nx (xs.take i) y ++ bk1 p ((nx p).take j) y) ∧ H9 tq = some (.tup (fS p))) ⟨_, _, rfl, by rw [show (fun y => backM nx (xs.take i) y ++ bk1 p ((nx p).take 0) y) = backM nx (xs.take i) from funext fun y => by rw [List.take_zero]; exact List.append_nil _]; exact o7, hq⟩ (fun j σ H9 _ z => ?_) ?_ ?_⟩
        · obtain ⟨_, _, _, z, _⟩ := z
          exact SqL.of (z.same _ _ hlo)
        · rintro j y σ H10 H9 hj ⟨v3, v4, rfl, o9, hq9⟩ ⟨rfl, e4⟩
          obtain ⟨o, qo, To, rfl, hTo⟩ := pr_at po e4
          have om := cl p pm o (List.mem_of_getElem? qo)
          have hTo9 := o9.same _ _ hTo
          obtain ⟨_, kl, hl, pl⟩ := o9.ow o om
          have b1 := backM_len (nx := nx) o l20 (xs.take i)
          have b2 := bk1_len p ((nx p).take j) o
          have b3 := l20 p
          have b4 := pl.length
          rw [List.length_append] at b4
          rw [List.length_take] at b1 b2
          dsimp only [gName]
          refine ⟨_, rfl, _, rfl, Bk, _, rfl, o9.get om hTo9, ?_⟩
          refine ⟨_, rfl, .inl ⟨rfl, _, SqL.of hl⟩, _, rfl, la o, _, _, rfl, rfl, hl, line_lt (by omega), ?_⟩
          refine ⟨_, _, rfl, ?_, by rw [upd_ne (ne_of hq9 hl (by intro z; cases z))]; exact hq9⟩
          have z := o9.push om hq9 hl pl
          rw [show (fun y => backM nx (xs.take i) y ++ bk1 p ((nx p).take (j + 1)) y) = fun y => backM nx (xs.take i) y ++ bk1 p ((nx p).take j) y ++ (if o = y then [p] else []) from funext fun y => by rw [take_snoc qo, bk1_snoc, List.append_assoc]]
          exact z
        · rintro σ H9 ⟨v3, v4, rfl, o9, hq9⟩
          rw [← po.length, List.take_length] at o9
          refine ⟨_, _, _, rfl, ?_⟩
          rw [show backM nx (xs.take (i + 1)) = fun y => backM nx (xs.take i) y ++ bk1 p (nx p) y from funext fun y => by rw [take_snoc qp]; unfold backM; rw [List.flatMap_append, List.flatMap_singleton]]
          exact o9
      · rintro σ H7 ⟨v2, v3, v4, rfl, o7⟩
        rw [ents_len, List.take_length] at o7
        refine ⟨o7.same _ _ hRM, ?_⟩
        have oV := o7.swap (o2 := .dT (ents xs g)) hRM (fun xs z => by cases z)
        have eV : upd HM R (.dT (ents xs g)) = H := by
          funext c
          by_cases e : c = R
          · rw [e, upd_same, hR]
          · rw [upd_ne e, eM, upd_ne e]
        rw [eV] at oV
        exact ⟨_, rfl, q Bk _ oV.same nB oV.roads⟩
end
end WC

set_option maxHeartbeats 8000000
namespace WC
open PySem PySem.Spec PyProof.Rows L2
/-! objections, told as a tuple without a dict of its own -/
def spAllOF (CP CR : Addr) : Sp := fun vs H Q _ => ∃ (C x s t : Addr) (ring : Bool) (n : Nat) (cs : List Tri) (st tg : List Int), KC CP CR C ring ∧ vs = [.ref x, .ref s, .ref t] ∧ NetAt H x C n cs ∧ NOk n cs ∧ H s = some (.tup (st.map V.int)) ∧ st.length = n ∧ H t = some (.tup (tg.map V.int)) ∧ tg.length = n ∧
  ∀ T ks os U H2, Same H H2 → H T = none → FrzT H2 T ks → Paired (ObA H2) os ks → AllOb cs st tg n ring U → os.Perm U → os.Pairwise (fun a b => lexSI b a = false) → Q (.ref T) H2
def resObsF : Hp → Nat → List Tri → Bool → List Int → List Int → VK → XK → Prop := fun H n cs ring st tg Q _ => ∀ T ks os U H2, Same H H2 → H T = none → FrzT H2 T ks → Paired (ObA H2) os ks → AllOb cs st tg n ring U → os.Perm U → os.Pairwise (fun a b => lexSI b a = false) → Q (.ref T) H2
section
variable {P : Program} {w : World} {K : PySem.W.Frag} {mg : Str → Option Value} {base : Heap}
theorem ok_all_objections_f {f CP CR : Addr} {fd : FuncData} (F : Fun K "all_objections" "all_objections" s_all_objections f fd) (B : Blt mg) (TC : ∀ C ∈ [CP, CR], NetCls K C) (g_stage_objections : DefR P w K mg base "_stage_objections" 5 (spStO [CP, CR])) (g_channel_objections : DefR P w K mg base "_channel_objections" 2 (spChO [CP, CR])) (g_is_ring : ∀ C ring, KC CP CR C ring → MetR P w K mg base C "is_ring" 1 (spRing1 [CP, CR] ring)) (g_range_objections : DefR P w K mg base "_range_objections" 1 spRgO) :
    FnOk P w K mg base (L2.CX P w) 6 f fd ["net", "start", "target"] (spAllOF CP CR) := by
  refine F.okX sc_all_objections (fun vs H Q E h => ?_) (fun cdv A outer s H vs Q E hr h => ?_)
  · obtain ⟨C, x, s, t, ring, n, cs, st, tg, _, rfl, _⟩ := h
    rfl
  · obtain ⟨C, x, s, t, ring, n, cs, st, tg, hK, rfl, NA, G, hs, ls, ht, lt, q⟩ := h
    have hC := hK.mem
    have T1 := TC C hC
    have n40 := G.n40
    have hlen := G.len
    obtain ⟨dx, tc, ti, to, ws, hx, htc, hpw, _⟩ := NA.ex
    have lws := hpw.length
    -- slots: 0 net, 1 start, 2 target, 3 channels, 4 found
    refine ⟨_, (pss_cons (ps_set (i := 3) sc_all_objections.nd rfl (Or.inl rfl) (pe_listRg rfl (by rfl) B.list (prg_1 (by rfl) B.range (pe_callB call_len_seq (by rfl) B.len bt_len (pa_cons (pe_fld (pv 0) rfl) pa_nil)))))
      (pss_cons (ps_set (i := 4) sc_all_objections.nd rfl (Or.inl rfl) (pe_op op_cat (pe_cd g_stage_objections hr psE (pa_cons (pv 0) (pa_cons (pv 1) (pa_cons (pv 2) pa_nil)))) (pe_cd g_channel_objections hr psE (pa_cons (pv 0) (pa_cons (pv 1) (pa_cons (pv 2) (pa_cons (pv 3) pa_nil)))))))
      (pss_cons (ps_if (pt_val (pe_mtr0 (g_is_ring C ring hK) (pv 0) hr psE)) (pss_one (ps_set (i := 4) sc_all_objections.nd rfl (Or.inl rfl) (pe_op op_cat (pv 4) (pe_cd g_range_objections hr psE (pa_cons (pv 1) (pa_cons (pv 2) pa_nil)))))) pss_nil)
      (pss_one (ps_ret (pe_callTy (T := "tuple") (c_tupF (K := K)) (by rfl) B.tuple bt_tuple (pa_cons (pe_callB (cr_sortSI (K := K)) (by rfl) B.sorted bt_sorted (pa_cons (pv 4) pa_nil)) pa_nil))))))), ?_⟩
    refine ⟨_, rfl, x, C, dx, _, _, rfl, hx, T1.cl, T1.nC, lk_ch, tc, ws, rfl, .inr (SqT.of htc), (ws.length : Int), rfl, RgOk.of_le (by omega) (by omega) (by omega) (by omega), fun M nM => ?_⟩
    rw [← lws, nums_rg]
    have s1 : Same H (upd H M (.lst ((nums cs.length).map V.int))) := Same.new nM
    have hM : (upd H M (.lst ((nums cs.length).map V.int))) M = some (.lst ((nums cs.length).map V.int)) := upd_same
    obtain ⟨H1, e1⟩ : ∃ H1, H1 = upd H M (.lst ((nums cs.length).map V.int)) := ⟨_, rfl⟩
    rw [← e1] at s1 hM ⊢
    refine ⟨_, rfl, _, rfl, _, rfl, C, x, s, t, n, cs, st, tg, hC, rfl, NA.same s1, G, s1 _ _ hs, ls, s1 _ _ ht, lt, fun L1 k1 H2 s2 nL1 hL1 p1 => ?_⟩
    have s02 := s1.trans s2
    refine ⟨_, rfl, _, rfl, _, rfl, _, rfl, C, x, s, t, M, n, cs, st, tg, nums cs.length, hC, rfl, NA.same s02, G, s02 _ _ hs, ls, s02 _ _ ht, lt, s2 _ _ hM, fun k hk => nums_mem hk, by rw [nums_len]; omega, fun L2 k2 H3 s3 nL2 hL2 p2 => ?_⟩
    have l1 := p1.length
    have l2 := p2.length
    have l3 := stageObs_len cs st tg n
    have l4 := chanObs_len cs st tg (nums cs.length)
    rw [nums_len] at l4
    refine ⟨L1, L2, _, _, rfl, rfl, s3 _ _ hL1, hL2, line_of (by omega), fun L3 nL3 => ?_⟩
    have s4 : Same H3 (upd H3 L3 (.lst (k1 ++ k2))) := Same.new nL3
    have s04 := s02.trans (s3.trans s4)
    have p3 : Paired (ObA (upd H3 L3 (.lst (k1 ++ k2)))) (stageObs cs st tg n ++ (nums cs.length).flatMap (chanOb cs st tg)) (k1 ++ k2) := obs_same (pr_app (obs_same p1 s3) p2) s4
    dsimp only [gName]
    refine seq_mid (fun σ H5 => ∃ (L : Addr) (ks : List V) (U : List Obj_), σ = [some (.ref x), some (.ref s), some (.ref t), some (.ref M), some (.ref L)] ∧ Same H H5 ∧ H5 L = some (.lst ks) ∧ Paired (ObA H5) U ks ∧ AllOb cs st tg n ring U) (fun N hN => ?_) ?_
    · refine ⟨_, rfl, x, dx, _, rfl, s04 _ _ hx, fld4_none (by decide +kernel) (by decide +kernel) (by decide +kernel) (by decide +kernel), x, rfl, _, rfl, ?_⟩
      cases ring with
      | false => exact iteF (hN _ _ ⟨L3, _, _, rfl, s04, upd_same, p3, .inl ⟨rfl, rfl⟩⟩)
      | true =>
        refine iteT ⟨_, rfl, _, rfl, _, rfl, s, t, n, st, tg, rfl, s04 _ _ hs, ls, G.n1, n40, s04 _ _ ht, lt, fun lo hi L4 k4 H5 b1 b2 s5 nL4 hL4 p4 => ?_⟩
        have l5 := p4.length
        rw [List.length_append] at l5
        have l6 := obsP_len "above" (fun c => decide (hi < c)) tg n
        have l7 := obsP_len "below" (fun c => decide (c < lo)) tg n
        refine ⟨L3, L4, _, _, rfl, rfl, s5 _ _ upd_same, hL4, line_of (by rw [List.length_append]; omega), fun L5 nL5 => ?_⟩
        have s6 : Same H5 (upd H5 L5 (.lst (k1 ++ k2 ++ k4))) := Same.new nL5
        exact hN _ _ ⟨L5, _, _, rfl, s04.trans (s5.trans s6), upd_same, obs_same (pr_app (obs_same p3 s5) p4) s6, .inr ⟨rfl, lo, hi, b1, b2, rfl⟩⟩
    rintro σ H5 ⟨L, ks, U, rfl, s05, hL, pU, hU⟩
    obtain ⟨kf, hkf⟩ := ob_key H5
    refine ⟨_, rfl, L, ks, kf, rfl, SqL.of hL, fun v hv => ?_, fun ys p hperm hpw np => ⟨p, ys, rfl, SqL.of upd_same, fun T H6 s7 nT hT => ?_⟩⟩
    · obtain ⟨i, hi⟩ := List.mem_iff_getElem?.mp hv
      obtain ⟨c, hc, hcv⟩ := pr_at pU hi
      have ek := hkf c v hcv
      obtain ⟨t1, rfl, ht1⟩ := hcv
      exact ⟨t1, rfl, by rw [ek]; exact ht1⟩
    obtain ⟨os, hos, po⟩ := pr_perm hperm pU
    have s6 : Same H5 (upd H5 p (.lst ys)) := Same.new np
    have s67 := s6.trans s7
    refine q T ys os U H6 (s05.trans s67) (s05.free (s6.free nT)) hT (obs_same po s67) hU hos ?_
    rw [List.pairwise_iff_getElem]
    intro i j hi hj hij
    obtain ⟨v1, g1, f1⟩ := pr_to po (i := i) (a := os[i]) (by simp [hi])
    obtain ⟨v2, g2, f2⟩ := pr_to po (i := j) (a := os[j]) (by simp [hj])
    obtain ⟨x1, x2⟩ := List.getElem?_eq_some_iff.mp g1
    obtain ⟨x3, x4⟩ := List.getElem?_eq_some_iff.mp g2
    have z := (List.pairwise_iff_getElem.mp hpw) i j x1 x3 hij
    rw [x2, x4, hkf os[i] _ f1, hkf os[j] _ f2] at z
    exact z
theorem ok_objections_f {f CX CP CR : Addr} {fd : FuncData} (F : Fun K "objections" "objections" s_objections f fd) (g_check_state : DefR P w K mg base "check_state" 3 (spS K [CP, CR] CX 0 resState)) (g_all_objections : DefR P w K mg base "all_objections" 6 (spAllOF CP CR)) :
    FnOk P w K mg base (L2.CX P w) 7 f fd ["net", "start", "target"] (spO2 K CP CR CX resObsF) := by
  refine F.okX sc_objections (fun vs H Q E h => ?_) (fun cdv A outer s H vs Q E hr h => ?_)
  · obtain ⟨C, x, v1, v2, ring, n, cs, _, rfl, _⟩ := h
    rfl
  · obtain ⟨C, x, v1, v2, ring, n, cs, hK, rfl, NA, G, c1, c2, k1, k2, k3⟩ := h
    -- slots: 0 net, 1 start, 2 target
    refine ⟨_, (pss_cons (ps_expr (pe_cd g_check_state hr psE (pa_cons (pv 0) (pa_cons (pv 1) pa_nil))))
      (pss_cons (ps_expr (pe_cd g_check_state hr psE (pa_cons (pv 0) (pa_cons (pv 2) pa_nil))))
      (pss_one (ps_ret (pe_cd g_all_objections hr psE (pa_cons (pv 0) (pa_cons (pv 1) (pa_cons (pv 2) pa_nil)))))))), ?_⟩
    refine ⟨_, rfl, _, rfl, C, x, v1, n, cs, [], hK.mem, rfl, rfl, NA, G, c1, fun st ha hk H2 s2 => ?_, k2⟩
    refine ⟨_, rfl, _, rfl, C, x, v2, n, cs, [], hK.mem, rfl, rfl, NA.same s2, G, c2.same s2, fun tg hb hl H3 s3 => ?_, fun p b => (k3 st p ha hk (bad_back c2 s2 b)).on s2⟩
    have hb0 := st_back c2 s2 hb
    have s03 := s2.trans s3
    have r := k1 st tg ha hk hb0 hl
    obtain ⟨t1, rfl, h1⟩ := ha.same s03
    obtain ⟨t2, rfl, h2⟩ := hb0.same s03
    exact ⟨_, rfl, _, rfl, _, rfl, C, x, t1, t2, ring, n, cs, st, tg, hK, rfl, NA.same s03, G, h1, hk.1, h2, hl.1, fun T ks os U H4 s4 nT hT po hU pm so => r T ks os U H4 (s03.trans s4) (s03.free nT) hT po hU pm so⟩
end
theorem ob_one (p q : Obj_) : PyData.eqv (obD q) (obD p) = decide (q = p) := by
  rw [Bool.eq_iff_iff, decide_eq_true_eq]
  obtain ⟨a, b⟩ := q
  obtain ⟨c, d⟩ := p
  unfold obD
  simp only [PyData.eqv, PyData.eqvAll, Bool.and_true, Bool.and_eq_true, Prod.mk.injEq]
  constructor
  · rintro ⟨h1, h2⟩
    exact ⟨by simpa using h1, by simpa using h2⟩
  · rintro ⟨h1, h2⟩
    exact ⟨by simpa using h1, by simpa using h2⟩
theorem ob_cnt (p : Obj_) (os : List Obj_) : ((os.map obD).countP fun z => PyData.eqv z (obD p)) = os.countP fun q => decide (q = p) := by
  rw [List.countP_map]
  refine List.countP_congr fun q _ => ?_
  show PyData.eqv (obD q) (obD p) = true ↔ _
  rw [ob_one]
theorem cnt_no {w : Str} {k : Int} {os : List Obj_} (h : ∀ q ∈ os, q.1 ≠ w) : (os.countP fun q => decide (q = (w, k))) = 0 := by
  rw [List.countP_eq_zero]
  intro q hq
  rw [decide_eq_true_iff]
  intro e
  exact h q hq (by rw [e])
theorem cnt_obs (w : Str) (p : Int → Bool) (tg : List Int) (k : Nat) : ∀ n : Nat, ((obsP w p tg n).countP fun q => decide (q = (w, (k : Int)))) = if k < n ∧ p (gi tg k) = true then 1 else 0
  | 0 => by rw [if_neg (by omega)]; rfl
  | n + 1 => by
    rw [obsP_succ, List.countP_append, cnt_obs w p tg k n]
    by_cases e : n = k
    · subst e
      rw [if_neg (by omega)]
      by_cases f : p (gi tg n) = true
      · rw [if_pos f, if_pos ⟨by omega, f⟩]; simp
      · rw [if_neg f, if_neg (fun z => f z.2)]; rfl
    · have z : ((if p (gi tg n) = true then [((w, (n : Int)) : Obj_)] else []).countP fun q => decide (q = (w, (k : Int)))) = 0 := by
        rw [List.countP_eq_zero]
        intro q hq
        split at hq
        · rw [List.mem_singleton.mp hq, decide_eq_true_iff]
          intro y
          have := congrArg Prod.snd y
          dsimp only at this
          omega
        · cases hq
      rw [z]
      by_cases f : k < n ∧ p (gi tg k) = true
      · rw [if_pos f, if_pos ⟨by omega, f.2⟩]
      · rw [if_neg f, if_neg (fun y => f ⟨by omega, y.2⟩)]
theorem words14 {cs : List Tri} {st tg : List Int} {n : Nat} : (∀ q ∈ stageObs cs st tg n, q.1 = "source" ∨ q.1 = "sink") ∧ ∀ q ∈ (nums cs.length).flatMap (chanOb cs st tg), q.1 = "jammed" ∨ q.1 = "orphan" := by
  constructor
  · intro p hp
    unfold stageObs at hp
    obtain ⟨k, _, hk⟩ := List.mem_flatMap.mp hp
    unfold stageOb at hk
    rcases List.mem_append.mp hk with z | z
    · rw [mem_if z]; exact .inl rfl
    · rw [mem_if z]; exact .inr rfl
  · intro p hp
    obtain ⟨k, _, hk⟩ := List.mem_flatMap.mp hp
    unfold chanOb at hk
    dsimp only at hk
    split at hk
    · rcases List.mem_append.mp hk with z | z
      · rw [mem_if z]; exact .inl rfl
      · rw [mem_if z]; exact .inr rfl
    · cases hk
theorem obsP_word {w : Str} {p : Int → Bool} {tg : List Int} {n : Nat} : ∀ q ∈ obsP w p tg n, q.1 = w := fun q hq => by
  unfold obsP at hq
  obtain ⟨k, _, rfl⟩ := List.mem_map.mp hq
  rfl
theorem all_cnt {cs : List Tri} {st tg : List Int} {n k : Nat} {U : List Obj_} (h : AllOb cs st tg n true U) (hk : k < n) {lo hi : Int} (h1 : lo ∈ st ∧ ∀ y ∈ st, lo ≤ y) (h2 : hi ∈ st ∧ ∀ y ∈ st, y ≤ hi) :
    (U.countP fun q => decide (q = (("above" : Str), (k : Int)))) = (if hi < gi tg k then 1 else 0) ∧ (U.countP fun q => decide (q = (("below" : Str), (k : Int)))) = if gi tg k < lo then 1 else 0 := by
  rcases h with ⟨z, _⟩ | ⟨_, lo2, hi2, g1, g2, rfl⟩
  · cases z
  obtain rfl : lo2 = lo := Int.le_antisymm (g1.2 _ h1.1) (h1.2 _ g1.1)
  obtain rfl : hi2 = hi := Int.le_antisymm (h2.2 _ g2.1) (g2.2 _ h2.1)
  obtain ⟨w1, w2⟩ := words14 (cs := cs) (st := st) (tg := tg) (n := n)
  constructor
  · rw [List.countP_append, List.countP_append, List.countP_append, cnt_no (fun q hq => by rcases w1 q hq with e | e <;> rw [e] <;> decide +kernel), cnt_no (fun q hq => by rcases w2 q hq with e | e <;> rw [e] <;> decide +kernel), cnt_no (os := obsP "below" _ _ _) (fun q hq => by rw [obsP_word q hq]; decide +kernel), cnt_obs]
    by_cases e : hi2 < gi tg k
    · rw [if_pos e, if_pos ⟨hk, decide_eq_true e⟩]
    · rw [if_neg e, if_neg (fun z => e (of_decide_eq_true z.2))]
  · rw [List.countP_append, List.countP_append, List.countP_append, cnt_no (fun q hq => by rcases w1 q hq with e | e <;> rw [e] <;> decide +kernel), cnt_no (fun q hq => by rcases w2 q hq with e | e <;> rw [e] <;> decide +kernel), cnt_no (os := obsP "above" _ _ _) (fun q hq => by rw [obsP_word q hq]; decide +kernel), cnt_obs]
    by_cases e : gi tg k < lo2
    · rw [if_pos e, if_pos ⟨hk, decide_eq_true e⟩]
    · rw [if_neg e, if_neg (fun z => e (of_decide_eq_true z.2))]
theorem ob_plain : ∀ os : List Obj_, PyData.plainAll (os.map obD) = true
  | [] => by simp only [List.map_nil, PyData.plainAll]
  | p :: os => by
    simp only [List.map_cons, obD, PyData.plainAll, PyData.plain, ob_plain os, Bool.and_true, Bool.true_and]
def spObH (CP CR : Addr) : Sp := fun vs H Q _ => ∃ (C x s g : Addr) (r : Bool) (n : Nat) (cs : List Tri) (st tg : List Int), KC CP CR C true ∧ vs = [.ref x, .ref s, .ref g, .bl r] ∧ NetAt H x C n cs ∧ NOk n cs ∧ H s = some (.tup (fS st)) ∧ StOk n st ∧ H g = some (.tup (fS tg)) ∧ StOk n tg ∧ (NoAll n cs true st tg ↔ r = true) ∧ ∀ H2, Same H H2 → Q (.bl true) H2
section
variable {P : Program} {w : World} {K : PySem.W.Frag} {mg : Str → Option Value} {base : Heap}
theorem ok_obH {f CX CP CR : Addr} {fd : FuncData} (F : Fun K "_law_objections_hold" "_law_objections_hold" s_law_objections_hold f fd) (B : Blt mg) (g_objections : DefR P w K mg base "objections" 7 (spO2 K CP CR CX resObsF)) : FnOk P w K mg base (L2.CX P w) 8 f fd ["_law_network", "_law_start", "_law_goal", "_law_is_reached"] (spObH CP CR) := by
  refine F.okX sc_law_objections_hold (fun vs H Q E h => ?_) (fun cdv A outer s H vs Q E hr h => ?_)
  · obtain ⟨C, x, s, g, r, n, cs, st, tg, _, rfl, _⟩ := h
    rfl
  · obtain ⟨C, x, s0, g, r, n, cs, st, tg, hK, rfl, NA, G, hs, so, hg, go, hrr, q⟩ := h
    have n40 := G.n40
    have n1 := G.n1
    have lst := so.1
    have ltg := go.1
    -- slots: 0 _law_network, 1 _law_start, 2 _law_goal, 3 _law_is_reached, 4 _law_told, 5 _law_stage
    refine ⟨_, (pss_cons (ps_set (i := 4) sc_law_objections_hold.nd rfl (Or.inl rfl) (pe_cd g_objections hr psE (pa_cons (pv 0) (pa_cons (pv 1) (pa_cons (pv 2) pa_nil)))))
      (pss_cons (ps_if (PW.pt (pw_or (pt_not (pt_val (pe_callB call_isi (by rfl) B.isi bt_isi (pa_cons (pv 4) (pa_cons (pe_bltn (v := .ty "tuple") (by rfl) B.tuple bt_tuple rfl) pa_nil))))) (pw_or1 (pt_cmpR op_ne (pe_cmpR op_eq (pe_callB call_len_seq (by rfl) B.len bt_len (pa_cons (pv 4) pa_nil)) pe_int (nomark _)) (pv 3) (nomark _))))) (pss_one (ps_ret pe_bl)) pss_nil)
      (pss_cons (ps_for (passes_of rfl) rfl (pi_range1 (by rfl) B.range (pa_cons (pe_callB call_len_seq (by rfl) B.len bt_len (pa_cons (pv 1) pa_nil)) pa_nil)) (pg_name (i := 5) sc_law_objections_hold.nd rfl (Or.inl rfl))
        (pss_cons (ps_if (pt_cmpR op_ne (pe_bmT PySem.F.slot_tuple_count PySem.F.type_tuple_count (mt_tcountD (un65 hr)) (pv 4) (pa_cons (pe_tup (pa_cons pe_str (pa_cons (pv 5) pa_nil))) pa_nil)) (pe_callTy (T := "int") call_int1 (by rfl) B.int bt_int (pa_cons (pe_cmpR op_gt (pe_ix ix_tup (pv 2) (pv 5) (fun _ _ => rfl)) (pe_callB (cr_maxT rfl (un65 hr)) (by rfl) B.max bt_max (pa_cons (pv 1) pa_nil)) (nomark _)) pa_nil)) (nomark _)) (pss_one (ps_ret pe_bl)) pss_nil)
      (pss_one (ps_if (pt_cmpR op_ne (pe_bmT PySem.F.slot_tuple_count PySem.F.type_tuple_count (mt_tcountD (un65 hr)) (pv 4) (pa_cons (pe_tup (pa_cons pe_str (pa_cons (pv 5) pa_nil))) pa_nil)) (pe_callTy (T := "int") call_int1 (by rfl) B.int bt_int (pa_cons (pe_cmpR op_lt (pe_ix ix_tup (pv 2) (pv 5) (fun _ _ => rfl)) (pe_callB (cr_minT rfl (un65 hr)) (by rfl) B.min bt_min (pa_cons (pv 1) pa_nil)) (nomark _)) pa_nil)) (nomark _)) (pss_one (ps_ret pe_bl)) pss_nil))))
      (pss_one (ps_ret pe_bl))))), ?_⟩
    refine ⟨_, rfl, _, rfl, _, rfl, C, x, .ref s0, .ref g, true, n, cs, hK, rfl, NA, G, st_cand9 hs so n40, st_cand9 hg go n40, fun st2 tg2 a1 a2 a3 a4 => ?_, fun p b => st_good9 hs so b, fun st2 p _ _ b => st_good9 hg go b⟩
    obtain rfl := st_same9 hs a1
    obtain rfl := st_same9 hg a3
    intro T ks os U H2 s2 nT hT po hU pm _
    have lk := po.length
    have lu := pm.length_eq
    have eo : decide (ks.length = 0) = r := by
      rw [Bool.eq_iff_iff, decide_eq_true_iff, ← hrr, ← noAll_iff hU]
      constructor
      · intro e; exact List.length_eq_zero_iff.mp (by omega)
      · intro e; have e := congrArg List.length e; rw [List.length_nil] at e; omega
    refine ⟨_, rfl, _, _, _, _, _, rfl, .ty _, .fTuple hT.choose_spec.1, kit_ty (r := true) (by decide +kernel), _, rfl, iteF ?_⟩
    have eo2 : decide (V.int ((ks.length : Nat) : Int) = V.int 0) = r := by
      rw [← eo, decide_eq_decide]
      exact ⟨fun z => by have := V.int.inj z; omega, fun z => by rw [z]; rfl⟩
    refine ⟨_, rfl, T, _, rfl, .inr hT.sq, rfl, _, rfl, rfl, _, rfl, ?_⟩
    rw [eo2, show (!decide (V.bl r = V.bl r)) = false by simp]
    refine iteF ⟨_, rfl, s0, _, rfl, .inr (SqT.of (s2 _ _ hs)), (n : Int), (by show [V.int ((fS st2).length : Nat)] = _; unfold fS; rw [List.length_map, lst]), by omega, by omega, for_it walk_range (fun i σ H5 => ∃ v5, σ = [some (.ref x), some (.ref s0), some (.ref g), some (.bl r), some (.ref T), v5] ∧ Same H2 H5) ⟨_, rfl, Same.refl H2⟩ (fun _ _ _ _ _ => trivial) ?_ ?_⟩
    · rintro i y σ H4 H5 hil ⟨v5, rfl, s5⟩ ⟨rfl, e3⟩
      have hi : i < n := hil
      have z0 : (0 : Int) + (i : Nat) = (i : Nat) := by omega
      have e3 : y = .int ((i : Nat) : Int) := by
        rw [← z0]
        exact e3
      subst e3
      have mn : ∃ lo, lo ∈ st2 ∧ ∀ y ∈ st2, lo ≤ y := by
        rcases hU with ⟨z, _⟩ | ⟨_, lo, hi, h1, _⟩
        · cases z
        · exact ⟨lo, h1⟩
      have mx : ∃ hi, hi ∈ st2 ∧ ∀ y ∈ st2, y ≤ hi := by
        rcases hU with ⟨z, _⟩ | ⟨_, lo, hi, _, h1, _⟩
        · cases z
        · exact ⟨hi, h1⟩
      dsimp only [gName]
      refine ⟨_, rfl, ⟨T, ks, rfl, hT.same s5⟩, _, rfl, by show 2 ≤ sizeLine; decide, fun Ta nT => ?_⟩
      have sa : Same H2 (upd H5 Ta (.tup [.str "above", .int (i : Nat)])) := s5.trans (Same.new nT)
      refine ⟨T, _, obD (("above" : Str), (i : Int)), os.map obD, rfl, rfl, .tup (hT.same sa).sq (ob_dp (obs_same po sa)), .tup (SqT.of upd_same) (.cons (.str _) (.cons (.int _) .nil)), ob_plain os, rfl, by show _ ≤ _; simp only [obD, PyData.depth, PyData.depthAll]; omega, ?_⟩
      have has := s2.trans sa
      refine ⟨_, rfl, _, rfl, g, _, _, _, rfl, rfl, SqT.of (has _ _ hg), at9 (by omega) (by omega), _, rfl, s0, st2, rfl, SqT.of (has _ _ hs), by omega, fun m m1 m2 => ⟨_, _, rfl, rfl, .inr ⟨_, rfl, rfl, _, rfl, ?_⟩⟩⟩
      rw [ob_cnt, pm.countP_eq, (all_cnt hU hi mn.choose_spec ⟨m1, m2⟩).1]
      rw [show (!decide (V.int (((if m < gi tg2 i then 1 else 0 : Nat) : Nat) : Int) = V.int (if decide (m < gi tg2 i) = true then 1 else 0))) = false by by_cases e : m < gi tg2 i <;> simp [e]]
      refine iteF ?_
      refine ⟨_, rfl, ⟨T, ks, rfl, hT.same sa⟩, _, rfl, by show 2 ≤ sizeLine; decide, fun Tb nT => ?_⟩
      have sb : Same H2 (upd (upd H5 Ta (.tup [.str "above", .int (i : Nat)])) Tb (.tup [.str "below", .int (i : Nat)])) := sa.trans (Same.new nT)
      refine ⟨T, _, obD (("below" : Str), (i : Int)), os.map obD, rfl, rfl, .tup (hT.same sb).sq (ob_dp (obs_same po sb)), .tup (SqT.of upd_same) (.cons (.str _) (.cons (.int _) .nil)), ob_plain os, rfl, by show _ ≤ _; simp only [obD, PyData.depth, PyData.depthAll]; omega, ?_⟩
      have hbs := s2.trans sb
      refine ⟨_, rfl, _, rfl, g, _, _, _, rfl, rfl, SqT.of (hbs _ _ hg), at9 (by omega) (by omega), _, rfl, s0, st2, rfl, SqT.of (hbs _ _ hs), by omega, fun m m1 m2 => ⟨_, _, rfl, rfl, .inr ⟨_, rfl, rfl, _, rfl, ?_⟩⟩⟩
      rw [ob_cnt, pm.countP_eq, (all_cnt hU hi ⟨m1, m2⟩ mx.choose_spec).2]
      rw [show (!decide (V.int (((if gi tg2 i < m then 1 else 0 : Nat) : Nat) : Int) = V.int (if decide (gi tg2 i < m) = true then 1 else 0))) = false by by_cases e : gi tg2 i < m <;> simp [e]]
      exact iteF ⟨_, rfl, sb⟩
    · rintro σ H5 ⟨v5, rfl, s5⟩
      exact q H5 (s2.trans s5)
end
end WC

set_option maxHeartbeats 8000000
namespace WC
open PySem PySem.Spec PyProof.Rows L2
def mvD (m : Mv9) : PyData := .tuple [.int m.1, .str (wMv m)]
theorem wMv_ok (m : Mv9) : PyData.strOk (wMv m) = true := by
  unfold wMv
  split <;> decide +kernel
theorem mvD_refl (m : Mv9) : PyData.eqv (mvD m) (mvD m) = true := by
  unfold mvD
  simp only [PyData.eqv, PyData.eqvAll, Bool.and_true, Bool.and_eq_true]
  exact ⟨by simp, by simp⟩
theorem mvD_shaped (m : Mv9) : SeqAt.shaped (mvD m) = true := by
  have := wMv_ok m
  unfold SeqAt.shaped mvD
  rw [Bool.and_eq_true, decide_eq_true_iff]
  refine ⟨by simp only [PyData.canLay0, PyData.canLayAll0, this, Bool.and_true, Bool.true_and], ?_⟩
  simp only [PyData.depth, PyData.depthAll]
  omega
theorem tupB {H H2 : Hp} {b t : Addr} {xs : List V} (s : SameB b H H2) (hb : ∃ us, H b = some (.lst us)) (h : H t = some (.tup xs)) : H2 t = some (.tup xs) := s _ _ h (ne_of h hb.choose_spec (by intro z; cases z))
theorem mvL_dp {K : PySem.W.Frag} {H : Hp} : ∀ {os : List Mv9} {ks : List V}, Paired (MvA H) os ks → DpAll K H ks (os.map mvD)
  | _, _, .nil => .nil
  | _, _, .cons ⟨t, e, h⟩ r => by
    subst e
    exact .cons (.tup (SqT.of h) (.cons (.int _) (.cons (.str _) .nil))) (mvL_dp r)
theorem mvL_lay : ∀ os : List Mv9, PyData.canLayAll0 (os.map mvD) = true
  | [] => by simp only [List.map_nil, PyData.canLayAll0]
  | o :: os => by simp only [List.map_cons, mvD, PyData.canLayAll0, PyData.canLay0, wMv_ok o, mvL_lay os, Bool.and_true, Bool.true_and]
theorem mvL_dep : ∀ os : List Mv9, PyData.depthAll (os.map mvD) ≤ 3
  | [] => by simp only [List.map_nil, PyData.depthAll]; omega
  | o :: os => by
    have := mvL_dep os
    simp only [List.map_cons, mvD, PyData.depthAll, PyData.depth]
    omega
theorem mvL_shaped (os : List Mv9) : SeqAt.shaped (.list (os.map mvD)) = true := by
  unfold SeqAt.shaped
  rw [Bool.and_eq_true, decide_eq_true_iff]
  refine ⟨by simp only [PyData.canLay0]; exact mvL_lay os, ?_⟩
  have := mvL_dep os
  simp only [PyData.depth]
  omega
theorem mvL_any {m : Mv9} {os : List Mv9} (h : m ∈ os) : ((os.map mvD).any fun z => PyData.eqv z (mvD m)) = true := by
  rw [List.any_eq_true]
  exact ⟨mvD m, List.mem_map.mpr ⟨m, h, rfl⟩, mvD_refl m⟩
theorem movesM_in {n : Nat} {m : Mv9} (h0 : 0 ≤ m.1) (h1 : m.1 < n) : m ∈ movesM n := by
  obtain ⟨s, up⟩ := m
  dsimp only at h0 h1
  obtain ⟨k, rfl⟩ : ∃ k : Nat, s = k := ⟨s.toNat, by omega⟩
  unfold movesM
  refine List.mem_flatMap.mpr ⟨k, List.mem_range.mpr (by omega), ?_⟩
  cases up <;> simp
theorem mvD_eq (m p : Mv9) : PyData.eqv (mvD m) (mvD p) = decide (m = p) := by
  rw [Bool.eq_iff_iff, decide_eq_true_iff]
  constructor
  · intro h
    unfold mvD at h
    simp only [PyData.eqv, PyData.eqvAll, Bool.and_true, Bool.and_eq_true] at h
    obtain ⟨h1, h2⟩ := h
    have h1 : m.1 = p.1 := by simpa using h1
    have h2 : wMv m = wMv p := by simpa using h2
    refine Prod.ext h1 ?_
    unfold wMv at h2
    obtain ⟨a, b⟩ := m
    obtain ⟨c, d⟩ := p
    cases b <;> cases d <;> first | rfl | (exact absurd h2 (show ¬ (("advance" : Str) = "rollback") by decide +kernel)) | (exact absurd h2 (show ¬ (("rollback" : Str) = "advance") by decide +kernel))
  · rintro rfl
    exact mvD_refl _
/-- a run of the least length -/
theorem run_ex {n : Nat} {cs : List Tri} {ring : Bool} {a b : List Int} (ok : ∀ c ∈ cs, ChOk n c) (so : StOk n a) (lb : b.length = n) (n1 : 1 ≤ n) (lv : Live n cs ring) (N : NoAll n cs ring a b) : ∃ ms, RunR cs a ms b ∧ (ms.length : Int) = distM a b n := by
  have nn := distM_nn a b n
  have go : ∀ k : Nat, (k : Int) ≤ distM a b n → ∃ ms, PartOf n cs ring a b ms ∧ ms.length = k := fun k => by
    induction k with
    | zero => exact fun _ => ⟨[], PartOf.nil so N, rfl⟩
    | succ k ih =>
      intro h
      obtain ⟨ms, p, l⟩ := ih (by omega)
      obtain ⟨m, _, _, _, p2⟩ := p.next ok lb n1 lv (by omega)
      exact ⟨_, p2, by rw [List.length_append, l]; rfl⟩
  obtain ⟨ms, p, l⟩ := go (distM a b n).toNat (by omega)
  refine ⟨ms, ?_, by omega⟩
  have z : distM (runF a ms) b n = 0 := by rw [p.far]; omega
  have e : runF a ms = b := gi_ext (by rw [p.so.1, lb]) fun k hk => distM_eq n z k (by rw [p.so.1] at hk; exact hk)
  have r := p.run
  rw [e] at r
  exact r
theorem RunR.pth {n : Nat} {cs : List Tri} {a b : List Int} {ms : List Mv9} (ok : ∀ c ∈ cs, ChOk n c) (r : RunR cs a ms b) : Pth (nextM n cs) a ms.length b := by
  induction r with
  | nil => exact .nil
  | snoc r e ih =>
    rw [List.length_append]
    exact .snoc ih ((nextM_mem ok).mpr ⟨_, e, rfl⟩)
theorem Pth.runR {n : Nat} {cs : List Tri} {a b : List Int} {k : Nat} (ok : ∀ c ∈ cs, ChOk n c) (r : Pth (nextM n cs) a k b) : ∃ ms : List Mv9, ms.length = k ∧ RunR cs a ms b := ((pth_rn ok).mp r).runR
/-- the least way's length is the distance -/
theorem least_dist {n : Nat} {cs : List Tri} {ring : Bool} {a b : List Int} (ok : ∀ c ∈ cs, ChOk n c) (so : StOk n a) (lb : b.length = n) (n1 : 1 ≤ n) (lv : Live n cs ring) (N : NoAll n cs ring a b) : LeastG (nextM n cs) a (distM a b n).toNat b := by
  have nn := distM_nn a b n
  obtain ⟨ms, r, l⟩ := run_ex ok so lb n1 lv N
  have p := r.pth ok
  rw [show ms.length = (distM a b n).toNat by omega] at p
  refine ⟨p, fun j hj q => ?_⟩
  obtain ⟨ms2, l2, r2⟩ := q.runR ok
  have := (r2.dist ok so).1
  omega
theorem FarG.due {N n lev : Nat} {base : Int} {cs : List Tri} {ring : Bool} {a b : List Int} {far : List Int → Option Int} (F : FarG N (nextM n cs) a far) (ok : ∀ c ∈ cs, ChOk n c) (n1 : 1 ≤ n) (lv : Live n cs ring) (ha : InW n lev base a) (hb : InW n lev base b) (sa : StOk n a) (hN : (n : Int) * ((lev : Int) - 1) ≤ N) :
    (NoAll n cs ring a b → far b = some (distM a b n)) ∧ (¬ NoAll n cs ring a b → far b = none) := by
  have nn := distM_nn a b n
  constructor
  · intro no
    have dl := ha.dist hb n (Nat.le_refl _)
    have z := F.least (least_dist ok sa hb.1 n1 lv no) (by omega)
    rw [show (((distM a b n).toNat : Nat) : Int) = distM a b n by omega] at z
    exact z
  · intro no
    cases hf : far b with
    | none => rfl
    | some v =>
      obtain ⟨k, rfl, _, l1, _⟩ := F.val b v hf
      obtain ⟨ms, _, r⟩ := l1.runR ok
      exact absurd (noAll_of_lat (r.lat ok sa) ok sa n1) no
/-- and seen from the target, along the roads turned round -/
theorem FarG.left {N n lev : Nat} {base : Int} {cs : List Tri} {ring : Bool} {g y : List Int} {left : List Int → Option Int} (F : FarG N (backM (nextM n cs) (winM lev base n)) g left) (ok : ∀ c ∈ cs, ChOk n c) (n1 : 1 ≤ n) (lv : Live n cs ring) (hg : InW n lev base g) (hy : InW n lev base y) (sy : StOk n y) (hN : (n : Int) * ((lev : Int) - 1) ≤ N) :
    (NoAll n cs ring y g → left y = some (distM y g n)) ∧ (¬ NoAll n cs ring y g → left y = none) := by
  have nn := distM_nn y g n
  have cl : ∀ x ∈ winM lev base n, ∀ z ∈ nextM n cs x, z ∈ winM lev base n := fun x hx z hz => by
    obtain ⟨m, e, rfl⟩ := (nextM_mem ok).mp hz
    exact winM_mem.mpr ((winM_mem.mp hx).step ok e).1
  have bcl : ∀ x ∈ winM lev base n, ∀ z ∈ backM (nextM n cs) (winM lev base n) x, z ∈ winM lev base n := fun x _ z hz => (backM_mem.mp hz).1
  have fw : ∀ {k : Nat}, Pth (nextM n cs) y k g → Pth (backM (nextM n cs) (winM lev base n)) g k y := fun r => r.rev (winM_mem.mpr hy) cl fun a ha b _ e => backM_mem.mpr ⟨ha, e⟩
  have bw : ∀ {x : List Int} {k : Nat}, Pth (backM (nextM n cs) (winM lev base n)) g k x → Pth (nextM n cs) x k g := fun {x k} r => r.rev (winM_mem.mpr hg) bcl fun a _ b _ e => (backM_mem.mp e).2
  constructor
  · intro no
    have dl := hy.dist hg n (Nat.le_refl _)
    obtain ⟨l1, l2⟩ := least_dist ok sy hg.1 n1 lv no
    have z := F.least ⟨fw l1, fun j hj r => l2 j hj (bw r)⟩ (by omega)
    rw [show (((distM y g n).toNat : Nat) : Int) = distM y g n by omega] at z
    exact z
  · intro no
    cases hf : left y with
    | none => rfl
    | some v =>
      obtain ⟨k, rfl, _, l1, _⟩ := F.val y v hf
      obtain ⟨ms, _, r⟩ := (bw l1).runR ok
      exact absurd (noAll_of_lat (r.lat ok sy) ok sy n1) no
/-! the smallest first move -/
theorem twM_pw (a b : List Int) : ∀ n : Nat, (twM a b n).Pairwise fun p q => p.1 < q.1
  | 0 => .nil
  | n + 1 => by
    rw [twM_succ, List.pairwise_append]
    refine ⟨twM_pw a b n, ?_, fun p hp q hq => ?_⟩
    · unfold twK
      split
      · exact List.pairwise_singleton _ _
      · split
        · exact List.pairwise_singleton _ _
        · exact .nil
    · have h1 := (twM_mem hp).2.1
      have h2 : q.1 = n := by
        unfold twK at hq
        split at hq
        · rw [List.mem_singleton.mp hq]
        · split at hq
          · rw [List.mem_singleton.mp hq]
          · cases hq
      omega
theorem movesM_pw : ∀ n : Nat, (movesM n).Pairwise fun p q => p.1 ≤ q.1 ∧ p ≠ q
  | 0 => .nil
  | n + 1 => by
    rw [movesM_succ, List.append_assoc, List.pairwise_append]
    refine ⟨movesM_pw n, ?_, fun p hp q hq => ?_⟩
    · refine .cons (fun q hq => ?_) (List.pairwise_singleton _ _)
      rw [List.mem_singleton.mp hq]
      exact ⟨Int.le_refl _, by intro z; cases z⟩
    · have h1 := (movesM_rng hp).2
      have h2 : q.1 = n := by
        simp only [List.singleton_append, List.mem_cons, List.not_mem_nil, or_false] at hq
        rcases hq with e | e <;> rw [e]
      exact ⟨by omega, fun e => by rw [e] at h1; omega⟩
theorem distM_off {a b : List Int} {m : Mv9} {n : Nat} (m0 : 0 ≤ m.1) (m1 : m.1 < n) (la : a.length = n) (h : distM (stp9 a m) b n = distM a b n - 1) : if m.2 = true then gi a m.1 < gi b m.1 else gi b m.1 < gi a m.1 := by
  refine Classical.byContradiction fun no => ?_
  obtain ⟨k, ek⟩ : ∃ k : Nat, m.1 = k := ⟨m.1.toNat, by omega⟩
  obtain ⟨s, up⟩ := m
  dsimp only at ek m0 m1 no
  subst ek
  have ge : ∀ j : Nat, distM a b j ≤ distM (stp9 a ((k : Int), up)) b j := fun j => by
    induction j with
    | zero => exact Int.le_refl _
    | succ j ih =>
      have st := gi_stp (ns := a) (m := ((k : Int), up)) (k := (j : Int)) m0 (by show (k : Int) < a.length; omega) (by omega)
      rw [distM_succ, distM_succ, st]
      by_cases e : (j : Int) = k
      · dsimp only
        rw [if_pos e]
        rw [e]
        cases up
        · rw [if_neg (by decide)] at no
          simp only [Bool.false_eq_true, if_false]
          split <;> split <;> omega
        · rw [if_pos rfl] at no
          simp only [if_true]
          split <;> split <;> omega
      · dsimp only
        rw [if_neg e]
        omega
  have := ge n
  omega
theorem no_smaller {n : Nat} {cs : List Tri} {ring : Bool} {x g : List Int} {m m2 : Mv9} {i j : Nat} (ok : ∀ c ∈ cs, ChOk n c) (lx : x.length = n) (lg : g.length = n) (n1 : 1 ≤ n) (rg : ring = true → RgOk n cs) (N : NoAll n cs ring x g) (hx : nxM n cs x g = some m) (hj : (movesM n)[j]? = some m) (hi : (movesM n)[i]? = some m2) (ij : i < j) (al : alw9 cs x m2 = true) (N2 : NoAll n cs ring (stp9 x m2) g) (hd : distM (stp9 x m2) g n = distM x g n - 1) : False := by
  obtain ⟨m0, m1⟩ := movesM_rng (List.mem_of_getElem? hi)
  have tw := distM_off m0 m1 lx hd
  have hb : begB cs x g m2 = true := by
    rw [begB_iff ok lx lg n1 rg N m0 m1 tw, al, Bool.true_and]
    exact (okB_iff (by rw [stp9_len]; exact lx) n1).mpr N2
  obtain ⟨k, ek⟩ : ∃ k : Nat, m2.1 = k := ⟨m2.1.toNat, by omega⟩
  have mem : m2 ∈ twM x g n := by
    have z := twM_in (n := n) (k := k) (up := m2.2) (by rw [← ek]; exact tw) (by omega)
    rw [← ek] at z
    exact z
  unfold nxM at hx
  obtain ⟨_, a, ha, ea, no⟩ := List.find?_eq_some_iff_getElem.mp hx
  obtain ⟨b, hb2, eb⟩ := List.mem_iff_getElem.mp mem
  have tm := (twM_mem (List.mem_of_find?_eq_some hx)).2.2
  have pm := List.pairwise_iff_getElem.mp (movesM_pw n)
  obtain ⟨hi1, hi2⟩ := List.getElem?_eq_some_iff.mp hi
  obtain ⟨hj1, hj2⟩ := List.getElem?_eq_some_iff.mp hj
  obtain ⟨q1, q2⟩ := pm i j hi1 hj1 ij
  rw [hi2, hj2] at q1 q2
  have ab : ¬ b < a := fun z => by
    have y := no b z
    rw [eb, hb] at y
    cases y
  rcases Nat.lt_or_ge a b with z | z
  · have y := (List.pairwise_iff_getElem.mp (twM_pw x g n)) a b ha hb2 z
    rw [ea, eb] at y
    omega
  · obtain rfl : a = b := by omega
    rw [ea] at eb
    exact q2 eb.symm
end WC

set_option maxHeartbeats 8000000
namespace WC
open PySem PySem.Spec PyProof.Rows L2
theorem FarAt.same {H H2 : Hp} {D : Addr} {far : List Int → Option Int} (h : FarAt H D far) (s : Same H H2) : FarAt H2 D far := by
  obtain ⟨ks, h1, h2⟩ := h
  exact ⟨ks, s _ _ h1, h2⟩
def spSm : Sp := fun vs H Q _ => ∃ (cl D h mv : Addr) (n : Nat) (cs : List Tri) (ks : List V) (left : List Int → Option Int) (x : List Int) (m : Mv9) (d : Int), vs = [.ref cl, .ref D, .ref h, .ref mv] ∧ H cl = some (.lst ks) ∧ Paired (TA f3 H) cs ks ∧ cs.length ≤ 40 ∧ (∀ c ∈ cs, ChOk n c) ∧ FarAt H D left ∧ left x = some d ∧ H h = some (.tup (fS x)) ∧ x.length = n ∧ n ≤ 40 ∧ H mv = some (.tup (fM m)) ∧
  (∀ (i : Nat) (m2 : Mv9), (movesM n)[i]? = some m2 → (∀ j : Nat, j ≤ i → (movesM n)[j]? ≠ some m) → alw9 cs x m2 = true → (left (stp9 x m2)).getD (-1) ≠ d - 1) ∧ ∀ H2, Same H H2 → Q (.bl false) H2
section
variable {P : Program} {w : World} {K : PySem.W.Frag} {mg : Str → Option Value} {base : Heap}
theorem ok_smaller {f : Addr} {fd : FuncData} (F : Fun K "_law_is_smaller_first" "_law_is_smaller_first" s_law_is_smaller_first f fd) (B : Blt mg) (g_law_moves : DefR P w K mg base "_law_moves" 1 spMoves9) (g_law_is_allowed : DefR P w K mg base "_law_is_allowed" 1 spAllow9) (g_law_after : DefR P w K mg base "_law_after" 1 spAfter9) : FnOk P w K mg base (L2.CX P w) 2 f fd ["_law_channels", "_law_left", "_law_here", "_law_move"] spSm := by
  refine F.okX sc_law_is_smaller_first (fun vs H Q E h => ?_) (fun cdv A outer s H vs Q E hr h => ?_)
  · obtain ⟨cl, D, h0, mv, n, cs, ks, left, x, m, d, rfl, _⟩ := h
    rfl
  · obtain ⟨cl, D, h0, mv, n, cs, ks, left, x, m, d, rfl, hcl, pcl, l40, ok, fa, lx0, hh, lx, n40, hmv, hyp, q⟩ := h
    have hu := hu_of hr
    -- slots: 0 _law_channels, 1 _law_left, 2 _law_here, 3 _law_move, 4 _law_smaller
    refine ⟨_, (pss_cons (ps_for (passes_of rfl) rfl (pi_list (pe_cd g_law_moves hr psE (pa_cons (pe_callB call_len_seq (by rfl) B.len bt_len (pa_cons (pv 2) pa_nil)) pa_nil))) (pg_name (i := 4) sc_law_is_smaller_first.nd rfl (Or.inl rfl))
        (pss_cons (ps_if (pt_cmpR (op_eqD (unR hr)) (pv 4) (pv 3) (nomark _)) (pss_one (ps_ret pe_bl)) pss_nil)
      (pss_one (ps_if (pt_val (pe_cd g_law_is_allowed hr psE (pa_cons (pv 0) (pa_cons (pv 2) (pa_cons (pv 4) pa_nil))))) (pss_one (ps_if (pt_cmpR op_eq (pe_dget2 hu (pv 1) (pe_cd g_law_after hr psE (pa_cons (pv 2) (pa_cons (pv 4) pa_nil))) (pe_un un_neg pe_int) ⟨rfl, by rfl, rfl, rfl⟩) (pe_op op_sub (pe_dget hu (pv 1) (pv 2) (fun _ _ => rfl)) pe_int) (nomark _)) (pss_one (ps_ret pe_bl)) pss_nil)) pss_nil))))
      (pss_one (ps_ret pe_bl))), ?_⟩
    refine ⟨_, rfl, h0, _, rfl, .inr (SqT.of hh), n, (by show [V.int ((fS x).length : Nat)] = _; unfold fS; rw [List.length_map, lx]), n40, fun Z kz H1 s1 nZ hZ pz => ?_⟩
    refine ⟨Z, rfl, ⟨_, SqL.of hZ⟩, for_it (walk_list (xs := kz)) (fun i σ H5 => ∃ v4, σ = [some (.ref cl), some (.ref D), some (.ref h0), some (.ref mv), v4] ∧ Same H1 H5 ∧ ∀ j, j < i → (movesM n)[j]? ≠ some m) ⟨_, rfl, Same.refl H1, fun j hj => absurd hj (Nat.not_lt_zero j)⟩ (fun j H7 _ _ z => ?_) ?_ ?_⟩
    · obtain ⟨_, _, z, _⟩ := z
      exact SqL.of (z _ _ hZ)
    · rintro i y σ H4 H5 hi ⟨v4, rfl, s5, no⟩ ⟨rfl, e1⟩
      obtain ⟨m2, qm, T2, rfl, hT2⟩ := pr_at pz e1
      obtain ⟨m0, m1⟩ := movesM_rng (List.mem_of_getElem? qm)
      have s05 := s1.trans s5
      have hT5 : H5 T2 = some (.tup (fM m2)) := s5 _ _ hT2
      dsimp only [gName]
      refine ⟨_, rfl, _, rfl, mvD m2, mvD m, .tup (SqT.of hT5) (.cons (.int _) (.cons (.str _) .nil)), .tup (SqT.of (s05 _ _ hmv)) (.cons (.int _) (.cons (.str _) .nil)), mvD_shaped m2, mvD_shaped m, ?_⟩
      rw [mvD_eq]
      refine ⟨_, rfl, ite2 (fun e => q H5 s05) (fun e => ?_)⟩
      have e : m2 ≠ m := of_decide_eq_false (Bool.eq_false_iff.mpr e)
      have no2 : ∀ j, j ≤ i → (movesM n)[j]? ≠ some m := fun j hj => by
        by_cases ej : j = i
        · rw [ej, qm]
          exact fun z => e (Option.some.inj z)
        · exact no j (by omega)
      refine ⟨_, rfl, _, rfl, _, rfl, cl, h0, T2, cs, ks, x, m2, rfl, s05 _ _ hcl, ta_same pcl s05, l40, s05 _ _ hh, fun c hc => ?_, ⟨T2, rfl, hT5⟩, fun H6 s6 => ⟨_, rfl, ite2 (fun al => ?_) (fun _ => ⟨_, rfl, s5.trans s6, fun j hj => no2 j (by omega)⟩)⟩⟩
      · obtain ⟨g1, g2, _⟩ := ok c hc
        omega
      have s06 := s05.trans s6
      refine ⟨_, rfl, D, rfl, .inr ⟨_, .inl (fa.same s06).choose_spec.1⟩, _, rfl, _, rfl, h0, T2, x, m2, rfl, s06 _ _ hh, ⟨T2, rfl, s6 _ _ hT5⟩, m0, by omega, by omega, fun p H7 s7 hp => ?_⟩
      have s07 := s06.trans s7
      refine ⟨_, rfl, _, (fa.same s07).get hp, ?_⟩
      rw [show (Option.map V.int (left (stp9 x m2))).getD (.int (-1)) = .int ((left (stp9 x m2)).getD (-1)) by cases left (stp9 x m2) <;> rfl]
      have dg := (fa.same s07).get (s07 _ _ hh)
      rw [lx0] at dg
      refine ⟨_, rfl, _, rfl, D, .int d, rfl, dg, _, _, rfl, rfl, rfl, _, rfl, ?_⟩
      rw [show decide (V.int ((left (stp9 x m2)).getD (-1)) = V.int (d - 1)) = false from decide_eq_false fun z => hyp i m2 qm no2 al (V.int.inj z)]
      exact iteF ⟨_, rfl, (s5.trans s6).trans s7, fun j hj => no2 j (by omega)⟩
    · rintro σ H5 ⟨v4, rfl, s5, no⟩
      exact q H5 (s1.trans s5)
end
end WC

set_option maxHeartbeats 8000000
namespace WC
open PySem PySem.Spec PyProof.Rows L2
def stD (p : List Int) : PyData := .tuple (p.map .int)
theorem stD_dp {K : PySem.W.Frag} {H : Hp} : ∀ p : List Int, DpAll K H (fS p) (p.map .int)
  | [] => .nil
  | x :: p => .cons (.int x) (stD_dp p)
theorem stD_lay : ∀ p : List Int, PyData.canLayAll0 (p.map .int) = true
  | [] => by simp only [List.map_nil, PyData.canLayAll0]
  | x :: p => by simp only [List.map_cons, PyData.canLayAll0, PyData.canLay0, stD_lay p, Bool.and_true]
theorem stD_dep : ∀ p : List Int, PyData.depthAll (p.map .int) ≤ 1
  | [] => by simp only [List.map_nil, PyData.depthAll]; omega
  | x :: p => by
    have := stD_dep p
    simp only [List.map_cons, PyData.depthAll, PyData.depth]
    omega
theorem stD_shaped (p : List Int) : SeqAt.shaped (stD p) = true := by
  unfold SeqAt.shaped stD
  rw [Bool.and_eq_true, decide_eq_true_iff]
  refine ⟨by simp only [PyData.canLay0]; exact stD_lay p, ?_⟩
  have := stD_dep p
  simp only [PyData.depth]
  omega
theorem stD_eqv : ∀ p q : List Int, PyData.eqvAll (p.map .int) (q.map .int) = decide (p = q)
  | [], [] => by simp only [List.map_nil, PyData.eqvAll]; rfl
  | [], y :: q => by simp only [List.map_nil, List.map_cons, PyData.eqvAll]; rfl
  | x :: p, [] => by simp only [List.map_nil, List.map_cons, PyData.eqvAll]; rfl
  | x :: p, y :: q => by
    simp only [List.map_cons, PyData.eqvAll, PyData.eqv, stD_eqv p q]
    by_cases e : x = y
    · by_cases f : p = q
      · simp [e, f]
      · simp [e, f]
    · simp [e]
theorem stD_eq (p q : List Int) : PyData.eqv (stD p) (stD q) = decide (p = q) := by
  unfold stD
  simp only [PyData.eqv]
  exact stD_eqv p q
structure RefE (K : PySem.W.Frag) (mg : Str → Option Value) (CU : Addr) : Prop where
  gU : mg "Unreachable" = some (.ref CU)
  uU : PySem.W.exmOne K (.ref CU) (.ref CU) = some true
  uc : ExcC K CU
  uf : XfC K CU
  obj : PySem.W.findIn K (.ref CU) "objection" = some none
theorem RunR.inW {n : Nat} {lev base : Int} {cs : List Tri} {a b : List Int} {ms : List Mv9} (ok : ∀ c ∈ cs, ChOk n c) (h : InW n lev base a) (r : RunR cs a ms b) : InW n lev base b := by
  induction r with
  | nil => exact h
  | snoc _ e ih => exact (ih.step ok e).1
theorem PartOf.take {n : Nat} {cs : List Tri} {ring : Bool} {a b : List Int} {ms : List Mv9} (h : PartOf n cs ring a b ms) (ok : ∀ c ∈ cs, ChOk n c) (so : StOk n a) (N : NoAll n cs ring a b) (lb : b.length = n) (n1 : 1 ≤ n) (lv : Live n cs ring) : ∀ k : Nat, k ≤ ms.length → PartOf n cs ring a b (ms.take k) ∧ ∀ m, ms[k]? = some m → 0 ≤ m.1 ∧ m.1 < n
  | 0, _ => by
    have nn := distM_nn (runF a ms) b n
    have fr := h.far
    refine ⟨PartOf.nil so N, fun m hm => ?_⟩
    have l0 := (List.getElem?_eq_some_iff.mp hm).1
    obtain ⟨m2, e, m0, m1, _⟩ := (PartOf.nil (n := n) (cs := cs) (ring := ring) so N).next ok lb n1 lv (by show (0 : Int) < _; omega)
    have e2 := h.plan 0 m hm
    rw [List.take_zero] at e2
    rw [e] at e2
    rw [← Option.some.inj e2]
    exact ⟨m0, m1⟩
  | k + 1, hk => by
    have nn := distM_nn (runF a ms) b n
    have fr := h.far
    obtain ⟨ih, g⟩ := h.take ok so N lb n1 lv k (by omega)
    have qk : ms[k]? = some ms[k] := List.getElem?_eq_getElem (by omega)
    have lt : (ms.take k).length = k := by rw [List.length_take]; omega
    obtain ⟨m, e, m0, m1, p2⟩ := ih.next ok lb n1 lv (by rw [lt]; omega)
    have e2 := h.plan k _ qk
    rw [e] at e2
    have em := Option.some.inj e2
    have pt : ms.take (k + 1) = ms.take k ++ [m] := by rw [take_snoc qk, em]
    rw [pt]
    refine ⟨p2, fun m3 hm => ?_⟩
    have l0 := (List.getElem?_eq_some_iff.mp hm).1
    have lt2 : (ms.take k ++ [m]).length = k + 1 := by rw [List.length_append, lt]; rfl
    obtain ⟨m4, e4, m40, m41, _⟩ := p2.next ok lb n1 lv (by rw [lt2]; omega)
    have e5 := h.plan (k + 1) m3 hm
    rw [pt, e4] at e5
    rw [← Option.some.inj e5]
    exact ⟨m40, m41⟩
def spPlH (CP CR : Addr) : Sp := fun vs H Q _ => ∃ (C x cl D s g : Addr) (due : Int) (n lev : Nat) (base : Int) (cs : List Tri) (ks : List V) (left : List Int → Option Int) (st tg : List Int), KC CP CR C true ∧ vs = [.ref x, .ref cl, .ref D, .ref s, .ref g, .int due] ∧ NetAt H x C n cs ∧ NOk n cs ∧ Live n cs true ∧ H cl = some (.lst ks) ∧ Paired (TA f3 H) cs ks ∧ cs.length ≤ 40 ∧ FarAt H D left ∧ H s = some (.tup (fS st)) ∧ StOk n st ∧ InW n lev base st ∧ H g = some (.tup (fS tg)) ∧ StOk n tg ∧
  (∀ y, InW n lev base y → StOk n y → (NoAll n cs true y tg → left y = some (distM y tg n)) ∧ (¬ NoAll n cs true y tg → left y = none)) ∧ (NoAll n cs true st tg → due = distM st tg n) ∧ (¬ NoAll n cs true st tg → due = -1) ∧ distM st tg n ≤ 1000 ∧ ∀ H2, Same H H2 → Q (.bl true) H2
section
variable {P : Program} {w : World} {K : PySem.W.Frag} {mg : Str → Option Value} {base : Heap}
theorem ok_plH {f CU CX CT CP CR : Addr} {fd : FuncData} (F : Fun K "_law_plan_holds" "_law_plan_holds" s_law_plan_holds f fd) (B : Blt mg) (T : RefE K mg CU) (g_plan : DefR P w K mg base "plan" 10 (spO2L K CP CR CX (resPlan CU CT))) (g_law_is_integer : DefQ P w K mg base "_law_is_integer" 1 (spIsI K)) (g_law_moves : DefR P w K mg base "_law_moves" 1 spMoves9) (g_law_is_allowed : DefR P w K mg base "_law_is_allowed" 1 spAllow9) (g_law_after : DefR P w K mg base "_law_after" 1 spAfter9) (g_law_is_smaller_first : DefR P w K mg base "_law_is_smaller_first" 2 spSm) (g_is_plan : DefR P w K mg base "is_plan" 9 (spPlan9 CP CR)) : FnOk P w K mg base (L2.CX P w) 11 f fd ["_law_network", "_law_channels", "_law_left", "_law_start", "_law_goal", "_law_due"] (spPlH CP CR) := by
  refine F.okX sc_law_plan_holds (fun vs H Q E h => ?_) (fun cdv A outer s H vs Q E hr h => ?_)
  · obtain ⟨C, x, cl, D, s, g, due, n, lev, bs, cs, ks, left, st, tg, _, rfl, _⟩ := h
    rfl
  · obtain ⟨C, x, cl, D, s0, g, due, n, lev, bs, cs, kc, left, st, tg, hK, rfl, NA, G, lv, hcl, pcl, l40, fa, hst, so, iw, hg, go, HL, due1, due2, l1000, q⟩ := h
    have hu := hu_of hr
    have hrq := L2H.roomH_of hr
    have n40 := G.n40
    have n1 := G.n1
    have okc := G.ok
    have nn := distM_nn st tg n
    -- slots: 0 _law_network, 1 _law_channels, 2 _law_left, 3 _law_start, 4 _law_goal, 5 _law_due, 6 _law_row, 7 _law_raised, 8 _law_here, 9 _law_k, 10 _law_move, 11 _law_other
    refine ⟨_, (pss_cons (ps_try_as (i := 7) (c := .ref CU) rfl rfl sc_law_plan_holds.nd rfl rfl ⟨rfl, by decide, Or.inl T.gU⟩ (takes_of rfl rfl rfl rfl)
        (fun W pn xe tk _ => pss_one (ps_set (i := 6) sc_law_plan_holds.nd rfl (Or.inl rfl) (pe_cdS (W := W) g_plan (by exact hr) tk (pa_cons (pv 0) (pa_cons (pv 3) (pa_cons (pv 4) pa_nil))))))
        (fun a oe cls d pn hz hf => pss_one (ps_ret (pe_and (pe_cmpR op_lt (pv 5) pe_int (nomark _)) (pe_one (pe_callB (c_isi (K := K)) (by rfl) B.isi bt_isi (pa_cons (pe_xf T.uf T.obj hz hf (pv 7)) (pa_cons (pe_bltn (v := .ty "tuple") (by rfl) B.tuple bt_tuple rfl) pa_nil))))))))
      (pss_cons (ps_if (PW.pt (pw_or (pt_cmpR op_lt (pv 5) pe_int (nomark _)) (pw_or (pt_not (pt_val (pe_callB call_isi (by rfl) B.isi bt_isi (pa_cons (pv 6) (pa_cons (pe_bltn (v := .ty "tuple") (by rfl) B.tuple bt_tuple rfl) pa_nil))))) (pw_or1 (pt_cmpR op_ne (pe_callB call_len_seq (by rfl) B.len bt_len (pa_cons (pv 6) pa_nil)) (pv 5) (nomark _)))))) (pss_one (ps_ret pe_bl)) pss_nil)
      (pss_cons (ps_set (i := 8) sc_law_plan_holds.nd rfl (Or.inl rfl) (pv 3))
      (pss_cons (ps_for (passes_of rfl) rfl (pi_range1 (by rfl) B.range (pa_cons (pv 5) pa_nil)) (pg_name (i := 9) sc_law_plan_holds.nd rfl (Or.inl rfl))
        (pss_cons (ps_set (i := 10) sc_law_plan_holds.nd rfl (Or.inl rfl) (pe_ix ix_tup (pv 6) (pv 9) (fun _ _ => rfl)))
      (pss_cons (ps_if (PW.pt (pw_or (pt_not (pt_val (pe_callB call_isi (by rfl) B.isi bt_isi (pa_cons (pv 10) (pa_cons (pe_bltn (v := .ty "tuple") (by rfl) B.tuple bt_tuple rfl) pa_nil))))) (pw_or (pt_cmpR op_ne (pe_callB call_len_seq (by rfl) B.len bt_len (pa_cons (pv 10) pa_nil)) pe_int (nomark _)) (pw_or1 (pt_not (pt_val (pe_cq g_law_is_integer hrq (pa_cons (pe_ix ix_tup (pv 10) pe_int (fun _ _ => rfl)) pa_nil)))))))) (pss_one (ps_ret pe_bl)) pss_nil)
      (pss_cons (ps_if (PW.pt (pw_or (pt_cmpR (op_notInD (un65 hr)) (pv 10) (pe_cd g_law_moves hr psE (pa_cons (pe_callB call_len_seq (by rfl) B.len bt_len (pa_cons (pv 8) pa_nil)) pa_nil)) (by rfl)) (pw_or1 (pt_not (pt_val (pe_cd g_law_is_allowed hr psE (pa_cons (pv 1) (pa_cons (pv 8) (pa_cons (pv 10) pa_nil))))))))) (pss_one (ps_ret pe_bl)) pss_nil)
      (pss_cons (ps_set (i := 11) sc_law_plan_holds.nd rfl (Or.inl rfl) (pe_cd g_law_after hr psE (pa_cons (pv 8) (pa_cons (pv 10) pa_nil))))
      (pss_cons (ps_if (PW.pt (pw_or (pt_cmpR op_ne (pe_dget2 hu (pv 2) (pv 11) (pe_un un_neg pe_int) ⟨rfl, by rfl, rfl, rfl⟩) (pe_op op_sub (pe_op op_sub (pv 5) (pv 9)) pe_int) (nomark _)) (pw_or1 (pt_val (pe_cd g_law_is_smaller_first hr psE (pa_cons (pv 1) (pa_cons (pv 2) (pa_cons (pv 8) (pa_cons (pv 10) pa_nil))))))))) (pss_one (ps_ret pe_bl)) pss_nil)
      (pss_one (ps_set (i := 8) sc_law_plan_holds.nd rfl (Or.inl rfl) (pv 11)))))))))
      (pss_one (ps_ret (pe_and (pe_cmpR (op_eqD (unR hr)) (pv 8) (pv 4) (nomark _)) (pe_one (pe_cmpR op_is_bl (pe_cd g_is_plan hr psE (pa_cons (pv 0) (pa_cons (pv 3) (pa_cons (pv 4) (pa_cons (pv 6) pa_nil))))) pe_bl (nomark _)))))))))), ?_⟩
    refine ⟨_, rfl, _, rfl, _, rfl, C, x, .ref s0, .ref g, true, n, cs, hK, rfl, NA, G, lv, st_cand9 hst so n40, st_cand9 hg go n40, fun st2 tg2 b1 b2 b3 b4 => ?_, fun p b => st_good9 hst so b, fun st2 p _ _ b => st_good9 hg go b⟩
    obtain rfl := st_same9 hst b1
    obtain rfl := st_same9 hg b3
    refine ⟨fun U hU e0 le Tr ks ms H2 s2 hT pk pp lm => ?_, fun U hU e0 gt => absurd l1000 (by omega), fun U os o hU pm _ h0 H2 r dd s2 hr2 hd2 => ?_⟩
    rotate_left
    · have no : ¬ NoAll n cs true st2 tg2 := fun N => by
        rw [(noAll_iff hU).mpr N] at pm
        rw [List.length_eq_zero_iff.mp pm.length_eq] at h0
        cases h0
      have e1 := due2 no
      refine ⟨true, T.uU, fun _ a ha => ?_, fun z => by cases z⟩
      obtain ⟨to, rfl, hto⟩ := hr2
      refine ⟨_, rfl, _, _, rfl, rfl, _, rfl, ?_⟩
      rw [show decide (due < 0) = true from decide_eq_true (by omega)]
      exact iteT ⟨_, rfl, rfl, rfl, dd, _, _, rfl, hd2, rfl, _, _, _, _, _, rfl, .ty _, .base (.tup hto), kit_ty (r := true) (by decide +kernel), q H2 s2⟩
    have N := (noAll_iff hU).mp e0
    have e1 := due1 N
    have lk := pk.length
    refine ⟨_, rfl, _, _, rfl, rfl, _, rfl, ?_⟩
    rw [show decide (due < 0) = false from decide_eq_false (by omega)]
    refine iteF ⟨_, rfl, _, _, _, _, _, rfl, .ty _, .base (.tup hT), kit_ty (r := true) (by decide +kernel), _, rfl, iteF ?_⟩
    refine ⟨_, rfl, Tr, _, rfl, .inr (SqT.of hT), _, rfl, rfl, _, rfl, ?_⟩
    rw [show (!decide (V.int (ks.length : Nat) = V.int due)) = false by rw [show ((ks.length : Nat) : Int) = due by omega]; simp]
    refine iteF ?_
    refine ⟨_, rfl, _, rfl, due, rfl, by omega, by omega, for_it walk_range (fun i σ H5 => ∃ th v7 v9 v10 v11, σ = [some (.ref x), some (.ref cl), some (.ref D), some (.ref s0), some (.ref g), some (.int due), some (.ref Tr), v7, some (.ref th), v9, v10, v11] ∧ Same H2 H5 ∧ H5 th = some (.tup (fS (runF st2 (ms.take i))))) ⟨s0, _, _, _, _, rfl, Same.refl H2, s2 _ _ hst⟩ (fun _ _ _ _ _ => trivial) ?_ ?_⟩
    · rintro i y σ H4 H5 hil ⟨th, v7, v9, v10, v11, rfl, s5, hth⟩ ⟨rfl, e3⟩
      have hi : i < due.toNat := hil
      have z0 : (0 : Int) + (i : Nat) = (i : Nat) := by omega
      have e3 : y = .int ((i : Nat) : Int) := by
        rw [← z0]
        exact e3
      subst e3
      have him : i < ms.length := by omega
      have hik : i < ks.length := by omega
      obtain ⟨p1, pg⟩ := pp.take okc b2 N b4.1 n1 lv i (by omega)
      obtain ⟨p2, _⟩ := pp.take okc b2 N b4.1 n1 lv (i + 1) (by omega)
      have qk : ks[i]? = some ks[i] := List.getElem?_eq_getElem hik
      obtain ⟨m, qm, hm⟩ := pr_at pk qk
      generalize ks[i] = y at qk hm
      obtain ⟨tm, rfl, htm⟩ := hm
      have htm : H2 tm = some (.tup (fM m)) := htm
      obtain ⟨m0, m1⟩ := pg m qm
      have ak : atI ks ((i : Nat) : Int) = some (.ref tm) := atI_nat (j := i) qk
      have s25 := s2.trans s5
      have al := pp.run.at.2 i m qm
      have lx := p1.so.1
      have hT5 := s5 _ _ hT
      have htm5 := s5 _ _ htm
      have er : stp9 (runF st2 (ms.take i)) m = runF st2 (ms.take (i + 1)) := by rw [take_snoc qm, runF_snoc]
      have lt1 : (ms.take i).length = i := by rw [List.length_take]; omega
      have lt2 : (ms.take (i + 1)).length = i + 1 := by rw [List.length_take]; omega
      have iwx := p1.run.inW okc iw
      have lfx := (HL _ iwx p1.so).1 p1.no
      have lfy := (HL _ (p2.run.inW okc iw) p2.so).1 p2.no
      rw [p1.far, lt1] at lfx
      rw [p2.far, lt2] at lfy
      dsimp only [gName]
      refine ⟨_, rfl, _, rfl, Tr, _, _, _, rfl, rfl, SqT.of hT5, ak, ?_⟩
      refine ⟨_, rfl, _, _, _, _, _, rfl, .ty _, .base (.tup htm5), kit_ty (r := true) (by decide +kernel), _, rfl, iteF ?_⟩
      refine ⟨_, rfl, tm, _, rfl, .inr (SqT.of htm5), rfl, _, rfl, iteF ?_⟩
      have w0 : atI (fM m) (0 : Int) = some (.int m.1) := atI_nat (j := 0) rfl
      refine ⟨_, rfl, tm, _, _, _, rfl, rfl, SqT.of htm5, w0, .int m.1, rfl, trivial, _, rfl, iteF ?_⟩
      refine ⟨_, rfl, _, rfl, th, _, rfl, .inr (SqT.of hth), n, (by show [V.int ((fS (runF st2 (ms.take i))).length : Nat)] = _; unfold fS; rw [List.length_map, lx]), n40, fun Z kz H6 s6 nZ hZ pz => ?_⟩
      have s26 := s25.trans s6
      refine ⟨mvD m, (movesM n).map mvD, .tup (SqT.of (s6 _ _ htm5)) (.cons (.int _) (.cons (.str _) .nil)), .lst (SqL.of hZ) (mvL_dp pz), mvD_shaped m, mvL_shaped _, ?_⟩
      rw [mvL_any (movesM_in m0 m1)]
      refine ⟨_, rfl, iteF ?_⟩
      refine ⟨_, rfl, _, rfl, _, rfl, cl, th, tm, cs, kc, runF st2 (ms.take i), m, rfl, s26 _ _ hcl, ta_same pcl s26, l40, s6 _ _ hth, fun c hc => ?_, ⟨tm, rfl, s6 _ _ htm5⟩, fun H7 s7 => ?_⟩
      · obtain ⟨g1, g2, _⟩ := okc c hc
        omega
      have s27 := s26.trans s7
      have s67 := s6.trans s7
      rw [al]
      refine ⟨_, rfl, iteF ?_⟩
      refine ⟨_, rfl, _, rfl, th, tm, runF st2 (ms.take i), m, rfl, s67 _ _ hth, ⟨tm, rfl, s67 _ _ htm5⟩, m0, by omega, by omega, fun p H8 s8 hp => ?_⟩
      have s28 := s27.trans s8
      have s58 := s67.trans s8
      rw [er] at hp
      have hp : H8 p = some (.tup (fS (runF st2 (ms.take (i + 1))))) := hp
      have fa8 := fa.same s28
      refine ⟨_, rfl, D, rfl, .inr ⟨_, .inl fa8.choose_spec.1⟩, _, rfl, _, rfl, _, fa8.get hp, ?_⟩
      rw [lfy]
      refine ⟨_, rfl, _, rfl, _, _, rfl, rfl, _, _, rfl, rfl, rfl, _, rfl, ?_⟩
      rw [show (!decide ((Option.map V.int (some (distM st2 tg2 n - ((i + 1 : Nat) : Int)))).getD (.int (-1)) = V.int (due - ((i : Nat) : Int) - 1))) = false by
        show (!decide (V.int (distM st2 tg2 n - ((i + 1 : Nat) : Int)) = V.int (due - ((i : Nat) : Int) - 1))) = false
        rw [show distM st2 tg2 n - ((i + 1 : Nat) : Int) = due - ((i : Nat) : Int) - 1 by omega]; simp]
      refine iteF ⟨_, rfl, _, rfl, _, rfl, _, rfl, cl, D, th, tm, n, cs, kc, left, runF st2 (ms.take i), m, _, rfl, s28 _ _ hcl, ta_same pcl s28, l40, okc, fa8, lfx, s58 _ _ hth, lx, n40, s58 _ _ htm5, fun i2 m2 q2 no2 al2 => ?_, fun H9 s9 => ?_⟩
      · obtain ⟨o2, _, _⟩ := stp9_ok okc p1.so al2
        obtain ⟨h1, h2⟩ := HL _ (iwx.step okc al2).1 o2
        by_cases N2 : NoAll n cs true (stp9 (runF st2 (ms.take i)) m2) tg2
        · rw [h1 N2]
          show distM _ tg2 n ≠ _
          intro hd
          have pl := pp.plan i m qm
          obtain ⟨j, hj⟩ := List.mem_iff_getElem?.mp (movesM_in (n := n) m0 m1)
          have ij : i2 < j := Nat.not_le.mp fun z => no2 j z hj
          exact no_smaller okc lx b4.1 n1 (fun e => (lv.1 e).1) p1.no pl hj q2 ij al2 N2 (by rw [hd, p1.far, lt1])
        · rw [h2 N2]
          show (-1 : Int) ≠ _
          omega
      · exact ⟨_, rfl, iteF ⟨_, rfl, _, _, _, _, _, rfl, s5.trans (s58.trans s9), s9 _ _ hp⟩⟩
    · rintro σ H5 ⟨th, v7, v9, v10, v11, rfl, s5, hth⟩
      have s25 := s2.trans s5
      rw [List.take_of_length_le (by omega)] at hth
      have ex : runF st2 ms = tg2 := by
        have fr := pp.far
        have z0 : distM (runF st2 ms) tg2 n = 0 := by omega
        have lx := pp.so.1
        have ly := b4.1
        exact gi_ext (by omega) fun k hk => distM_eq n z0 k (by omega)
      have run := pp.run
      rw [ex] at hth run
      refine ⟨_, rfl, _, rfl, stD tg2, stD tg2, .tup (SqT.of hth) (stD_dp _), .tup (SqT.of (s25 _ _ hg)) (stD_dp _), stD_shaped _, stD_shaped _, ?_⟩
      rw [stD_eq, decide_eq_true rfl]
      refine ⟨_, rfl, iteT ?_⟩
      refine ⟨_, rfl, _, rfl, _, rfl, _, rfl, C, x, s0, g, Tr, true, n, cs, st2, tg2, ks, ms, hK, rfl, NA.same s25, G, s25 _ _ hst, b2, s25 _ _ hg, b4, run.lat okc b2, s5 _ _ hT, Paired.mapP (mvr_same s5 pk) fun _ _ ⟨t, e, h⟩ => ⟨t, e, h⟩, by omega, fun _ => run, fun H6 s6 => ?_⟩
      rw [decide_eq_true lm]
      exact ⟨_, _, rfl, rfl, q H6 (s25.trans s6)⟩
end
end WC

set_option maxHeartbeats 8000000
namespace WC
open PySem PySem.Spec PyProof.Rows L2
def spStarts14 : Sp := fun vs H Q _ => ∃ (b L R Z : Addr) (cells : List Int) (nx : List Int → List (List Int)) (xs : List (List Int)) (kz : List V), vs = [.ref b, .ref R, .ref Z] ∧ BoxL H b L cells ∧ RoadsG H R nx xs ∧ H Z = some (.lst kz) ∧ Paired (TA fS H) xs kz ∧ Z ≠ b ∧ 1 ≤ xs.length ∧ xs.length ≤ 1000 ∧ (30 ≤ xs.length → ∃ x ∈ xs, nx x ≠ []) ∧
  ∀ (S : Addr) ks ss H2, SameB b H H2 → BoxL H2 b L cells → S ≠ b → H2 S = some (.lst ks) → Paired (TA fS H2) ss ks → (∀ x ∈ ss, x ∈ xs) → 1 ≤ ss.length → ss.length ≤ 1000 → Q (.ref S) H2
theorem pick14 {b : Addr} {ws : List (List Int)} {kw : List V} {H5 H6 : Hp} {r : Int} (pw : Paired (TA fS H5) ws kw) (s : SameB b H5 H6) (hb : ∃ us, H5 b = some (.lst us)) (r0 : 0 ≤ r) (r1 : r < kw.length) : ∃ T p, atI kw r = some (.ref T) ∧ p ∈ ws ∧ H6 T = some (.tup (fS p)) := by
  obtain ⟨k, rfl⟩ : ∃ k : Nat, r = k := ⟨r.toNat, by omega⟩
  have hk : k < kw.length := by omega
  obtain ⟨p, qp, T, eT, hT⟩ := pr_at (ta_onB pw s hb) (List.getElem?_eq_getElem hk)
  exact ⟨T, p, atI_nat (by rw [List.getElem?_eq_getElem hk, eT]), List.mem_of_getElem? qp, hT⟩
section
variable {P : Program} {w : World} {K : PySem.W.Frag} {mg : Str → Option Value} {base : Heap}
theorem ok_starts14 {f : Addr} {fd : FuncData} (F : Fun K "_law_starts" "_law_starts" s_law_starts f fd) (B : Blt mg) (g_law_take : DefR P w K mg base "_law_take" 1 spTake) : FnOk P w K mg base (L2.CX P w) 2 f fd ["_law_box_here", "_law_roads_here", "_law_states_here"] spStarts14 := by
  refine F.okX sc_law_starts (fun vs H Q E h => ?_) (fun cdv A outer s H vs Q E hr h => ?_)
  · obtain ⟨b, L, R, Z, cells, nx, xs, kz, rfl, _⟩ := h
    rfl
  · obtain ⟨b, L, R, Z, cells, nx, xs, kz, rfl, hbx, ⟨g, hR, hg⟩, hZ, pz, Zb, lx1, lx, alive, q⟩ := h
    have hu := hu_of hr
    have lkz := pz.length
    -- slots: 0 _law_box_here, 1 _law_roads_here*, 2 _law_states_here, 3 _law_lively, 4 _law_point, 5 _law_starts_here, 6 _law_turn
    refine ⟨_, (pss_cons (ps_if (pt_cmpR op_lt (pe_callB call_len_seq (by rfl) B.len bt_len (pa_cons (pv 2) pa_nil)) pe_int (nomark _)) (pss_one (ps_ret (pv 2))) pss_nil)
      (pss_cons (ps_setLc (i := 3) (own := [("_law_point", 4)]) rfl sc_law_starts.nd rfl rfl (sw_true rfl rfl rfl (by decide +kernel)) (pi_list (pv 2)) (blkOk_by (N := nn_law_starts) (sc := defScope s_law_starts) (own := [("_law_point", 4)]) (by decide +kernel)) (fun _ _ _ _ _ => (pg_name (i := 4) sc_law_starts.nd rfl (Or.inl rfl))) (fun _ _ _ _ _ => (pts_one (pt_cmpR op_gt (pe_callB (c_lenS (K := K)) (by rfl) B.len bt_len (pa_cons (pe_dget (by exact hu) (pv 1) (pv 4) (fun _ _ => rfl)) pa_nil)) pe_int (nomark _)))) (fun _ _ _ _ _ => (pv 4)))
      (pss_cons (ps_set (i := 5) sc_law_starts.nd rfl (Or.inl rfl) (pe_lst (pa_cons (pe_ix ix_list (pv 2) (pe_cd g_law_take hr psE (pa_cons (pv 0) (pa_cons (pe_callB call_len_seq (by rfl) B.len bt_len (pa_cons (pv 2) pa_nil)) pa_nil))) (fun _ _ => rfl)) pa_nil)))
      (pss_cons (ps_for (passes_of rfl) rfl (pi_range1 (by rfl) B.range (pa_cons pe_int pa_nil)) (pg_name (i := 6) sc_law_starts.nd rfl (Or.inl rfl))
        (pss_one (ps_expr (pe_bm PySem.F.plainAttrs_list PySem.F.slot_list_append PySem.F.type_list_append mt_append (pv 5) (pa_cons (pe_ix ix_list (pv 3) (pe_cd g_law_take hr psE (pa_cons (pv 0) (pa_cons (pe_callB call_len_seq (by rfl) B.len bt_len (pa_cons (pv 3) pa_nil)) pa_nil))) (fun _ _ => rfl)) pa_nil)))))
      (pss_one (ps_ret (pv 5))))))), ?_⟩
    refine ⟨_, rfl, Z, _, rfl, .inl (SqL.of hZ), _, _, rfl, rfl, _, rfl, ite2 (fun e => ⟨_, rfl, q Z kz xs H (SameB.refl b H) hbx Zb hZ pz (fun x h => h) lx1 lx⟩) (fun e => ?_)⟩
    have e30 : 30 ≤ kz.length := by
      have := of_decide_eq_false (Bool.eq_false_iff.mpr e)
      omega
    obtain ⟨xa, hxa, nxa⟩ := alive (by omega)
    refine ⟨_, rfl, Z, rfl, ⟨_, SqL.of hZ⟩, fun D nD => ?_⟩
    refine lc_it (walk_list (xs := kz)) (fun j H1 => Same H H1 ∧ ∃ js ls, H1 D = some (.lst js) ∧ Paired (TA fS H1) ls js ∧ (∀ l ∈ ls, l ∈ xs) ∧ ls.length ≤ j ∧ ((∃ p ∈ xs.take j, nx p ≠ []) → 1 ≤ ls.length)) ⟨Same.new nD, [], [], upd_same, .nil, fun l hl => (by cases hl), Nat.le_refl _, fun ⟨p, hp, _⟩ => (by cases hp)⟩ (fun j H1 _ z => SqL.of (z.1 _ _ hZ)) ?_ ?_
    · rintro j y H2 H1 hj ⟨s1, js, ls, hD, pj, lj, ll, lv⟩ ⟨rfl, e1⟩
      have hj : j < kz.length := hj
      obtain ⟨p, qp, T, rfl, hT⟩ := pr_at pz e1
      have pm := List.mem_of_getElem? qp
      obtain ⟨lo, ko, eg, hlo, po⟩ := hg p pm
      have dg : DGet H1 R (.ref T) (some (.ref lo)) := by
        have z := DGet.t (k := keyS p) (s1 _ _ hR) (by rw [keyS_V]; exact s1 _ _ hT)
        rw [ents_val, if_pos pm, eg] at z
        exact z
      have ljj := pj.length
      refine ⟨rfl, _, rfl, _, rfl, R, .ref lo, rfl, dg, lo, _, rfl, .inl (SqL.of (s1 _ _ hlo)), _, _, rfl, rfl, _, rfl, ite2 (fun _ => ?_) (fun e2 => ?_)⟩
      · refine ⟨_, rfl, js, hD, line_lt (by omega), Same.newer s1 nD, _, ls ++ [p], upd_same, ?_, ?_, ?_, fun _ => by rw [List.length_append]; show 1 ≤ _ + 1; omega⟩
        · exact pr_snoc (ta_onB pj (SameB.refl D H1).upd ⟨_, hD⟩) ⟨T, rfl, by rw [upd_ne (ne_of (s1 _ _ hT) hD (by intro z; cases z))]; exact s1 _ _ hT⟩
        · intro l hl
          rcases List.mem_append.mp hl with z | z
          · exact lj l z
          · rw [List.mem_singleton.mp z]; exact pm
        · rw [List.length_append]; show _ + 1 ≤ _; omega
      · refine ⟨s1, js, ls, hD, pj, lj, by omega, fun ⟨p2, hp2, np2⟩ => ?_⟩
        rw [take_snoc qp] at hp2
        rcases List.mem_append.mp hp2 with z | z
        · exact lv ⟨p2, z, np2⟩
        · rw [List.mem_singleton.mp z] at np2
          have k0 : ¬ (0 : Int) < (ko.length : Nat) := fun z => e2 (decide_eq_true z)
          have lpo := po.length
          exact absurd (List.length_eq_zero_iff.mp (by omega)) np2
    rintro H1 ⟨s1, js, ls, hD, pj, lj, ll, lv⟩
    have ll : ls.length ≤ kz.length := ll
    have lv := lv ⟨xa, by rw [List.take_of_length_le (by rw [lkz]; exact Nat.le_refl _)]; exact hxa, nxa⟩
    have hb1 := hbx.same s1
    have Db : D ≠ b := (ne_of_none hbx.lst.choose_spec nD).symm
    have ljj := pj.length
    have hZ1 := s1 _ _ hZ
    have pz1 := ta_same pz s1
    refine ⟨_, rfl, _, rfl, _, rfl, Z, _, rfl, .inl (SqL.of hZ1), b, L, cells, (kz.length : Int), rfl, hb1, by omega, by omega, fun r H2 r0 r1 s2 hb2 => ?_⟩
    obtain ⟨T0, p0, aT0, pm0, hT0⟩ := pick14 pz1 s2 hb1.lst r0 r1
    have hZ2 := s2 _ _ hZ1 Zb
    refine ⟨Z, _, _, _, rfl, rfl, SqL.of hZ2, aT0, by show 1 ≤ sizeLine; decide, fun S nS => ?_⟩
    have Sb : S ≠ b := (ne_of_none hb2.lst.choose_spec nS).symm
    have SL : S ≠ L := (ne_of_none hb2.lstL.choose_spec nS).symm
    obtain ⟨H3, e3⟩ : ∃ H3, H3 = upd H2 S (.lst [.ref T0]) := ⟨_, rfl⟩
    have s3 : Same H2 H3 := by rw [e3]; exact Same.new nS
    have hS3 : H3 S = some (.lst [.ref T0]) := by rw [e3, upd_same]
    rw [← e3]
    refine ⟨_, rfl, by decide, by decide, for_it walk_range (fun i σ H5 => ∃ v4 v6 ks ss, σ = [some (.ref b), some (.ref R), some (.ref Z), some (.ref D), v4, some (.ref S), v6] ∧ SameB b H2 H5 ∧ BoxL H5 b L cells ∧ H5 S = some (.lst ks) ∧ Paired (TA fS H5) ss ks ∧ (∀ x ∈ ss, x ∈ xs) ∧ ss.length = i + 1) ⟨_, _, _, [p0], rfl, SameB.of s3, hb2.same s3, hS3, .cons ⟨T0, rfl, s3 _ _ hT0⟩ .nil, fun x hx => by rw [List.mem_singleton.mp hx]; exact pm0, rfl⟩ (fun _ _ _ _ _ => trivial) ?_ ?_⟩
    · rintro i y σ H4 H5 hil ⟨v4, v6, ks, ss, rfl, s5, hb5, hS5, ps, mx, le⟩ ⟨rfl, e4⟩
      have hi : i < 4 := hil
      have lks := ps.length
      have hD5 := s5 _ _ (s2 _ _ hD Db) Db
      have pj5 := ta_onB (ta_onB pj s2 hb1.lst) s5 hb2.lst
      refine ⟨_, rfl, .inl ⟨rfl, _, SqL.of hS5⟩, _, rfl, _, rfl, _, rfl, D, _, rfl, .inl (SqL.of hD5), b, L, cells, (js.length : Int), rfl, hb5, by omega, by omega, fun r H7 r0 r1 s7 hb7 => ?_⟩
      obtain ⟨T, p, aT, pm, hT⟩ := pick14 pj5 s7 hb5.lst r0 r1
      have hS7 := s7 _ _ hS5 Sb
      refine ⟨D, _, _, _, rfl, rfl, SqL.of (s7 _ _ hD5 Db), aT, S, _, _, rfl, rfl, hS7, line_lt (by omega), ?_⟩
      refine ⟨_, _, _, ss ++ [p], rfl, (s5.trans s7).put nS, hb7.put Sb SL, upd_same, pr_snoc (ta_onB (ta_onB ps s7 hb5.lst) (SameB.refl S H7).upd ⟨_, hS7⟩) ⟨T, rfl, by rw [upd_ne (ne_of hT hS7 (by intro z; cases z))]; exact hT⟩, fun x hx => ?_, by rw [List.length_append, le]; rfl⟩
      rcases List.mem_append.mp hx with z | z
      · exact mx x z
      · rw [List.mem_singleton.mp z]; exact lj p pm
    · rintro σ H5 ⟨v4, v6, ks, ss, rfl, s5, hb5, hS5, ps, mx, le⟩
      exact ⟨_, rfl, q S ks ss H5 ((SameB.of s1).trans (s2.trans s5)) hb5 Sb hS5 ps mx (by rw [le]; show 1 ≤ 5; decide) (by rw [le]; show 5 ≤ 1000; decide)⟩
end
end WC

set_option maxHeartbeats 8000000
namespace WC
open PySem PySem.Spec PyProof.Rows L2
def spLaw (K : PySem.W.Frag) : Sp := fun vs H Q _ => ∃ (a : Addr) (ns : List Int), vs = [.ref a] ∧ SqL K H a (ns.map V.int) ∧ ns.length ≤ 63 ∧ ∀ H', Q (.bl true) H'
def sgA : Nat → Nat
  | 0 => 3
  | 1 => 3
  | 2 => 4
  | 3 => 4
  | _ => 5
def lv14 : Nat → Nat
  | 0 => 3
  | 1 => 4
  | 2 => 2
  | 3 => 3
  | _ => 2
theorem sgA_at : ∀ {e : Nat}, e < 5 → atI [V.int 3, .int 3, .int 4, .int 4, .int 5] (e : Int) = some (.int (sgA e : Nat))
  | 0, _ => rfl
  | 1, _ => rfl
  | 2, _ => rfl
  | 3, _ => rfl
  | 4, _ => rfl
theorem lv14_at : ∀ {e : Nat}, e < 5 → atI [V.int 3, .int 4, .int 2, .int 3, .int 2] (e : Int) = some (.int (lv14 e : Nat))
  | 0, _ => rfl
  | 1, _ => rfl
  | 2, _ => rfl
  | 3, _ => rfl
  | 4, _ => rfl
/-- a window that is small enough -/
def Win14 (n lev : Nat) : Prop := lev ^ n ≤ 256 ∧ 2 ≤ lev ∧ lev ≤ 4 ∧ n * (lev - 1) ≤ lev ^ n ∧ 3 ≤ n ∧ n ≤ 5
theorem win14 : ∀ {e : Nat}, e < 5 → Win14 (sgA e) (lv14 e)
  | 0, _ => by unfold Win14; decide
  | 1, _ => by unfold Win14; decide
  | 2, _ => by unfold Win14; decide
  | 3, _ => by unfold Win14; decide
  | 4, _ => by unfold Win14; decide
theorem RoadsG.on {H H2 : Hp} {b L R : Addr} {cells : List Int} {nx : List Int → List (List Int)} {xs : List (List Int)} (h : RoadsG H R nx xs) (s : SameB b H H2) (hb : BoxL H b L cells) : RoadsG H2 R nx xs := by
  obtain ⟨g, h1, h2⟩ := h
  refine ⟨g, s _ _ h1 (ne_of h1 hb.lst.choose_spec (by intro z; cases z)), fun x hx => ?_⟩
  obtain ⟨l, us, e, h3, h4⟩ := h2 x hx
  have lb : l ≠ b := fun z => by
    obtain ⟨_, _, _, k, c, n', s', _, hbb⟩ := hb
    rw [z, hbb] at h3
    injection h3 with h3
    injection h3 with h3
    rw [← h3] at h4
    generalize nx x = ys at h4
    cases h4 with
    | cons _ r2 =>
      cases r2 with
      | cons p2 _ =>
        obtain ⟨t, e, _⟩ := p2
        cases e
  exact ⟨l, us, e, s _ _ h3 lb, ta_onB h4 s hb.lst⟩
structure W14 (H : Hp) (b L C x D SZ R Bk S : Addr) (cells : List Int) (n lev : Nat) (bs : Int) (cs : List Tri) (kd kw kss : List V) (ss : List (List Int)) : Prop where
  box : BoxL H b L cells
  net : NetAt H x C n cs
  hD : H D = some (.lst kd)
  pD : Paired (TA f3 H) cs kd
  Db : D ≠ b
  hZ : H SZ = some (.lst kw)
  pZ : Paired (TA fS H) (winM lev bs n) kw
  Zb : SZ ≠ b
  rR : RoadsG H R (nextM n cs) (winM lev bs n)
  rB : RoadsG H Bk (backM (nextM n cs) (winM lev bs n)) (winM lev bs n)
  hS : H S = some (.lst kss)
  pS : Paired (TA fS H) ss kss
  Sb : S ≠ b
theorem W14.on {H H2 : Hp} {b L C x D SZ R Bk S : Addr} {cells : List Int} {n lev : Nat} {bs : Int} {cs : List Tri} {kd kw kss : List V} {ss : List (List Int)} (h : W14 H b L C x D SZ R Bk S cells n lev bs cs kd kw kss ss) (s : SameB b H H2) (hb : BoxL H2 b L cells) : W14 H2 b L C x D SZ R Bk S cells n lev bs cs kd kw kss ss :=
  ⟨hb, h.net.onB s h.box.lst, s _ _ h.hD h.Db, ta_onB h.pD s h.box.lst, h.Db, s _ _ h.hZ h.Zb, ta_onB h.pZ s h.box.lst, h.Zb, h.rR.on s h.box, h.rB.on s h.box, s _ _ h.hS h.Sb, ta_onB h.pS s h.box.lst, h.Sb⟩
theorem W14.same {H H2 : Hp} {b L C x D SZ R Bk S : Addr} {cells : List Int} {n lev : Nat} {bs : Int} {cs : List Tri} {kd kw kss : List V} {ss : List (List Int)} (h : W14 H b L C x D SZ R Bk S cells n lev bs cs kd kw kss ss) (s : Same H H2) : W14 H2 b L C x D SZ R Bk S cells n lev bs cs kd kw kss ss := h.on (SameB.of s) (h.box.same s)
theorem FarAt.onB {H H2 : Hp} {b D : Addr} {far : List Int → Option Int} (h : FarAt H D far) (s : SameB b H H2) (hb : ∃ us, H b = some (.lst us)) : FarAt H2 D far := by
  obtain ⟨ks, h1, h2⟩ := h
  exact ⟨ks, s _ _ h1 (ne_of h1 hb.choose_spec (by intro z; cases z)), h2⟩
def spPair14 (CP CR : Addr) : Sp := fun vs H Q _ => ∃ (C x s g : Addr) (d : Int) (n : Nat) (cs : List Tri) (st tg : List Int), KC CP CR C true ∧ vs = [.ref x, .ref s, .ref g, .int d] ∧ NetAt H x C n cs ∧ NOk n cs ∧ H s = some (.tup (fS st)) ∧ StOk n st ∧ H g = some (.tup (fS tg)) ∧ StOk n tg ∧
  (NoAll n cs true st tg → d = distM st tg n) ∧ (¬ NoAll n cs true st tg → d = -1) ∧ ∀ H2, Same H H2 → Q (.bl true) H2
/-- a state of the window in which some move is allowed -/
theorem alive14 {zs : List Int} {lev : Nat} {bs : Int} (cz : CapsOk zs) (n3 : 3 ≤ zs.length) (l2 : 2 ≤ lev) : ∃ x ∈ winM lev bs zs.length, nextM zs.length (ringOf zs) x ≠ [] := by
  have ok := ringOf_ok cz n3
  obtain ⟨n, en⟩ : ∃ n, n = zs.length := ⟨_, rfl⟩
  have lr : (List.replicate (n - 1) bs).length = n - 1 := List.length_replicate
  refine ⟨(bs + 1) :: List.replicate (n - 1) bs, winM_mem.mpr ⟨by rw [List.length_cons, lr]; omega, fun y hy => ?_⟩, fun e => ?_⟩
  · rcases List.mem_cons.mp hy with h | h
    · rw [h]; omega
    · rw [(List.mem_replicate.mp h).2]; omega
  · have z : stp9 ((bs + 1) :: List.replicate (n - 1) bs) ((1 : Int), true) ∈ nextM zs.length (ringOf zs) ((bs + 1) :: List.replicate (n - 1) bs) := by
      refine (nextM_mem ok).mpr ⟨_, alw9_iff.mpr ⟨⟨((0 : Nat), ((0 : Nat) + 1 : Int) % (zs.length : Int), zs[0]), ?_, ?_⟩, fun c hc hs => ?_⟩, rfl⟩
      · exact List.mem_of_getElem? (ringOf_at (List.getElem?_eq_getElem (show 0 < zs.length by omega)))
      · unfold sl9
        show ((0 : Nat) + 1 : Int) % (zs.length : Int) = 1
        rw [Int.emod_eq_of_lt (by omega) (by omega)]
        rfl
      · obtain ⟨i, hi⟩ := List.mem_iff_getElem?.mp hc
        have li := (List.getElem?_eq_some_iff.mp hi).1
        rw [ringOf_len] at li
        rw [ringOf_at (List.getElem?_eq_getElem li)] at hi
        have hi := Option.some.inj hi
        subst hi
        unfold sl9 at hs
        have hs : ((i : Int) + 1) % (zs.length : Int) = 1 := hs
        have i0 : i = 0 := by
          by_cases q : i + 1 = zs.length
          · rw [show ((i : Int) + 1) = (zs.length : Int) by omega, Int.emod_self] at hs
            omega
          · rw [Int.emod_eq_of_lt (by omega) (by omega)] at hs
            omega
        subst i0
        have c1 := cz zs[0] (List.getElem_mem (by omega))
        have g0 : gi ((bs + 1) :: List.replicate (n - 1) bs) ((0 : Nat) : Int) = bs + 1 := rfl
        have g1 : gi ((bs + 1) :: List.replicate (n - 1) bs) (1 : Int) = bs := gi_at (k := 1) (by rw [List.getElem?_cons_succ, List.getElem?_replicate, if_pos (by omega)])
        dsimp only
        rw [hs, g0, g1]
        omega
    rw [e] at z
    cases z
section
variable {P : Program} {w : World} {K : PySem.W.Frag} {mg : Str → Option Value} {base : Heap}
theorem ok_law14 {f CP CR : Addr} {fd : FuncData} (F : Fun K "law" "law" s_law f fd) (B : Blt mg) (g_law_box : DefR P w K mg base "_law_box" 1 (spBox K)) (g_law_take : DefR P w K mg base "_law_take" 1 spTake) (g_law_ring : DefR P w K mg base "_law_ring" 6 (spRing9 CR)) (g_law_states : DefR P w K mg base "_law_states" 1 spStates9) (g_law_roads : DefR P w K mg base "_law_roads" 2 spRoads9) (g_law_turned_round : DefR P w K mg base "_law_turned_round" 1 spTurn) (g_law_starts : DefR P w K mg base "_law_starts" 2 spStarts14) (g_law_search : DefR P w K mg base "_law_search" 1 spSearchG) (g_law_pair_holds : DefR P w K mg base "_law_pair_holds" 9 (spPair14 CP CR)) (g_law_objections_hold : DefR P w K mg base "_law_objections_hold" 8 (spObH CP CR)) (g_law_plan_holds : DefR P w K mg base "_law_plan_holds" 11 (spPlH CP CR)) :
    FnOk P w K mg base (L2.CX P w) 12 f fd ["_law_script"] (spLaw K) := by
  refine F.okX sc_law (fun vs H Q E h => ?_) (fun cdv A outer s H vs Q E hr h => ?_)
  · obtain ⟨a, is, rfl, _⟩ := h
    rfl
  · obtain ⟨a, is, rfl, ha, _, q⟩ := h
    have hu := hu_of hr
    -- slots: 0 _law_script, 1 _law_box_here*, 2 _law_shape, 3 _law_stages*, 4 _law_levels, 5 _law_base, 6 _law_rooms*, 7 _law_k, 8 _law_network, 9 _law_channels, 10 _law_states_here, 11 _law_roads_here, 12 _law_back, 13 _law_starts_here, 14 _law_start, 15 _law_far*, 16 _law_goal, 17 _law_due, 18 _law_turn, 19 _law_met, 20 _law_left
    refine ⟨_, (pss_cons (ps_set (i := 1) sc_law.nd rfl (Or.inr rfl) (pe_cd g_law_box hr psE (pa_cons (pv 0) pa_nil)))
      (pss_cons (ps_set (i := 2) sc_law.nd rfl (Or.inl rfl) (pe_cd g_law_take hr psE (pa_cons (pv 1) (pa_cons pe_int pa_nil))))
      (pss_cons (ps_set (i := 3) sc_law.nd rfl (Or.inr rfl) (pe_ix ix_list (pe_lst (pa_cons pe_int (pa_cons pe_int (pa_cons pe_int (pa_cons pe_int (pa_cons pe_int pa_nil)))))) (pv 2) (fun _ _ => rfl)))
      (pss_cons (ps_set (i := 4) sc_law.nd rfl (Or.inl rfl) (pe_ix ix_list (pe_lst (pa_cons pe_int (pa_cons pe_int (pa_cons pe_int (pa_cons pe_int (pa_cons pe_int pa_nil)))))) (pv 2) (fun _ _ => rfl)))
      (pss_cons (ps_set (i := 5) sc_law.nd rfl (Or.inl rfl) pe_int)
      (pss_cons (ps_if (pt_cmpR op_eq (pe_cd g_law_take hr psE (pa_cons (pv 1) (pa_cons pe_int pa_nil))) pe_int (nomark _)) (pss_one (ps_set (i := 5) sc_law.nd rfl (Or.inl rfl) (pe_cd g_law_take hr psE (pa_cons (pv 1) (pa_cons pe_int pa_nil))))) pss_nil)
      (pss_cons (ps_set (i := 6) sc_law.nd rfl (Or.inr rfl) (pe_lc (own := [("_law_k", 7)]) rfl sc_law.nd (pi_range1 (by rfl) B.range (pa_cons (pv 3) pa_nil)) (blkOk_by (N := nn_law) (sc := defScope s_law) (own := [("_law_k", 7)]) (by decide +kernel)) (fun _ _ _ _ _ => (pg_name (i := 7) sc_law.nd rfl (Or.inl rfl))) (fun _ _ _ _ _ => pts_nil) (fun _ _ _ _ _ => (pe_op op_add pe_int (pe_cd g_law_take (by exact hr) passL (pa_cons (pv 1) (pa_cons pe_int pa_nil)))))))
      (pss_cons (ps_set (i := 8) sc_law.nd rfl (Or.inl rfl) (pe_cd g_law_ring hr psE (pa_cons (pv 6) pa_nil)))
      (pss_cons (ps_setLc (i := 9) (own := [("_law_k", 7)]) rfl sc_law.nd rfl rfl (sw_true rfl rfl rfl (by decide +kernel)) (pi_range1 (by rfl) B.range (pa_cons (pv 3) pa_nil)) (blkOk_by (N := nn_law) (sc := defScope s_law) (own := [("_law_k", 7)]) (by decide +kernel)) (fun _ _ _ _ _ => (pg_name (i := 7) sc_law.nd rfl (Or.inl rfl))) (fun _ _ _ _ _ => pts_nil) (fun _ _ _ _ _ => (pe_tup (pa_cons (pv 7) (pa_cons (pe_op op_modN (pe_callTy (T := "int") call_int1 (by rfl) B.int bt_int (pa_cons (pe_op op_add (pv 7) pe_int) pa_nil)) (pv 3)) (pa_cons (pe_ix (i_lst (K := K)) (pv 6) (pv 7) (fun _ _ => rfl)) pa_nil))))))
      (pss_cons (ps_set (i := 10) sc_law.nd rfl (Or.inl rfl) (pe_cd g_law_states hr psE (pa_cons (pv 3) (pa_cons (pv 4) (pa_cons (pv 5) pa_nil)))))
      (pss_cons (ps_set (i := 11) sc_law.nd rfl (Or.inl rfl) (pe_cd g_law_roads hr psE (pa_cons (pv 9) (pa_cons (pv 10) pa_nil))))
      (pss_cons (ps_set (i := 12) sc_law.nd rfl (Or.inl rfl) (pe_cd g_law_turned_round hr psE (pa_cons (pv 11) pa_nil)))
      (pss_cons (ps_set (i := 13) sc_law.nd rfl (Or.inl rfl) (pe_cd g_law_starts hr psE (pa_cons (pv 1) (pa_cons (pv 11) (pa_cons (pv 10) pa_nil)))))
      (pss_cons (ps_for (passes_of rfl) rfl (pi_list (pv 13)) (pg_name (i := 14) sc_law.nd rfl (Or.inl rfl))
        (pss_cons (ps_set (i := 15) sc_law.nd rfl (Or.inr rfl) (pe_cd g_law_search hr psE (pa_cons (pv 11) (pa_cons (pv 14) pa_nil))))
      (pss_one (ps_for (passes_of rfl) rfl (pi_list (pv 10)) (pg_name (i := 16) sc_law.nd rfl (Or.inl rfl))
        (pss_cons (ps_set (i := 17) sc_law.nd rfl (Or.inl rfl) (pe_dget2 hu (pv 15) (pv 16) (pe_un un_neg pe_int) ⟨rfl, by rfl, rfl, rfl⟩))
      (pss_cons (ps_if (pt_not (pt_val (pe_cd g_law_pair_holds hr psE (pa_cons (pv 8) (pa_cons (pv 14) (pa_cons (pv 16) (pa_cons (pv 17) pa_nil))))))) (pss_one (ps_ret pe_bl)) pss_nil)
      (pss_one (ps_if (pt_not (pt_val (pe_cd g_law_objections_hold hr psE (pa_cons (pv 8) (pa_cons (pv 14) (pa_cons (pv 16) (pa_cons (pe_cmpR op_ge (pv 17) pe_int (nomark _)) pa_nil))))))) (pss_one (ps_ret pe_bl)) pss_nil))))))))
      (pss_cons (ps_for (passes_of rfl) rfl (pi_range1 (by rfl) B.range (pa_cons pe_int pa_nil)) (pg_name (i := 18) sc_law.nd rfl (Or.inl rfl))
        (pss_cons (ps_set (i := 14) sc_law.nd rfl (Or.inl rfl) (pe_ix ix_list (pv 13) (pe_cd g_law_take hr psE (pa_cons (pv 1) (pa_cons (pe_callB call_len_seq (by rfl) B.len bt_len (pa_cons (pv 13) pa_nil)) pa_nil))) (fun _ _ => rfl)))
      (pss_cons (ps_set (i := 15) sc_law.nd rfl (Or.inr rfl) (pe_cd g_law_search hr psE (pa_cons (pv 11) (pa_cons (pv 14) pa_nil))))
      (pss_cons (ps_setLc (i := 19) (own := [("_law_goal", 16)]) rfl sc_law.nd rfl rfl (sw_true rfl rfl rfl (by decide +kernel)) (pi_list (pv 10)) (blkOk_by (N := nn_law) (sc := defScope s_law) (own := [("_law_goal", 16)]) (by decide +kernel)) (fun _ _ _ _ _ => (pg_name (i := 16) sc_law.nd rfl (Or.inl rfl))) (fun _ _ _ _ _ => (pts_one (pt_cmp (pc_din (by exact hu) (pv 16) (pv 15))))) (fun _ _ _ _ _ => (pv 16)))
      (pss_cons (ps_set (i := 16) sc_law.nd rfl (Or.inl rfl) (pe_ix ix_list (pv 19) (pe_cd g_law_take hr psE (pa_cons (pv 1) (pa_cons (pe_callB call_len_seq (by rfl) B.len bt_len (pa_cons (pv 19) pa_nil)) pa_nil))) (fun _ _ => rfl)))
      (pss_cons (ps_if (pt_cmpR op_eq (pv 18) pe_int (nomark _)) (pss_one (ps_set (i := 16) sc_law.nd rfl (Or.inl rfl) (pe_ix ix_list (pv 10) (pe_cd g_law_take hr psE (pa_cons (pv 1) (pa_cons (pe_callB call_len_seq (by rfl) B.len bt_len (pa_cons (pv 10) pa_nil)) pa_nil))) (fun _ _ => rfl)))) pss_nil)
      (pss_cons (ps_set (i := 20) sc_law.nd rfl (Or.inl rfl) (pe_cd g_law_search hr psE (pa_cons (pv 12) (pa_cons (pv 16) pa_nil))))
      (pss_one (ps_if (pt_not (pt_val (pe_cd g_law_plan_holds hr psE (pa_cons (pv 8) (pa_cons (pv 9) (pa_cons (pv 20) (pa_cons (pv 14) (pa_cons (pv 16) (pa_cons (pe_dget2 hu (pv 15) (pv 16) (pe_un un_neg pe_int) ⟨rfl, by rfl, rfl, rfl⟩) pa_nil))))))))) (pss_one (ps_ret pe_bl)) pss_nil)))))))))
      (pss_one (ps_ret pe_bl))))))))))))))))), ?_⟩
    refine ⟨_, rfl, a, is, rfl, ha, fun b L cells H1 s1 nb hb1 => ?_⟩
    refine ⟨_, rfl, b, L, cells, 5, rfl, hb1, by decide, by decide, fun d2 H2 d20 d21 s2 hb2 => ?_⟩
    obtain ⟨e, rfl⟩ : ∃ e : Nat, d2 = e := ⟨d2.toNat, by omega⟩
    have e5 : e < 5 := by omega
    refine ⟨by show 5 ≤ sizeLine; decide, fun T nT => ?_⟩
    obtain ⟨H3, e3⟩ : ∃ H3, H3 = upd H2 T (.lst [V.int 3, .int 3, .int 4, .int 4, .int 5]) := ⟨_, rfl⟩
    have hT : H3 T = some (.lst [V.int 3, .int 3, .int 4, .int 4, .int 5]) := by rw [e3, upd_same]
    have hb3 : BoxL H3 b L cells := by rw [e3]; exact hb2.same (Same.new nT)
    rw [← e3]
    refine ⟨_, rfl, T, _, _, _, rfl, rfl, SqL.of hT, sgA_at e5, ?_⟩
    refine ⟨by show 5 ≤ sizeLine; decide, fun T2 nT2 => ?_⟩
    obtain ⟨H4, e4⟩ : ∃ H4, H4 = upd H3 T2 (.lst [V.int 3, .int 4, .int 2, .int 3, .int 2]) := ⟨_, rfl⟩
    have hT2 : H4 T2 = some (.lst [V.int 3, .int 4, .int 2, .int 3, .int 2]) := by rw [e4, upd_same]
    have hb4 : BoxL H4 b L cells := by rw [e4]; exact hb3.same (Same.new nT2)
    rw [← e4]
    refine ⟨_, rfl, T2, _, _, _, rfl, rfl, SqL.of hT2, lv14_at e5, ?_⟩
    obtain ⟨w1, w2, w3, w4, n3, n5⟩ := win14 e5
    generalize sgA e = n at *
    generalize lv14 e = lev at *
    dsimp only [gName]
    refine seq_mid (fun σ H6 => σ = [some (.ref a), some (.ref b), some (.int (e : Nat)), some (.int (n : Nat)), some (.int (lev : Nat)), some (.int 0), none, none, none, none, none, none, none, none, none, none, none, none, none, none, none] ∧ H6 = H4) (fun N hN => hN _ _ ⟨rfl, rfl⟩) ?_
    rintro σ H5 ⟨rfl, rfl⟩
    refine seq_mid (fun σ H5 => ∃ bs : Int, 0 ≤ bs ∧ bs ≤ 996 ∧ σ = [some (.ref a), some (.ref b), some (.int (e : Nat)), some (.int (n : Nat)), some (.int (lev : Nat)), some (.int bs), none, none, none, none, none, none, none, none, none, none, none, none, none, none, none] ∧ BoxL H5 b L cells) (fun N hN => ?_) ?_
    · refine ⟨_, rfl, b, L, cells, 2, rfl, hb4, by decide, by decide, fun d3 H5 d30 d31 s5 hb5 => ⟨rfl, _, rfl, ite2 (fun _ => ?_) (fun _ => hN _ _ ⟨0, by omega, by omega, rfl, hb5⟩)⟩⟩
      exact ⟨_, rfl, b, L, cells, 997, rfl, hb5, by decide, by decide, fun d4 H6 d40 d41 s6 hb6 => hN _ _ ⟨d4, d40, by omega, rfl, hb6⟩⟩
    rintro σ H5 ⟨bs, b0, b1, rfl, hb5⟩
    refine ⟨_, rfl, (n : Int), rfl, by omega, by omega, fun R hR => ?_⟩
    have Rb : R ≠ b := (ne_of_none hb5.lst.choose_spec hR).symm
    have RL : R ≠ L := (ne_of_none hb5.lstL.choose_spec hR).symm
    refine lc_it walk_range (fun i H6 => ∃ zs : List Int, SameB b H5 H6 ∧ BoxL H6 b L cells ∧ H6 R = some (.lst (zs.map V.int)) ∧ zs.length = i ∧ CapsOk zs) ⟨[], (SameB.refl b H5).put hR, hb5.same (Same.new hR), upd_same, rfl, fun c hc => by cases hc⟩ (fun _ _ _ _ => trivial) ?_ ?_
    · rintro i x H6 H7 hil ⟨zs, s6, hb6, hR6, lz, cz⟩ ⟨rfl, e1⟩
      have hi : i < n := hil
      refine ⟨rfl, yes ⟨_, rfl, b, L, cells, 3, rfl, hb6, by decide, by decide, fun r H8 r1 r2 s8 hb8 => ⟨_, _, rfl, rfl, _, s8 _ _ hR6 Rb, ?_, zs ++ [1 + r], ?_, hb8.put Rb RL, ?_, ?_, ?_⟩⟩⟩
      · rw [List.length_map]
        exact line_lt (by omega)
      · exact fun c o hc hn => by
          rw [upd_ne (ne_of_none hc hR)]
          exact s8 _ _ (s6 _ _ hc hn) hn
      · rw [upd_same, List.map_append]; rfl
      · rw [List.length_append, lz]; rfl
      · intro c hc
        rcases List.mem_append.mp hc with h | h
        · exact cz c h
        · rw [List.mem_singleton.mp h]; omega
    rintro H6 ⟨zs, s6, hb6, hR6, lz, cz⟩
    have lz : zs.length = n := lz
    have gok := ringOf_ok cz (by omega)
    have hlen := ringOf_len zs
    refine ⟨_, rfl, R, zs, rfl, hR6, cz, by omega, by omega, fun H7 x s7 nx NA => ?_⟩
    have hb7 := hb6.same s7
    refine ⟨_, rfl, (n : Int), rfl, by omega, by omega, fun D hD => lc_it walk_range (fun i H8 => ∃ ks, Same H7 H8 ∧ H8 D = some (.lst ks) ∧ Paired (TA f3 H8) ((ringOf zs).take i) ks) ⟨[], Same.new hD, upd_same, .nil⟩ (fun _ _ _ _ => trivial) ?_ ?_⟩
    · rintro i x2 H8 H9 hil ⟨ks, s8, hk, hp⟩ ⟨rfl, e1⟩
      have hi : i < n := hil
      have z0 : (0 : Int) + (i : Nat) = (i : Nat) := by omega
      have e1 : x2 = .int ((i : Nat) : Int) := by
        rw [← z0]
        exact e1
      subst e1
      have qz : zs[i]? = some zs[i] := List.getElem?_eq_getElem (by omega)
      have az : atI (zs.map V.int) (i : Int) = some (.int zs[i]) := atI_nat (by rw [List.getElem?_map, qz]; rfl)
      have lk := hp.length
      rw [List.length_take, ringOf_len] at lk
      have fm : Int.fmod ((i : Int) + 1) n = ((i : Int) + 1) % (zs.length : Int) := by rw [lz, Int.fmod_eq_emod_of_nonneg _ (by omega)]
      refine ⟨rfl, yes ⟨_, rfl, _, rfl, _, _, rfl, rfl, .inl ⟨_, rfl, _, rfl, _, _, rfl, rfl, (by show (n : Int) ≠ 0; omega), ?_⟩⟩⟩
      refine ⟨_, rfl, _, rfl, R, _, _, _, rfl, rfl, SqL.of (s8 _ _ (s7 _ _ hR6)), az, by show 3 ≤ sizeLine; decide, fun T nT => ?_⟩
      have pD : T ≠ D := (ne_of_none hk nT).symm
      refine ⟨ks, by rw [upd_ne pD.symm]; exact hk, line_lt (by omega), _, Same.newer (Same.newer s8 (s8.free nT)) hD, upd_same, ?_⟩
      rw [take_snoc (ringOf_at qz)]
      refine pr_snoc (Paired.mapP hp fun c2 v2 ⟨t2, e1, e2⟩ => ⟨t2, e1, ?_⟩) ⟨T, rfl, by rw [upd_ne pD, upd_same]; unfold f3; dsimp only; rw [← fm]⟩
      rw [upd_ne (ne_of e2 hk (by intro z; cases z)), upd_ne (ne_of_none e2 nT)]
      exact e2
    rintro H8 ⟨kd, s8, hk, hp⟩
    have hp : Paired (TA f3 H8) (ringOf zs) kd := by
      have : (ringOf zs).take n = ringOf zs := List.take_of_length_le (by rw [ringOf_len]; omega)
      have hp : Paired (TA f3 H8) ((ringOf zs).take n) kd := hp
      rw [this] at hp
      exact hp
    have hb8 := hb7.same s8
    have Db : D ≠ b := (ne_of_none hb7.lst.choose_spec hD).symm
    have NA8 := NA.same s8
    rw [lz] at NA8 gok
    have lv : Live n (ringOf zs) true := ⟨fun _ => by rw [← lz]; exact ⟨rg_ring zs, un_ring zs⟩, fun e => (by cases e)⟩
    have nok : NOk n (ringOf zs) := ⟨gok, by omega, by omega, by omega⟩
    have alv : ∃ y ∈ winM lev bs n, nextM n (ringOf zs) y ≠ [] := by
      have z := alive14 (bs := bs) cz (by omega) w2
      rw [lz] at z
      exact z
    generalize ringOf zs = cs at *
    have wl := winM_len (lev := lev) (base := bs) n
    have lpos : 1 ≤ (winM lev bs n).length := by rw [wl]; exact Nat.one_le_pow _ _ (by omega)
    have stk : ∀ {y : List Int}, InW n lev bs y → StOk n y := fun {y} h => ⟨h.1, fun c hc => by have := h.2 c hc; omega⟩
    have cl : ∀ y ∈ winM lev bs n, ∀ z ∈ nextM n cs y, z ∈ winM lev bs n := fun y hy z hz => by
      obtain ⟨m, e, rfl⟩ := (nextM_mem gok).mp hz
      exact winM_mem.mpr ((winM_mem.mp hy).step gok e).1
    have bcl : ∀ y ∈ winM lev bs n, ∀ z ∈ backM (nextM n cs) (winM lev bs n) y, z ∈ winM lev bs n := fun y _ z hz => (backM_mem.mp hz).1
    have l20 : ∀ y, (nextM n cs y).length ≤ 20 := fun y => by
      unfold nextM
      rw [List.length_map]
      have := List.length_filter_le (alw9 cs y) (movesM n)
      rw [movesM_len] at this
      omega
    have hW : (n : Int) * ((lev : Int) - 1) ≤ ((winM lev bs n).length : Nat) := by
      rw [wl]
      obtain ⟨l0, hl0⟩ : ∃ l0, lev = l0 + 1 := ⟨lev - 1, by omega⟩
      rw [show ((lev : Int) - 1) = ((lev - 1 : Nat) : Int) by omega]
      exact_mod_cast w4
    refine ⟨_, rfl, _, rfl, _, rfl, n, lev, bs, rfl, n5, by omega, w1, by omega, fun SZ kw H9 s9 nSZ hSZ pw => ?_⟩
    have SZb : SZ ≠ b := (ne_of_none hb8.lst.choose_spec nSZ).symm
    refine ⟨_, rfl, _, rfl, D, SZ, n, cs, kd, kw, winM lev bs n, rfl, n5, s9 _ _ hk, ta_same hp s9, gok, by omega, hSZ, pw, fun y hy => (winM_mem.mp hy).1, winM_nd n, by omega, fun Rd Ha sa nRd rR => ?_⟩
    have rR : RoadsG Ha Rd (nextM n cs) (winM lev bs n) := rR
    refine ⟨_, rfl, Rd, nextM n cs, winM lev bs n, rfl, rR, winM_nd n, by omega, cl, l20, fun Bk Hb sb nBk rB => ?_⟩
    have s9b := s9.trans (sa.trans sb)
    have sab := sa.trans sb
    have hbb := hb8.same s9b
    refine ⟨_, rfl, _, rfl, _, rfl, b, L, Rd, SZ, cells, nextM n cs, winM lev bs n, kw, rfl, hbb, rR.same sb, sab _ _ hSZ, ta_same pw sab, SZb, lpos, by omega, fun _ => alv, fun S kss ss Hc sc hbc Sb hS pS sub l1 l1000 => ?_⟩
    have W : W14 Hc b L CR x D SZ Rd Bk S cells n lev bs cs kd kw kss ss := ⟨hbc, (NA8.same s9b).onB sc hbb.lst, sc _ _ (s9b _ _ hk) Db, ta_onB (ta_same hp s9b) sc hbb.lst, Db, sc _ _ (sab _ _ hSZ) SZb, ta_onB (ta_same pw sab) sc hbb.lst, SZb, (rR.same sb).on sc hbb, rB.on sc hbb, hS, pS, Sb⟩
    have lkss := pS.length
    have lkw := pw.length
    have gv : ∀ o : Option Int, (Option.map V.int o).getD (.int (-1)) = .int (o.getD (-1)) := fun o => by cases o <;> rfl
    dsimp only [gName]
    refine seq_mid (fun σ H5 => ∃ v7 v14 v15 v16 v17, σ = [some (.ref a), some (.ref b), some (.int (e : Nat)), some (.int (n : Nat)), some (.int (lev : Nat)), some (.int bs), some (.ref R), v7, some (.ref x), some (.ref D), some (.ref SZ), some (.ref Rd), some (.ref Bk), some (.ref S), v14, v15, v16, v17, none, none, none] ∧ Same Hc H5) (fun N hN => ?_) ?_
    · refine ⟨_, rfl, S, rfl, ⟨_, SqL.of hS⟩, for_it (walk_list (xs := kss)) (fun i σ H5 => ∃ v7 v14 v15 v16 v17, σ = [some (.ref a), some (.ref b), some (.int (e : Nat)), some (.int (n : Nat)), some (.int (lev : Nat)), some (.int bs), some (.ref R), v7, some (.ref x), some (.ref D), some (.ref SZ), some (.ref Rd), some (.ref Bk), some (.ref S), v14, v15, v16, v17, none, none, none] ∧ Same Hc H5) ⟨_, _, _, _, _, rfl, Same.refl Hc⟩ (fun i σ H5 _ z => ?_) ?_ ?_⟩
      · obtain ⟨_, _, _, _, _, _, z⟩ := z
        exact SqL.of (z _ _ hS)
      · rintro i y σ H6 H5 hi ⟨v7, v14, v15, v16, v17, rfl, s5⟩ ⟨rfl, e1⟩
        obtain ⟨st, qs, Ts, rfl, hTs⟩ := pr_at pS e1
        have sm := sub st (List.mem_of_getElem? qs)
        have isw := winM_mem.mp sm
        have W5 := W.same s5
        dsimp only [gName]
        refine ⟨_, rfl, _, rfl, Rd, Ts, nextM n cs, winM lev bs n, st, rfl, W5.rR, by omega, cl, s5 _ _ hTs, sm, fun Fd far H7 s7 nF fa F => ?_⟩
        have W7 := W5.same s7
        have s57 := s5.trans s7
        refine ⟨_, rfl, SZ, rfl, ⟨_, SqL.of W7.hZ⟩, for_it (walk_list (xs := kw)) (fun j σ H8 => ∃ v16 v17, σ = [some (.ref a), some (.ref b), some (.int (e : Nat)), some (.int (n : Nat)), some (.int (lev : Nat)), some (.int bs), some (.ref R), v7, some (.ref x), some (.ref D), some (.ref SZ), some (.ref Rd), some (.ref Bk), some (.ref S), some (.ref Ts), some (.ref Fd), v16, v17, none, none, none] ∧ Same H7 H8) ⟨_, _, rfl, Same.refl H7⟩ (fun j σ H8 _ z => ?_) ?_ ?_⟩
        · obtain ⟨_, _, _, z⟩ := z
          exact SqL.of (z _ _ W7.hZ)
        · rintro j y σ H9 H8 hj ⟨v16, v17, rfl, s8⟩ ⟨rfl, e2⟩
          obtain ⟨tg, qt, Tg, rfl, hTg⟩ := pr_at W7.pZ e2
          have tm := List.mem_of_getElem? qt
          have itw := winM_mem.mp tm
          have s58 := s57.trans s8
          have hTg8 := s8 _ _ hTg
          have fa8 := fa.same s8
          have W8 := W7.same s8
          obtain ⟨f1, f2⟩ := F.due gok (by omega) lv isw itw (stk isw) hW
          have d1 : NoAll n cs true st tg → (far tg).getD (-1) = distM st tg n := fun z => by rw [f1 z]; rfl
          have d2 : ¬ NoAll n cs true st tg → (far tg).getD (-1) = -1 := fun z => by rw [f2 z]; rfl
          have nn := distM_nn st tg n
          dsimp only [gName]
          refine ⟨_, rfl, Fd, rfl, .inr ⟨_, .inl fa8.choose_spec.1⟩, _, rfl, _, rfl, _, fa8.get hTg8, ?_⟩
          rw [gv]
          refine ⟨_, rfl, _, rfl, _, rfl, _, rfl, CR, x, Ts, Tg, _, n, cs, st, tg, ⟨rfl, rfl⟩, rfl, W8.net, nok, s58 _ _ hTs, stk isw, hTg8, stk itw, d1, d2, fun H10 s10 => ⟨_, rfl, iteF ?_⟩⟩
          refine ⟨_, rfl, _, rfl, _, rfl, _, rfl, _, _, rfl, rfl, CR, x, Ts, Tg, _, n, cs, st, tg, ⟨rfl, rfl⟩, rfl, W8.net.same s10, nok, s10 _ _ (s58 _ _ hTs), stk isw, s10 _ _ hTg8, stk itw, ?_, fun H11 s11 => ⟨_, rfl, iteF ⟨_, _, rfl, s8.trans (s10.trans s11)⟩⟩⟩
          rw [decide_eq_true_iff]
          constructor
          · intro z; rw [d1 z]; exact nn
          · intro z
            refine Classical.byContradiction fun no => ?_
            rw [d2 no] at z
            omega
        · rintro σ H8 ⟨v16, v17, rfl, s8⟩
          exact ⟨_, _, _, _, _, rfl, s57.trans s8⟩
      · rintro σ H5 ⟨v7, v14, v15, v16, v17, rfl, s5⟩
        exact hN _ _ ⟨_, _, _, _, _, rfl, s5⟩
    rintro σ H5 ⟨v7, v14, v15, v16, v17, rfl, s5⟩
    have W5 := W.same s5
    refine ⟨4, rfl, by decide, by decide, for_it walk_range (fun i σ H6 => ∃ v7 v14 v15 v16 v17 v18 v19 v20, σ = [some (.ref a), some (.ref b), some (.int (e : Nat)), some (.int (n : Nat)), some (.int (lev : Nat)), some (.int bs), some (.ref R), v7, some (.ref x), some (.ref D), some (.ref SZ), some (.ref Rd), some (.ref Bk), some (.ref S), v14, v15, v16, v17, v18, v19, v20] ∧ W14 H6 b L CR x D SZ Rd Bk S cells n lev bs cs kd kw kss ss) ⟨_, _, _, _, _, _, _, _, rfl, W5⟩ (fun _ _ _ _ _ => trivial) ?_ ?_⟩
    · rintro i y σ H7 H6 hil ⟨v7, v14, v15, v16, v17, v18, v19, v20, rfl, W6⟩ ⟨rfl, e1⟩
      have hi : i < 4 := hil
      have z0 : (0 : Int) + (i : Nat) = (i : Nat) := by omega
      have e1 : y = .int ((i : Nat) : Int) := by
        rw [← z0]
        exact e1
      subst e1
      dsimp only [gName]
      refine ⟨_, rfl, _, rfl, _, rfl, S, _, rfl, .inl (SqL.of W6.hS), b, L, cells, (kss.length : Int), rfl, W6.box, by omega, by omega, fun r H7 r0 r1 s7 hb7 => ?_⟩
      obtain ⟨Ts, st, aT, sm, hTs⟩ := pick14 W6.pS s7 W6.box.lst r0 r1
      have W7 := W6.on s7 hb7
      have sw := sub st sm
      have isw := winM_mem.mp sw
      refine ⟨S, _, _, _, rfl, rfl, SqL.of W7.hS, aT, ?_⟩
      refine ⟨_, rfl, _, rfl, Rd, Ts, nextM n cs, winM lev bs n, st, rfl, W7.rR, by omega, cl, hTs, sw, fun Fd far H8 s8 nF fa F => ?_⟩
      have W8 := W7.same s8
      have fst_ : far st ≠ none := F.all st 0 (Nat.zero_le _) .nil
      have lw8 := W8.pZ.length
      refine ⟨_, rfl, SZ, rfl, ⟨_, SqL.of W8.hZ⟩, fun Dm nDm => lc_it (walk_list (xs := kw)) (fun j H9 => Same H8 H9 ∧ ∃ js ls, H9 Dm = some (.lst js) ∧ Paired (TA fS H9) ls js ∧ (∀ l ∈ ls, l ∈ winM lev bs n) ∧ ls.length ≤ j ∧ ((∃ p ∈ (winM lev bs n).take j, far p ≠ none) → 1 ≤ ls.length)) ⟨Same.new nDm, [], [], upd_same, .nil, fun l hl => (by cases hl), Nat.le_refl _, fun ⟨p, hp, _⟩ => (by cases hp)⟩ (fun j H9 _ z => SqL.of (z.1 _ _ W8.hZ)) ?_ ?_⟩
      · rintro j y H10 H9 hj ⟨s9, js, ls, hD9, pj, lj, ll, lvv⟩ ⟨rfl, e2⟩
        have hj : j < kw.length := hj
        obtain ⟨p, qp, Tp, rfl, hTp⟩ := pr_at W8.pZ e2
        have pm := List.mem_of_getElem? qp
        have ljj := pj.length
        refine ⟨rfl, _, rfl, _, rfl, Fd, _, rfl, (fa.same s9).get (s9 _ _ hTp), _, rfl, ite2 (fun _ => ?_) (fun e3 => ?_)⟩
        · refine ⟨_, rfl, js, hD9, line_lt (by omega), Same.newer s9 nDm, _, ls ++ [p], upd_same, ?_, ?_, ?_, fun _ => by rw [List.length_append]; show 1 ≤ _ + 1; omega⟩
          · exact pr_snoc (ta_onB pj (SameB.refl Dm H9).upd ⟨_, hD9⟩) ⟨Tp, rfl, by rw [upd_ne (ne_of (s9 _ _ hTp) hD9 (by intro z; cases z))]; exact s9 _ _ hTp⟩
          · intro l hl
            rcases List.mem_append.mp hl with z | z
            · exact lj l z
            · rw [List.mem_singleton.mp z]; exact pm
          · rw [List.length_append]; show _ + 1 ≤ _; omega
        · refine ⟨s9, js, ls, hD9, pj, lj, by omega, fun ⟨p2, hp2, np2⟩ => ?_⟩
          rw [take_snoc qp] at hp2
          rcases List.mem_append.mp hp2 with z | z
          · exact lvv ⟨p2, z, np2⟩
          · rw [List.mem_singleton.mp z] at np2
            refine absurd ?_ e3
            cases hf : far p with
            | none => exact absurd hf np2
            | some d => rfl
      rintro H9 ⟨s9, js, ls, hD9, pj, lj, ll, lvv⟩
      have ll : ls.length ≤ kw.length := ll
      have lvv := lvv ⟨st, by rw [List.take_of_length_le (by rw [lw8]; exact Nat.le_refl _)]; exact sw, fst_⟩
      have ljj := pj.length
      have W9 := W8.same s9
      have fa9 := fa.same s9
      have hTs9 := s9 _ _ (s8 _ _ hTs)
      have Dmb : Dm ≠ b := (ne_of_none W8.box.lst.choose_spec nDm).symm
      refine ⟨_, rfl, _, rfl, _, rfl, Dm, _, rfl, .inl (SqL.of hD9), b, L, cells, (js.length : Int), rfl, W9.box, by omega, by omega, fun r2 Ha r20 r21 sa2 hba => ?_⟩
      obtain ⟨Tg, tg, aTg, tm, hTg⟩ := pick14 pj sa2 W9.box.lst r20 r21
      refine ⟨Dm, _, _, _, rfl, rfl, SqL.of (sa2 _ _ hD9 Dmb), aTg, ?_⟩
      have Wa := W9.on sa2 hba
      have faa := fa9.onB sa2 W9.box.lst
      have hTsa := tupB sa2 W9.box.lst hTs9
      dsimp only [gName]
      refine seq_mid (fun σ H5 => ∃ Tg tg v7 v17 v20, σ = [some (.ref a), some (.ref b), some (.int (e : Nat)), some (.int (n : Nat)), some (.int (lev : Nat)), some (.int bs), some (.ref R), v7, some (.ref x), some (.ref D), some (.ref SZ), some (.ref Rd), some (.ref Bk), some (.ref S), some (.ref Ts), some (.ref Fd), some (.ref Tg), v17, some (.int (i : Nat)), some (.ref Dm), v20] ∧ W14 H5 b L CR x D SZ Rd Bk S cells n lev bs cs kd kw kss ss ∧ H5 Tg = some (.tup (fS tg)) ∧ tg ∈ winM lev bs n ∧ FarAt H5 Fd far ∧ H5 Ts = some (.tup (fS st))) (fun N hN => ?_) ?_
      · refine ⟨_, rfl, rfl, _, rfl, ite2 (fun _ => ?_) (fun _ => hN _ _ ⟨Tg, tg, _, _, _, rfl, Wa, hTg, lj tg tm, faa, hTsa⟩)⟩
        refine ⟨_, rfl, _, rfl, _, rfl, SZ, _, rfl, .inl (SqL.of Wa.hZ), b, L, cells, (kw.length : Int), rfl, Wa.box, by omega, by omega, fun r3 Hb r30 r31 sb2 hbb2 => ?_⟩
        obtain ⟨Tg2, tg2, aTg2, tm2, hTg2⟩ := pick14 Wa.pZ sb2 Wa.box.lst r30 r31
        have Wb := Wa.on sb2 hbb2
        exact ⟨SZ, _, _, _, rfl, rfl, SqL.of Wb.hZ, aTg2, hN _ _ ⟨Tg2, tg2, _, _, _, rfl, Wb, hTg2, tm2, faa.onB sb2 Wa.box.lst, tupB sb2 Wa.box.lst hTsa⟩⟩
      rintro σ Hb ⟨Tg, tg, v7, v17, v20, rfl, Wb, hTg, tm, fab, hTsb⟩
      have itw := winM_mem.mp tm
      refine ⟨_, rfl, _, rfl, Bk, Tg, backM (nextM n cs) (winM lev bs n), winM lev bs n, tg, rfl, Wb.rB, by omega, bcl, hTg, tm, fun Ld left Hd sd nL fl FL => ?_⟩
      have Wd := Wb.same sd
      have fad := fab.same sd
      have hTgd := sd _ _ hTg
      obtain ⟨f1, f2⟩ := F.due gok (by omega) lv isw itw (stk isw) hW
      have dd := isw.dist itw n (Nat.le_refl _)
      refine ⟨_, rfl, _, rfl, _, rfl, _, rfl, _, rfl, _, rfl, Fd, rfl, .inr ⟨_, .inl fad.choose_spec.1⟩, _, rfl, _, rfl, _, fad.get hTgd, ?_⟩
      rw [gv]
      exact ⟨CR, x, D, Ld, Ts, Tg, _, n, lev, bs, cs, kd, left, st, tg, ⟨rfl, rfl⟩, rfl, Wd.net, nok, lv, Wd.hD, Wd.pD, by omega, fl, sd _ _ hTsb, stk isw, isw, hTgd, stk itw, fun y iy sy => FL.left gok (by omega) lv itw iy sy hW, fun z => by rw [f1 z]; rfl, fun z => by rw [f2 z]; rfl, by omega, fun He se => ⟨_, rfl, iteF ⟨_, _, _, _, _, _, _, _, rfl, Wd.same se⟩⟩⟩
    · rintro σ H6 ⟨v7, v14, v15, v16, v17, v18, v19, v20, rfl, W6⟩
      exact q H6
end
end WC

set_option maxHeartbeats 8000000
namespace WC
open PySem PySem.Spec PyProof.Rows L2
open L2H
theorem un65H {k : Nat} {A : Around} (r : L2H.RoomH k A) : A.units + 65 < cLine := by have := r.un; omega
theorem pg_tupHK {X : Cx} {K : PySem.W.Frag} {es : List Expr} {k n : Nat} {t : TGs} {pos : Pos} (hc : L2H.HotC X) (h : PGs X es t) (hn : (assignEach es X.env).length = n := by rfl) (hs : (assignEach es X.env).findIdx? (·.1) = none := by rfl) (hK : X.K = K := by rfl) : PG X (.Tuple es k pos) (gTup K n t) := by
  subst hK
  exact pg_tupH hc h hn hs
/-- an `if` whose test is false, whatever its body is -/
def tIfNo (tt : TT) : TS := fun D σ H => tt σ H fun b H2 => b = false ∧ D.nx σ H2
section
variable {P : Program} {w : World} {K : PySem.W.Frag} {mg : Str → Option Value} {base : Heap}
theorem ok_draws_fromH {f : Addr} {fd : FuncData} (F : Fun K "draws_from" "draws_from" s_draws_from f fd) : FnH P w K mg base (L2.CX P w) 1 f fd ["start", "target", "channel"] spDrw := by
  refine okH F sc_draws_from (fun vs H Q E h => ?_) (fun cdv A outer s H vs Q E pX hr hc h => ?_)
  · obtain ⟨s, t, v, n, st, tg, c, rfl, _⟩ := h
    rfl
  · obtain ⟨s, t, v, n, st, tg, c, rfl, hs, ls, ht, lt, ⟨tc, rfl, htc⟩, ⟨⟨a1, a2⟩, ⟨a3, a4⟩, _⟩, q⟩ := h
    -- slots: 0 start, 1 target, 2 channel, 3 producer, 4 consumer, 5 _
    refine ⟨_, (pss_cons (ps_asg (pv 2) (pg_tupH hc (pgs_cons (pg_name (i := 3) sc_draws_from.nd rfl (Or.inl rfl)) (pgs_cons (pg_name (i := 4) sc_draws_from.nd rfl (Or.inl rfl)) (pgs_cons (pg_name (i := 5) sc_draws_from.nd rfl (Or.inl rfl)) pgs_nil)))))
      (pss_one (ps_ret (pe_or (pe_cmpR op_lt (pe_ix ix_tup (pv 1) (pv 3) (fun _ _ => rfl)) (pe_ix ix_tup (pv 0) (pv 3) (fun _ _ => rfl)) (nomark _)) (pe_one (pe_cmpR op_gt (pe_ix ix_tup (pv 1) (pv 4) (fun _ _ => rfl)) (pe_ix ix_tup (pv 0) (pv 4) (fun _ _ => rfl)) (nomark _))))))), ?_⟩
    refine ⟨_, rfl, tc, _, rfl, SqT.of htc, rfl, _, _, rfl, _, _, rfl, _, _, rfl, rfl, ?_⟩
    refine ⟨_, rfl, _, rfl, t, _, _, _, rfl, rfl, SqT.of ht, at_st lt a1 a2, _, rfl, _, rfl, s, _, _, _, rfl, rfl, SqT.of hs, at_st ls a1 a2, _, _, rfl, rfl, _, rfl, ?_⟩
    unfold drawsM at q
    cases e : decide (gi tg c.1 < gi st c.1) with
    | true =>
      rw [e] at q
      exact iteT q
    | false =>
      rw [e, Bool.false_or] at q
      exact iteF ⟨_, rfl, _, rfl, t, _, _, _, rfl, rfl, SqT.of ht, at_st lt a3 a4, _, rfl, _, rfl, s, _, _, _, rfl, rfl, SqT.of hs, at_st ls a3 a4, _, _, rfl, rfl, q⟩
theorem ok_channel_objectionsH {f : Addr} {CS : List Addr} {fd : FuncData} (F : Fun K "_channel_objections" "_channel_objections" s_channel_objections f fd) (TC : ∀ C ∈ CS, NetCls K C) (h_draws_from : DefH P w K mg base "draws_from" 1 spDrw) :
    FnH P w K mg base (L2.CX P w) 2 f fd ["net", "start", "target", "channels"] (spChO CS) := by
  refine okH F sc_channel_objections (fun vs H Q E h => ?_) (fun cdv A outer s H vs Q E pX hr hc h => ?_)
  · obtain ⟨C, x, s, t, M, n, cs, st, tg, ms, _, rfl, _⟩ := h
    rfl
  · obtain ⟨C, x, s, t, M, n, cs, st, tg, ms, hC, rfl, NA, G, hs, ls, ht, lt, hM, hb, lm, q⟩ := h
    have hlen := G.len
    obtain ⟨dx, tc, ti, to, ws, hx, htc, hpw, _⟩ := NA.ex
    have T1 := TC C hC
    -- slots: 0 net, 1 start, 2 target, 3 channels, 4 found, 5 channel, 6 producer, 7 consumer, 8 capacity
    refine ⟨_, (pss_cons (ps_set (i := 4) sc_channel_objections.nd rfl (Or.inl rfl) (pe_lst pa_nil))
      (pss_cons (ps_forH (passes_of rfl) hc (pi_listH (pv 3)) (pg_name (i := 5) sc_channel_objections.nd rfl (Or.inl rfl))
        (pss_one (ps_if (pt_val (pe_cdH h_draws_from hr hc (pa_cons (pv 1) (pa_cons (pv 2) (pa_cons (pe_ix ix_tup (pe_fld (pv 0) rfl) (pv 5) (fun _ _ => rfl)) pa_nil))))) (pss_cons (ps_asg (pe_ix ix_tup (pe_fld (pv 0) rfl) (pv 5) (fun _ _ => rfl)) (pg_tupH hc (pgs_cons (pg_name (i := 6) sc_channel_objections.nd rfl (Or.inl rfl)) (pgs_cons (pg_name (i := 7) sc_channel_objections.nd rfl (Or.inl rfl)) (pgs_cons (pg_name (i := 8) sc_channel_objections.nd rfl (Or.inl rfl)) pgs_nil)))))
      (pss_cons (ps_if (pt_cmpR op_gt (pe_op op_sub (pe_ix ix_tup (pv 1) (pv 6) (fun _ _ => rfl)) (pe_ix ix_tup (pv 1) (pv 7) (fun _ _ => rfl))) (pv 8) (nomark _)) (pss_one (ps_expr (pe_bm PySem.F.plainAttrs_list PySem.F.slot_list_append PySem.F.type_list_append mt_append (pv 4) (pa_cons (pe_tup (pa_cons pe_str (pa_cons (pv 5) pa_nil))) pa_nil)))) pss_nil)
      (pss_one (ps_if (pt_cmpR op_lt (pe_ix ix_tup (pv 2) (pv 6) (fun _ _ => rfl)) (pe_ix ix_tup (pv 2) (pv 7) (fun _ _ => rfl)) (nomark _)) (pss_one (ps_expr (pe_bm PySem.F.plainAttrs_list PySem.F.slot_list_append PySem.F.type_list_append mt_append (pv 4) (pa_cons (pe_tup (pa_cons pe_str (pa_cons (pv 5) pa_nil))) pa_nil)))) pss_nil)))) pss_nil)))
      (pss_one (ps_ret (pv 4))))), ?_⟩
    refine ⟨by show 0 ≤ sizeLine; decide, fun L nL => ?_⟩
    refine ⟨_, rfl, M, rfl, ⟨_, SqL.of (Same.new nL _ _ hM)⟩, for_list (K := K) (a := M) (xs := ms.map V.int) (fun i σ H2 => ∃ ks v5 v6 v7 v8, σ = [some (.ref x), some (.ref s), some (.ref t), some (.ref M), some (.ref L), v5, v6, v7, v8] ∧ Same H H2 ∧ H2 L = some (.lst ks) ∧ Paired (ObA H2) ((ms.take i).flatMap (chanOb cs st tg)) ks) ⟨[], _, _, _, _, rfl, Same.new nL, upd_same, .nil⟩ (fun i σ H2 _ ⟨_, _, _, _, _, _, s2, _⟩ => SqL.of (s2 _ _ hM)) ?_ ?_⟩
    rotate_left
    · rintro σ H2 ⟨ks, v5, v6, v7, v8, rfl, s2, hL, hp⟩
      rw [List.length_map, List.take_length] at hp
      exact ⟨_, rfl, q L ks H2 s2 nL hL hp⟩
    rintro i y σ H2 hy ⟨ks, v5, v6, v7, v8, rfl, s2, hL, hp⟩
    rw [List.getElem?_map] at hy
    obtain ⟨k0, hk0, rfl⟩ : ∃ k0, ms[i]? = some k0 ∧ V.int k0 = y := by
      cases e : ms[i]? with
      | none => rw [e] at hy; cases hy
      | some k0 => rw [e] at hy; exact ⟨k0, rfl, Option.some.inj hy⟩
    obtain ⟨b0, b1⟩ := hb k0 (List.mem_of_getElem? hk0)
    obtain ⟨k, rfl⟩ : ∃ k : Nat, k0 = k := ⟨k0.toNat, by omega⟩
    obtain ⟨c, hc⟩ : ∃ c, cs[k]? = some c := ⟨_, List.getElem?_eq_getElem (by omega)⟩
    obtain ⟨u, hu, hcA⟩ := pr_to hpw hc
    have okc := G.ok c (List.mem_of_getElem? hc)
    obtain ⟨⟨c1, c2⟩, ⟨c3, c4⟩, _⟩ := okc
    have im := (List.getElem?_eq_some_iff.mp hk0).1
    have lks : ks.length ≤ 2 * i := by
      rw [← hp.length]
      have := chanObs_len cs st tg (ms.take i)
      rw [List.length_take] at this
      omega
    have fin : ∀ {H3 : Hp} {ks2 : List V} {os : List Obj_} {v6 v7 v8 : Option V}, Same H H3 → H3 L = some (.lst ks2) → Paired (ObA H3) ((ms.take i).flatMap (chanOb cs st tg) ++ os) ks2 → os = chanOb cs st tg k → ∃ ks v5' v6' v7' v8', [some (V.ref x), some (.ref s), some (.ref t), some (.ref M), some (.ref L), some (.int k), v6, v7, v8] = [some (V.ref x), some (.ref s), some (.ref t), some (.ref M), some (.ref L), v5', v6', v7', v8'] ∧ Same H H3 ∧ H3 L = some (.lst ks) ∧ Paired (ObA H3) ((ms.take (i + 1)).flatMap (chanOb cs st tg)) ks := fun a b c d => by
      subst d
      refine ⟨_, _, _, _, _, rfl, a, b, ?_⟩
      rw [take_snoc hk0, List.flatMap_append, List.flatMap_singleton]
      exact c
    have ecb := chanOb_at (st := st) (tg := tg) hc
    obtain ⟨tu, rfl, htu⟩ := hcA
    refine ⟨_, rfl, _, rfl, _, rfl, x, C, dx, _, _, rfl, s2 _ _ hx, T1.cl, T1.nC, lk_ch, _, rfl, tc, _, _, _, rfl, rfl, SqT.of (s2 _ _ htc), atI_nat hu, s, t, .ref tu, n, st, tg, c, rfl, s2 _ _ hs, ls, s2 _ _ ht, lt, ⟨tu, rfl, s2 _ _ htu⟩, G.ok c (List.mem_of_getElem? hc), _, rfl, ite2 (fun ed => ?_) (fun ed => ?_)⟩
    rotate_left
    · exact fin s2 hL (by rw [List.append_nil]; exact hp) (by rw [ecb, if_neg ed])
    rw [if_pos ed] at ecb
    refine ⟨_, rfl, x, C, dx, _, _, rfl, s2 _ _ hx, T1.cl, T1.nC, lk_ch, _, rfl, tc, _, _, _, rfl, rfl, SqT.of (s2 _ _ htc), atI_nat hu, tu, _, rfl, SqT.of (s2 _ _ htu), rfl, _, _, rfl, _, _, rfl, _, _, rfl, rfl, ?_⟩
    dsimp only
    refine seq_mid (fun σ H3 => ∃ ks, σ = [some (.ref x), some (.ref s), some (.ref t), some (.ref M), some (.ref L), some (.int k), some (.int c.1), some (.int c.2.1), some (.int c.2.2)] ∧ Same H H3 ∧ H3 L = some (.lst ks) ∧ ks.length ≤ 2 * i + 1 ∧ Paired (ObA H3) ((ms.take i).flatMap (chanOb cs st tg) ++ (if c.2.2 < gi st c.1 - gi st c.2.1 then [(("jammed" : Str), (k : Int))] else [])) ks) (fun N hN => ?_) ?_
    · refine ⟨_, rfl, _, rfl, s, _, _, _, rfl, rfl, SqT.of (s2 _ _ hs), at_st ls c1 c2, _, rfl, _, rfl, s, _, _, _, rfl, rfl, SqT.of (s2 _ _ hs), at_st ls c3 c4, _, _, rfl, rfl, _, rfl, _, _, rfl, rfl, _, rfl, ite2 (fun e => ?_) (fun e => ?_)⟩
      · refine ⟨_, rfl, .inl ⟨rfl, _, SqL.of hL⟩, _, rfl, by show 2 ≤ sizeLine; decide, fun T nT => ?_⟩
        obtain ⟨g1, g2, g3⟩ := obs_add (w := "jammed") (k := (k : Int)) s2 nL hL hp nT
        refine ⟨L, _, _, rfl, rfl, g1, line_lt (by omega), hN _ _ ⟨_, rfl, g2, upd_same, by rw [List.length_append]; show _ + 1 ≤ _; omega, ?_⟩⟩
        rw [if_pos (of_decide_eq_true e)]
        exact g3
      · refine hN _ _ ⟨ks, rfl, s2, hL, by omega, ?_⟩
        rw [if_neg (fun z => e (decide_eq_true z)), List.append_nil]
        exact hp
    clear hp hL s2 lks
    clear ks H2
    rintro σ H2 ⟨ks, rfl, s2, hL, lks, hp⟩
    refine ⟨_, rfl, _, rfl, t, _, _, _, rfl, rfl, SqT.of (s2 _ _ ht), at_st lt c1 c2, _, rfl, _, rfl, t, _, _, _, rfl, rfl, SqT.of (s2 _ _ ht), at_st lt c3 c4, _, _, rfl, rfl, _, rfl, ite2 (fun e => ?_) (fun e => ?_)⟩
    · refine ⟨_, rfl, .inl ⟨rfl, _, SqL.of hL⟩, _, rfl, by show 2 ≤ sizeLine; decide, fun T nT => ?_⟩
      obtain ⟨g1, g2, g3⟩ := obs_add (w := "orphan") (k := (k : Int)) s2 nL hL hp nT
      exact ⟨L, _, _, rfl, rfl, g1, line_lt (by omega), fin g2 upd_same (by rw [← List.append_assoc]; exact g3) (by rw [ecb, if_pos (of_decide_eq_true e)])⟩
    · exact fin s2 hL hp (by rw [ecb, if_neg (fun z => e (decide_eq_true z)), List.append_nil])
theorem ok_range_objectionsH {f : Addr} {fd : FuncData} (F : Fun K "_range_objections" "_range_objections" s_range_objections f fd) (B : Blt mg) : FnH P w K mg base (L2.CX P w) 1 f fd ["start", "target"] spRgO := by
  refine okH F sc_range_objections (fun vs H Q E h => ?_) (fun cdv A outer s H vs Q E pX hr hc h => ?_)
  · obtain ⟨s, t, n, st, tg, rfl, _⟩ := h
    rfl
  · obtain ⟨s, t, n, st, tg, rfl, hs, ls, n1, n40, ht, lt, q⟩ := h
    -- slots: 0 start, 1 target, 2 low*, 3 high*, 4 above, 5 stage, 6 counter, 7 below
    refine ⟨_, (pss_cons (ps_set (i := 2) sc_range_objections.nd rfl (Or.inr rfl) (pe_callB (cr_minTH hc (un65H hr)) (by rfl) B.min bt_min (pa_cons (pv 0) pa_nil)))
      (pss_cons (ps_set (i := 3) sc_range_objections.nd rfl (Or.inr rfl) (pe_callB (cr_maxTH hc (un65H hr)) (by rfl) B.max bt_max (pa_cons (pv 0) pa_nil)))
      (pss_cons (ps_setLcH (i := 4) (own := [("stage", 5), ("counter", 6)]) hc sc_range_objections.nd rfl rfl (sw_true rfl rfl rfl (by decide +kernel)) (pi_etH B.enum (pa_cons (pv 1) pa_nil)) (blkOk_by (N := nn_range_objections) (sc := defScope s_range_objections) (own := [("stage", 5), ("counter", 6)]) (by decide +kernel)) (fun _ _ _ _ _ _ hb => (pg_tupHK (K := K) (n := 2) hb (pgs_cons (pg_name (i := 5) sc_range_objections.nd rfl (Or.inl rfl)) (pgs_cons (pg_name (i := 6) sc_range_objections.nd rfl (Or.inl rfl)) pgs_nil)))) (fun _ _ _ _ _ _ _ => (pts_one (pt_cmpR op_gt (pv 6) (pv 3) (nomark _)))) (fun _ _ _ _ _ _ _ => (pe_tup (pa_cons pe_str (pa_cons (pv 5) pa_nil)))))
      (pss_cons (ps_setLcH (i := 7) (own := [("stage", 5), ("counter", 6)]) hc sc_range_objections.nd rfl rfl (sw_true rfl rfl rfl (by decide +kernel)) (pi_etH B.enum (pa_cons (pv 1) pa_nil)) (blkOk_by (N := nn_range_objections) (sc := defScope s_range_objections) (own := [("stage", 5), ("counter", 6)]) (by decide +kernel)) (fun _ _ _ _ _ _ hb => (pg_tupHK (K := K) (n := 2) hb (pgs_cons (pg_name (i := 5) sc_range_objections.nd rfl (Or.inl rfl)) (pgs_cons (pg_name (i := 6) sc_range_objections.nd rfl (Or.inl rfl)) pgs_nil)))) (fun _ _ _ _ _ _ _ => (pts_one (pt_cmpR op_lt (pv 6) (pv 2) (nomark _)))) (fun _ _ _ _ _ _ _ => (pe_tup (pa_cons pe_str (pa_cons (pv 5) pa_nil)))))
      (pss_one (ps_ret (pe_op op_cat (pv 4) (pv 7)))))))), ?_⟩
    refine ⟨_, rfl, s, st, rfl, SqT.of hs, by omega, fun lo m1 m2 => ⟨_, rfl, s, st, rfl, SqT.of hs, by omega, fun hi m3 m4 => ?_⟩⟩
    have lw : (tg.map V.int).length = n := by rw [List.length_map]; exact lt
    refine ⟨_, rfl, t, _, rfl, SqT.of ht, fun D hD => lc_it (walk_et (xs := tg.map V.int)) (fun i H2 => Same H H2 ∧ ∃ ks, H2 D = some (.lst ks) ∧ Paired (ObA H2) (obsP "above" (fun c => decide (hi < c)) tg i) ks) ⟨Same.new hD, [], upd_same, .nil⟩ (fun i H2 _ z => SqT.of (z.1 _ _ ht)) ?_ ?_⟩
    · rintro i x H2 H3 hil ⟨s2, ks, k1, k2⟩ ⟨T1, x1, y1, rfl, hT, rfl, e1, e2⟩
      cases e1
      rw [lw] at hil
      have ey : (tg.map V.int)[i]? = some (.int (gi tg i)) := by rw [List.getElem?_map, List.getElem?_eq_getElem (by omega)]; exact congrArg some (congrArg V.int (gi_at (List.getElem?_eq_getElem (by omega))).symm)
      have e2 : (tg.map V.int)[i]? = some y1 := e2
      rw [ey] at e2
      obtain rfl := Option.some.inj e2
      have s3 : Same H2 (upd H2 T1 (.tup [.int (i : Nat), .int (gi tg i)])) := Same.new hT
      have lks : ks.length ≤ i := by rw [← k2.length]; exact obsP_len _ _ _ _
      refine ⟨T1, _, rfl, SqT.of upd_same, rfl, _, _, rfl, _, _, rfl, rfl, rfl, _, rfl, _, rfl, _, _, rfl, rfl, _, rfl, ite2 (fun e => ?_) (fun e => ?_)⟩
      · refine ⟨_, rfl, by show 2 ≤ sizeLine; decide, fun T nT => ?_⟩
        obtain ⟨g1, g2, g3⟩ := obs_add (w := "above") (k := (i : Int)) (s2.trans s3) hD (s3 _ _ k1) (obs_same k2 s3) nT
        refine ⟨ks, g1, line_lt (by omega), g2, _, upd_same, ?_⟩
        rw [obsP_succ, if_pos (show decide (hi < gi tg i) = true from e)]
        exact g3
      · refine ⟨s2.trans s3, ks, s3 _ _ k1, ?_⟩
        rw [obsP_succ, if_neg (show ¬ decide (hi < gi tg i) = true from e), List.append_nil]
        exact obs_same k2 s3
    rintro H2 ⟨s2, ka, hka, pka⟩
    rw [lw] at pka
    have ht2 := s2 _ _ ht
    refine ⟨_, rfl, t, _, rfl, SqT.of ht2, fun D2 hD2 => lc_it (walk_et (xs := tg.map V.int)) (fun i H3 => Same H2 H3 ∧ ∃ ks, H3 D2 = some (.lst ks) ∧ Paired (ObA H3) (obsP "below" (fun c => decide (c < lo)) tg i) ks) ⟨Same.new hD2, [], upd_same, .nil⟩ (fun i H3 _ z => SqT.of (z.1 _ _ ht2)) ?_ ?_⟩
    · rintro i x H3 H4 hil ⟨s3, ks, k1, k2⟩ ⟨T1, x1, y1, rfl, hT, rfl, e1, e2⟩
      cases e1
      rw [lw] at hil
      have ey : (tg.map V.int)[i]? = some (.int (gi tg i)) := by rw [List.getElem?_map, List.getElem?_eq_getElem (by omega)]; exact congrArg some (congrArg V.int (gi_at (List.getElem?_eq_getElem (by omega))).symm)
      have e2 : (tg.map V.int)[i]? = some y1 := e2
      rw [ey] at e2
      obtain rfl := Option.some.inj e2
      have s4 : Same H3 (upd H3 T1 (.tup [.int (i : Nat), .int (gi tg i)])) := Same.new hT
      have lks : ks.length ≤ i := by rw [← k2.length]; exact obsP_len _ _ _ _
      refine ⟨T1, _, rfl, SqT.of upd_same, rfl, _, _, rfl, _, _, rfl, rfl, rfl, _, rfl, _, rfl, _, _, rfl, rfl, _, rfl, ite2 (fun e => ?_) (fun e => ?_)⟩
      · refine ⟨_, rfl, by show 2 ≤ sizeLine; decide, fun T nT => ?_⟩
        obtain ⟨g1, g2, g3⟩ := obs_add (w := "below") (k := (i : Int)) (s3.trans s4) hD2 (s4 _ _ k1) (obs_same k2 s4) nT
        refine ⟨ks, g1, line_lt (by omega), g2, _, upd_same, ?_⟩
        rw [obsP_succ, if_pos (show decide (gi tg i < lo) = true from e)]
        exact g3
      · refine ⟨s3.trans s4, ks, s4 _ _ k1, ?_⟩
        rw [obsP_succ, if_neg (show ¬ decide (gi tg i < lo) = true from e), List.append_nil]
        exact obs_same k2 s4
    rintro H3 ⟨s3, kb, hkb, pkb⟩
    rw [lw] at pkb
    have l1 := pka.length
    have l2 := pkb.length
    have l3 := obsP_len "above" (fun c => decide (hi < c)) tg n
    have l4 := obsP_len "below" (fun c => decide (c < lo)) tg n
    refine ⟨_, rfl, _, rfl, D, D2, _, _, rfl, rfl, s3 _ _ hka, hkb, line_of (by omega), fun L nL => ?_⟩
    have s4 : Same H3 (upd H3 L (.lst (ka ++ kb))) := Same.new nL
    have s04 := s2.trans (s3.trans s4)
    exact q lo hi L _ _ ⟨m1, m2⟩ ⟨m3, m4⟩ s04 ((s2.trans s3).free nL) upd_same (obs_same (pr_app (obs_same pka s3) pkb) s4)
end
end WC

set_option maxHeartbeats 8000000
namespace WC
open PySem PySem.Spec PyProof.Rows L2
open L2H
structure MetRH (P : Program) (w : World) (K : PySem.W.Frag) (mg : Str → Option Value) (base : Heap) (C : Addr) (m : Str) (k : Nat) (sp : Sp) : Prop where
  ex : ∃ f fd ps, Cls K C ∧ Meth K C m f ∧ Binds K fd ps [] ∧ FnH P w K mg base (L2.CX P w) k f fd ps sp
theorem pe_mtrH {X : Cx} {C : Addr} {m : Str} {j k : Nat} {sp : Sp} {o e : Expr} {es : List Expr} {ta : TE} {t : L2.TA} {pos apos : Pos} {pl : Sem Bool} (D : MetRH X.prog X.w X.K X.mg X.base C m k sp) (ho : PE X o ta) (hr : RoomH j X.A) (hc : HotC X) (ha : PA X (e :: es) t) (hle : k ≤ j := by decide)
    (hst : starEach (e :: es) X.env = (false, eval e X.env) :: starEach es X.env := by rfl) (hpl : (backTo pos (starEach es X.env)).any (·.1) = false := by rfl)
    (ht : eval (.Call (.Attribute o m apos) (e :: es) [] pos) X.env = (do
      let ov ← eval o X.env
      standAt apos.atName
      let (f, first) ← holding [ov] (getMethod ov m pl)
      callWith pos f first (backTo pos (starEach (e :: es) X.env)) (backToKw pos (keywordEach [] X.env))) := by rfl) : PE X (.Call (.Attribute o m apos) (e :: es) [] pos) (tMethH C m sp (fun _ => E0) ta t) := by
  obtain ⟨f, fd, ps, c, hm, hb, F⟩ := D.ex
  exact pe_methH (pl := pl) ho c hm F (hr.mono hle) hc hb (fun σ pins H s er s' I c => passL pins σ H s er s' I c) ha hst hpl ht
def spCkH (K : PySem.W.Frag) : Sp := fun vs H Q _ => ∃ (x : V) (n : Int), vs = [x, .int n] ∧ Known K H x ∧ btw x 0 (n - 1) = true ∧ Q .non H
def spAskH (C : Addr) (res : Hp → Nat → List Tri → Int → VK → Prop) : Sp := fun vs H Q _ => ∃ (x : Addr) (i : Int) (n : Nat) (cs : List Tri), vs = [.ref x, .int i] ∧ NetAt H x C n cs ∧ n ≤ 40 ∧ (∀ c ∈ cs, ChOk n c) ∧ cs.length ≤ 1000 ∧ 0 ≤ i ∧ i < n ∧ res H n cs i Q
def spCsH (CS : List Addr) : Sp := fun vs H Q _ => ∃ (C x s : Addr) (n : Nat) (cs : List Tri) (st : List Int), C ∈ CS ∧ vs = [.ref x, .ref s] ∧ NetAt H x C n cs ∧ NOk n cs ∧ H s = some (.tup (fS st)) ∧ StOk n st ∧ ∀ H2, Same H H2 → Q (.ref s) H2
section
variable {P : Program} {w : World} {K : PySem.W.Frag} {mg : Str → Option Value} {base : Heap}
theorem ok_is_betweenH {f : Addr} {fd : FuncData} (F : Fun K "is_between" "is_between" s_is_between f fd) (B : Blt mg) : FnH P w K mg base (L2.CX P w) 1 f fd ["value", "low", "high"] (spBtw K) := by
  refine okH F sc_is_between (fun vs H Q E h => ?_) (fun cdv A outer s H vs Q E pX hr hc h => ?_)
  · obtain ⟨x, lo, hi, rfl, _⟩ := h
    rfl
  · obtain ⟨x, lo, hi, rfl, hk, k⟩ := h
    refine ⟨_, pss_one (ps_ret (pe_and (pe_callB call_isi (by rfl) B.isi (by decide +kernel) (pa_cons (pv 0) (pa_cons (pe_bltn (v := .ty "int") (by rfl) B.int (by decide +kernel) rfl) pa_nil)))
      (pe_and (pe_not (pe_callB call_isi (by rfl) B.isi (by decide +kernel) (pa_cons (pv 0) (pa_cons (pe_bltn (v := .ty "bool") (by rfl) B.bool (by decide +kernel) rfl) pa_nil))))
        (pe_one (pe_chain op_le op_le (pv 1) (pv 0) (pv 2)))))), ?_⟩
    refine ⟨_, rfl, _, _, _, _, _, rfl, .ty _, hk.ty, kit_int hk, _, rfl, ?_⟩
    cases x with
    | int i =>
      refine iteT ⟨_, rfl, _, _, _, _, _, rfl, .ty _, hk.ty, kit_bool hk, _, rfl, _, rfl, ?_⟩
      refine iteT ⟨_, rfl, _, rfl, _, _, rfl, rfl, _, rfl, ?_⟩
      refine ite2 (fun e => ⟨_, rfl, _, _, rfl, rfl, ?_⟩) (fun e => ?_)
      · have q : btw (.int i) lo hi = decide (i ≤ hi) := by unfold btw; simp [e]
        rw [q] at k
        exact k
      · have q : btw (.int i) lo hi = false := by unfold btw; simp; intro z; simp [z] at e
        rw [q] at k
        exact k
    | bl b => exact iteT ⟨_, rfl, _, _, _, _, _, rfl, .ty _, hk.ty, kit_bool hk, _, rfl, _, rfl, iteF k⟩
    | non => exact iteF k
    | str z => exact iteF k
    | ref a => exact iteF k
    | byt b => exact hk.elim
    | flt b => exact hk.elim
    | ty n => exact hk.elim
theorem ok_check_numberH {f : Addr} {fd : FuncData} (F : Fun K "check_number" "check_number" s_check_number f fd) (G : DefH P w K mg base "is_between" 1 (spBtw K)) : FnH P w K mg base (L2.CX P w) 2 f fd ["value", "many"] (spCkH K) := by
  refine okH F sc_check_number (fun vs H Q E h => ?_) (fun cdv A outer s H vs Q E pX hr hc h => ?_)
  · obtain ⟨x, n, rfl, _⟩ := h
    rfl
  · obtain ⟨x, n, rfl, hk, e, q⟩ := h
    refine ⟨_, pss_one (ps_if (pt_not (pt_val (pe_cdH G hr hc (pa_cons (pv 0) (pa_cons pe_int (pa_cons (pe_op op_sub (pv 1) pe_int) pa_nil)))))) pss_never pss_nil), ?_⟩
    refine ⟨_, rfl, _, rfl, _, _, rfl, rfl, _, _, _, rfl, hk, _, rfl, ?_⟩
    rw [e]
    exact iteF q
theorem ok_incomingH {f C : Addr} {fd : FuncData} (F : Fun K "incoming" "Net.incoming" s_Net_incoming f fd) (T : NetCls K C) (G : DefH P w K mg base "check_number" 2 (spCkH K)) : FnH P w K mg base (L2.CX P w) 3 f fd ["self", "stage"] (spAskH C (resRow fun c => c.2.1)) := by
  refine okH F sc_Net_incoming (fun vs H Q E h => ?_) (fun cdv A outer s H vs Q E pX hr hc h => ?_)
  · obtain ⟨x, i, n, cs, rfl, _⟩ := h
    rfl
  · obtain ⟨x, i, n, cs, rfl, N, hn, hok, hlen, i0, i1, k1⟩ := h
    obtain ⟨dx, tc, ti, to, ws, h1, h2, h3, ⟨ts, r1, r2, r3⟩, h5⟩ := N.ex
    refine ⟨_, pss_cons (ps_expr (pe_cdH G hr hc (pa_cons (pv 1) (pa_cons (pe_fld (pv 0) rfl) pa_nil)))) (pss_one (ps_ret (pe_ix ix_tup (pe_fld (pv 0) rfl) (pv 1) (fun _ _ => rfl)))), ?_⟩
    refine ⟨_, rfl, _, rfl, x, C, dx, _, _, rfl, h1, T.cl, T.nS, lk_st, .int i, n, rfl, trivial, btw_in (by omega) (by omega), ?_⟩
    obtain ⟨j, rfl⟩ : ∃ j : Nat, i = (j : Int) := ⟨i.toNat, by omega⟩
    have hj : j < ts.length := by omega
    obtain ⟨t, e3, e4⟩ := r3 j ts[j] (by simp [hj])
    refine ⟨_, rfl, x, C, dx, _, _, rfl, h1, T.cl, T.nI, lk_in, _, rfl, ti, ts, _, .ref t, rfl, rfl, SqT.of r1, ?_, ?_⟩
    · rw [← e3]
      exact atI_nat (by simp [hj])
    · rw [List.length_map] at e4
      exact k1 t e4
theorem ok_outgoingH {f C : Addr} {fd : FuncData} (F : Fun K "outgoing" "Net.outgoing" s_Net_outgoing f fd) (T : NetCls K C) (G : DefH P w K mg base "check_number" 2 (spCkH K)) : FnH P w K mg base (L2.CX P w) 3 f fd ["self", "stage"] (spAskH C (resRow fun c => c.1)) := by
  refine okH F sc_Net_outgoing (fun vs H Q E h => ?_) (fun cdv A outer s H vs Q E pX hr hc h => ?_)
  · obtain ⟨x, i, n, cs, rfl, _⟩ := h
    rfl
  · obtain ⟨x, i, n, cs, rfl, N, hn, hok, hlen, i0, i1, k1⟩ := h
    obtain ⟨dx, tc, ti, to, ws, h1, h2, h3, h4, ⟨ts, r1, r2, r3⟩⟩ := N.ex
    refine ⟨_, pss_cons (ps_expr (pe_cdH G hr hc (pa_cons (pv 1) (pa_cons (pe_fld (pv 0) rfl) pa_nil)))) (pss_one (ps_ret (pe_ix ix_tup (pe_fld (pv 0) rfl) (pv 1) (fun _ _ => rfl)))), ?_⟩
    refine ⟨_, rfl, _, rfl, x, C, dx, _, _, rfl, h1, T.cl, T.nS, lk_st, .int i, n, rfl, trivial, btw_in (by omega) (by omega), ?_⟩
    obtain ⟨j, rfl⟩ : ∃ j : Nat, i = (j : Int) := ⟨i.toNat, by omega⟩
    have hj : j < ts.length := by omega
    obtain ⟨t, e3, e4⟩ := r3 j ts[j] (by simp [hj])
    refine ⟨_, rfl, x, C, dx, _, _, rfl, h1, T.cl, T.nO, lk_ou, _, rfl, to, ts, _, .ref t, rfl, rfl, SqT.of r1, ?_, ?_⟩
    · rw [← e3]
      exact atI_nat (by simp [hj])
    · rw [List.length_map] at e4
      exact k1 t e4
theorem ok_check_stateH {f N : Addr} {CS : List Addr} {fd : FuncData} (F : Fun K "check_state" "check_state" s_check_state f fd) (B : Blt mg) (Z : NetK K mg N) (T : ∀ C ∈ CS, NetCls K C) (h_is_between : DefH P w K mg base "is_between" 1 (spBtw K)) : FnH P w K mg base (L2.CX P w) 2 f fd ["net", "state"] (spCsH CS) := by
  refine okH F sc_check_state (fun vs H Q E h => ?_) (fun cdv A outer s H vs Q E pX hr hc h => ?_)
  · obtain ⟨C, x, s, n, cs, st, _, rfl, _⟩ := h
    rfl
  · obtain ⟨C, x, s0, n, cs, st, hC, rfl, NA, G, hs, so, q⟩ := h
    obtain ⟨mc, cr, _, _, _, ⟨u4, c4⟩⟩ := Z.cr
    obtain ⟨dx, tc, ti, to, ws, hx, _⟩ := NA.ex
    have TC := T C hC
    have lst := so.1
    
    refine ⟨_, (pss_cons (ps_if (PW.pt (pw_or (pt_not (pt_val (pe_callB call_isi (by rfl) B.isi bt_isi (pa_cons (pv 1) (pa_cons (pe_bltn (v := .ty "tuple") (by rfl) B.tuple bt_tuple rfl) pa_nil))))) (pw_or1 (pt_cmpR op_ne (pe_callB call_len_seq (by rfl) B.len bt_len (pa_cons (pv 1) pa_nil)) (pe_fld (pv 0) rfl) (nomark _))))) pss_never pss_nil)
      (pss_cons (ps_forH (passes_of rfl) hc (pi_etH B.enum (pa_cons (pv 1) pa_nil)) (pg_tupH hc (pgs_cons (pg_name (i := 2) sc_check_state.nd rfl (Or.inl rfl)) (pgs_cons (pg_name (i := 3) sc_check_state.nd rfl (Or.inl rfl)) pgs_nil)))
        (pss_one (ps_if (pt_not (pt_val (pe_cdH h_is_between hr hc (pa_cons (pv 3) (pa_cons pe_int (pa_cons (ClX.pe_cval (pe_glob (v := .ref N) (by rfl) Z.gN rfl)) pa_nil)))))) pss_never pss_nil)))
      (pss_one (ps_ret (pv 1))))), ?_⟩
    refine ⟨_, rfl, _, _, _, _, _, rfl, .ty _, .base (.tup hs), kit_ty (r := true) (by decide +kernel), _, rfl, iteF ?_⟩
    refine ⟨_, rfl, s0, _, rfl, .inr (SqT.of hs), _, rfl, x, C, dx, _, _, rfl, hx, TC.cl, TC.nS, lk_st, rfl, _, rfl, ?_⟩
    rw [show (!decide (V.int ((fS st).length : Nat) = V.int (n : Nat))) = false by unfold fS; rw [List.length_map, lst]; simp]
    refine iteF ⟨_, rfl, s0, fS st, rfl, SqT.of hs, for_it (walk_et (xs := fS st)) (fun i σ H2 => ∃ v2 v3, σ = [some (.ref x), some (.ref s0), v2, v3] ∧ Same H H2) ⟨_, _, rfl, Same.refl H⟩ ?_ ?_ ?_⟩
    · rintro i σ H2 _ ⟨_, _, _, s2⟩
      exact SqT.of (s2 _ _ hs)
    · rintro i y σ H2 H3 hi ⟨v2, v3, rfl, s2⟩ ⟨T1, x1, y1, rfl, hT, rfl, e1, e2⟩
      cases e1
      have s3 : Same H (upd H2 T1 (.tup [.int (i : Nat), y1])) := Same.newer s2 (Same.free s2 hT)
      have e2 : (fS st)[i]? = some y1 := e2
      unfold fS at e2
      rw [List.getElem?_map] at e2
      cases e4 : st[i]? with
      | none => rw [e4] at e2; cases e2
      | some c =>
        rw [e4] at e2
        obtain rfl := Option.some.inj e2
        obtain ⟨c0, c1⟩ := so.2 c (List.mem_of_getElem? e4)
        refine ⟨T1, _, rfl, SqT.of upd_same, rfl, _, _, rfl, _, _, rfl, rfl, _, rfl, N, mc, _, u4, rfl, cr, c4, .int c, 0, 999, rfl, trivial, _, rfl, ?_⟩
        rw [btw_in c0 c1]
        exact iteF ⟨_, _, rfl, s3⟩
    · rintro σ H2 ⟨v2, v3, rfl, s2⟩
      exact ⟨_, rfl, q H2 s2⟩
end
end WC

set_option maxHeartbeats 8000000
namespace WC
open PySem PySem.Spec PyProof.Rows L2
open L2H
theorem pe_mtrH0 {X : Cx} {C : Addr} {m : Str} {j k : Nat} {sp : Sp} {o : Expr} {ta : TE} {pos apos : Pos} {pl : Sem Bool} (D : MetRH X.prog X.w X.K X.mg X.base C m k sp) (ho : PE X o ta) (hr : RoomH j X.A) (hc : HotC X) (hle : k ≤ j := by decide)
    (ht : eval (.Call (.Attribute o m apos) [] [] pos) X.env = (do
      let ov ← eval o X.env
      standAt apos.atName
      let (f, first) ← holding [ov] (getMethod ov m pl)
      callWith pos f first (backTo pos (starEach [] X.env)) (backToKw pos (keywordEach [] X.env))) := by rfl) : PE X (.Call (.Attribute o m apos) [] [] pos) (tMethH C m sp (fun _ => E0) ta tNil) := by
  obtain ⟨f, fd, ps, c, hm, hb, F⟩ := D.ex
  refine ⟨fun pins s σ H Q I h => PySem.W.methodCall_KW (pl := pl) (thn (ho.run pins s σ H _ I h) fun u s1 ⟨x, H1, I1, rx, a, dx, fs, ex, ea, l, q⟩ => ?_) ht⟩
  subst ex
  cases rx
  have q2 : sp [V.ref a] H1 Q E0 := q
  refine getmeth_ok I1 ea c hm l (PySem.W.callWith_K0 (first := [.ref a]) I1.kIn hm.kp (run_fnH (E := fun _ => E0) (us := [.ref a]) (vs := [.ref a]) F (hr.mono hle) hc hb ?_ I1 (.cons rfl .nil) q2))
  exact fun pins H s er s' I c => passL pins σ H s er s' I c
def spObsH (CP CR : Addr) : Sp := fun vs H Q _ => ∃ (C x s g : Addr) (ring : Bool) (n : Nat) (cs : List Tri) (st tg : List Int), KC CP CR C ring ∧ vs = [.ref x, .ref s, .ref g] ∧ NetAt H x C n cs ∧ NOk n cs ∧ H s = some (.tup (fS st)) ∧ StOk n st ∧ H g = some (.tup (fS tg)) ∧ StOk n tg ∧
  ∀ T ks os U H2, Same H H2 → H2 T = some (.tup ks) → Paired (ObA H2) os ks → AllOb cs st tg n ring U → os.Perm U → Q (.ref T) H2
def spIsOH (CP CR : Addr) : Sp := fun vs H Q _ => ∃ (C x s g t : Addr) (ring : Bool) (n : Nat) (cs : List Tri) (st tg : List Int) (p : Obj_), KC CP CR C ring ∧ vs = [.ref x, .ref s, .ref g, .ref t] ∧ NetAt H x C n cs ∧ NOk n cs ∧ H s = some (.tup (fS st)) ∧ StOk n st ∧ H g = some (.tup (fS tg)) ∧ StOk n tg ∧ H t = some (.tup [.str p.1, .int p.2]) ∧ PyData.strOk p.1 = true ∧
  ∀ U H2, Same H H2 → AllOb cs st tg n ring U → Q (.bl (btw (.int p.2) 0 120 && decide (p ∈ U))) H2
section
variable {P : Program} {w : World} {K : PySem.W.Frag} {mg : Str → Option Value} {base : Heap}
theorem ok_R_is_ringH {f : Addr} {CS : List Addr} {fd : FuncData} (F : Fun K "is_ring" "Ring.is_ring" s_Ring_is_ring f fd) : FnH P w K mg base (L2.CX P w) 1 f fd ["self"] (spRing1 CS true) := by
  refine okH F sc_Ring_is_ring (fun vs H Q E h => ?_) (fun cdv A outer s H vs Q E pX hr hc h => ?_)
  · obtain ⟨x, rfl, _⟩ := h
    rfl
  · obtain ⟨x, rfl, q⟩ := h
    exact ⟨_, pss_one (ps_ret pe_bl), q⟩
theorem ok_stage_objectionsH {f : Addr} {CS : List Addr} {fd : FuncData} (F : Fun K "_stage_objections" "_stage_objections" s_stage_objections f fd) (B : Blt mg) (TC : ∀ C ∈ CS, NetCls K C) (h_incoming : ∀ C ∈ CS, MetRH P w K mg base C "incoming" 3 (spAskH C (resRow fun c => c.2.1))) (h_outgoing : ∀ C ∈ CS, MetRH P w K mg base C "outgoing" 3 (spAskH C (resRow fun c => c.1))) :
    FnH P w K mg base (L2.CX P w) 5 f fd ["net", "start", "target"] (spStO CS) := by
  refine okH F sc_stage_objections (fun vs H Q E h => ?_) (fun cdv A outer s H vs Q E pX hr hc h => ?_)
  · obtain ⟨C, x, s, t, n, cs, st, tg, _, rfl, _⟩ := h
    rfl
  · obtain ⟨C, x, s, t, n, cs, st, tg, hC, rfl, NA, G, hs, ls, ht, lt, q⟩ := h
    have n40 := G.n40
    have hlen := G.len
    obtain ⟨dx, tc, ti, to, ws, hx, _⟩ := NA.ex
    -- slots: 0 net, 1 start, 2 target, 3 found, 4 stage
    refine ⟨_, (pss_cons (ps_set (i := 3) sc_stage_objections.nd rfl (Or.inl rfl) (pe_lst pa_nil))
      (pss_cons (ps_forH (passes_of rfl) hc (pi_range1H (by rfl) B.range (pa_cons (pe_fld (pv 0) rfl) pa_nil)) (pg_name (i := 4) sc_stage_objections.nd rfl (Or.inl rfl))
        (pss_cons (ps_if (PW.pt (pw_and (pt_cmpR op_gt (pe_ix ix_tup (pv 2) (pv 4) (fun _ _ => rfl)) (pe_ix ix_tup (pv 1) (pv 4) (fun _ _ => rfl)) (nomark _)) (pw_and1 (pt_not (pt_truth (pe_mtrH (h_incoming C hC) (pv 0) hr hc (pa_cons (pv 4) pa_nil)) (by intro _; rfl)))))) (pss_one (ps_expr (pe_bm PySem.F.plainAttrs_list PySem.F.slot_list_append PySem.F.type_list_append mt_append (pv 3) (pa_cons (pe_tup (pa_cons pe_str (pa_cons (pv 4) pa_nil))) pa_nil)))) pss_nil)
      (pss_one (ps_if (PW.pt (pw_and (pt_cmpR op_lt (pe_ix ix_tup (pv 2) (pv 4) (fun _ _ => rfl)) (pe_ix ix_tup (pv 1) (pv 4) (fun _ _ => rfl)) (nomark _)) (pw_and1 (pt_not (pt_truth (pe_mtrH (h_outgoing C hC) (pv 0) hr hc (pa_cons (pv 4) pa_nil)) (by intro _; rfl)))))) (pss_one (ps_expr (pe_bm PySem.F.plainAttrs_list PySem.F.slot_list_append PySem.F.type_list_append mt_append (pv 3) (pa_cons (pe_tup (pa_cons pe_str (pa_cons (pv 4) pa_nil))) pa_nil)))) pss_nil))))
      (pss_one (ps_ret (pv 3))))), ?_⟩
    refine ⟨by show 0 ≤ sizeLine; decide, fun L nL => ?_⟩
    refine ⟨_, rfl, x, C, dx, _, _, rfl, Same.new nL _ _ hx, (TC C hC).cl, (TC C hC).nS, lk_st, (n : Int), rfl, by omega, by omega, for_range (lo := 0) (n := n) (fun i σ H2 => ∃ ks v4, σ = [some (.ref x), some (.ref s), some (.ref t), some (.ref L), v4] ∧ Same H H2 ∧ H2 L = some (.lst ks) ∧ Paired (ObA H2) (stageObs cs st tg i) ks) ⟨[], _, rfl, Same.new nL, upd_same, .nil⟩ ?_ ?_⟩
    rotate_left
    · rintro σ H2 ⟨ks, v4, rfl, s2, hL, hp⟩
      exact ⟨_, rfl, q L ks H2 s2 nL hL hp⟩
    rintro i σ H2 hi ⟨ks, v4, rfl, s2, hL, hp⟩
    have at1 : atI (tg.map V.int) ((0 : Int) + i) = some (.int (gi tg i)) := by rw [Int.zero_add]; exact at_st lt (by omega) (by omega)
    have at2 : atI (st.map V.int) ((0 : Int) + i) = some (.int (gi st i)) := by rw [Int.zero_add]; exact at_st ls (by omega) (by omega)
    have bb : btw (V.int ((0 : Int) + i)) 0 ((n : Int) - 1) = true := btw_in (by omega) (by omega)
    have lob := stageObs_len cs st tg i
    dsimp only [gName]
    refine seq_mid (fun σ H3 => ∃ ks, σ = [some (.ref x), some (.ref s), some (.ref t), some (.ref L), some (.int ((0 : Int) + i))] ∧ Same H H3 ∧ H3 L = some (.lst ks) ∧ Paired (ObA H3) (stageObs cs st tg i ++ (if gi st i < gi tg i ∧ occ (cs.map fun c => c.2.1) i cs.length = [] then [(("source" : Str), (i : Int))] else [])) ks) (fun N hN => ?_) ?_
    · refine ⟨_, rfl, _, rfl, t, _, _, _, rfl, rfl, SqT.of (s2 _ _ ht), at1, _, rfl, _, rfl, s, _, _, _, rfl, rfl, SqT.of (s2 _ _ hs), at2, _, _, rfl, rfl, _, rfl, ite2 (fun e => ?_) (fun e => ?_)⟩
      rotate_left
      · refine hN _ _ ⟨ks, rfl, s2, hL, ?_⟩
        rw [if_neg (fun z => e (decide_eq_true z.1)), List.append_nil]
        exact hp
      have e := of_decide_eq_true e
      refine ⟨_, rfl, x, dx, _, rfl, s2 _ _ hx, fld4_none (by decide +kernel) (by decide +kernel) (by decide +kernel) (by decide +kernel), _, rfl, x, (0 : Int) + i, n, cs, rfl, NA.same s2, n40, G.ok, by omega, by omega, by omega, fun t2 h2 => ?_⟩
      rw [Int.zero_add] at h2
      refine ⟨_, .inr (.inl ⟨_, SqT.of h2, rfl⟩), ite2 (fun e2 => ?_) (fun e2 => ?_)⟩
      · have e3 : occ (cs.map fun c => c.2.1) i cs.length = [] := by simpa using e2
        refine ⟨_, rfl, .inl ⟨rfl, _, SqL.of hL⟩, _, rfl, by show 2 ≤ sizeLine; decide, fun T nT => ?_⟩
        obtain ⟨g1, g2, g3⟩ := obs_add (w := "source") (k := (0 : Int) + i) s2 nL hL hp nT
        refine ⟨L, _, _, rfl, rfl, g1, line_lt (by have := hp.length; omega), hN _ _ ⟨_, rfl, g2, upd_same, ?_⟩⟩
        rw [if_pos ⟨e, e3⟩]
        rw [Int.zero_add] at g3 ⊢
        exact g3
      · refine hN _ _ ⟨ks, rfl, s2, hL, ?_⟩
        rw [if_neg (fun z => e2 (by rw [z.2]; rfl)), List.append_nil]
        exact hp
    clear hp hL s2
    clear ks H2
    rintro σ H2 ⟨ks, rfl, s2, hL, hp⟩
    have fin : ∀ {H3 : Hp} {ks2 : List V} {os : List Obj_}, Same H H3 → H3 L = some (.lst ks2) → Paired (ObA H3) (stageObs cs st tg i ++ (if gi st i < gi tg i ∧ occ (cs.map fun c => c.2.1) i cs.length = [] then [(("source" : Str), (i : Int))] else []) ++ os) ks2 → os = (if gi tg i < gi st i ∧ occ (cs.map fun c => c.1) i cs.length = [] then [(("sink" : Str), (i : Int))] else []) → ∃ ks v4, [some (V.ref x), some (.ref s), some (.ref t), some (.ref L), some (.int ((0 : Int) + i))] = [some (V.ref x), some (.ref s), some (.ref t), some (.ref L), v4] ∧ Same H H3 ∧ H3 L = some (.lst ks) ∧ Paired (ObA H3) (stageObs cs st tg (i + 1)) ks := fun a b c d => by
      subst d
      refine ⟨_, _, rfl, a, b, ?_⟩
      rw [stageObs_succ]
      unfold stageOb
      rw [← List.append_assoc]
      exact c
    refine ⟨_, rfl, _, rfl, t, _, _, _, rfl, rfl, SqT.of (s2 _ _ ht), at1, _, rfl, _, rfl, s, _, _, _, rfl, rfl, SqT.of (s2 _ _ hs), at2, _, _, rfl, rfl, _, rfl, ite2 (fun e => ?_) (fun e => ?_)⟩
    rotate_left
    · exact fin s2 hL (by rw [List.append_nil]; exact hp) (by rw [if_neg (fun z => e (decide_eq_true z.1))])
    have e := of_decide_eq_true e
    refine ⟨_, rfl, x, dx, _, rfl, s2 _ _ hx, fld4_none (by decide +kernel) (by decide +kernel) (by decide +kernel) (by decide +kernel), _, rfl, x, (0 : Int) + i, n, cs, rfl, NA.same s2, n40, G.ok, by omega, by omega, by omega, fun t2 h2 => ?_⟩
    rw [Int.zero_add] at h2
    refine ⟨_, .inr (.inl ⟨_, SqT.of h2, rfl⟩), ite2 (fun e2 => ?_) (fun e2 => ?_)⟩
    · have e3 : occ (cs.map fun c => c.1) i cs.length = [] := by simpa using e2
      refine ⟨_, rfl, .inl ⟨rfl, _, SqL.of hL⟩, _, rfl, by show 2 ≤ sizeLine; decide, fun T nT => ?_⟩
      obtain ⟨g1, g2, g3⟩ := obs_add (w := "sink") (k := (0 : Int) + i) s2 nL hL hp nT
      have lk : ks.length ≤ 2 * i + 1 := by
        rw [← hp.length, List.length_append]
        split <;> simp <;> omega
      exact ⟨L, _, _, rfl, rfl, g1, line_lt (by omega), fin g2 upd_same g3 (by rw [if_pos ⟨e, e3⟩, Int.zero_add])⟩
    · exact fin s2 hL (by rw [List.append_nil]; exact hp) (by rw [if_neg (fun z => e2 (by rw [z.2]; rfl))])
theorem ok_all_objectionsH {f CP CR : Addr} {fd : FuncData} (F : Fun K "all_objections" "all_objections" s_all_objections f fd) (B : Blt mg) (TC : ∀ C ∈ [CP, CR], NetCls K C) (h_stage_objections : DefH P w K mg base "_stage_objections" 5 (spStO [CP, CR])) (h_channel_objections : DefH P w K mg base "_channel_objections" 2 (spChO [CP, CR])) (h_is_ring : ∀ C ring, KC CP CR C ring → MetRH P w K mg base C "is_ring" 1 (spRing1 [CP, CR] ring)) (h_range_objections : DefH P w K mg base "_range_objections" 1 spRgO) :
    FnH P w K mg base (L2.CX P w) 6 f fd ["net", "start", "target"] (spAllO CP CR) := by
  refine okH F sc_all_objections (fun vs H Q E h => ?_) (fun cdv A outer s H vs Q E pX hr hc h => ?_)
  · obtain ⟨C, x, s, t, ring, n, cs, st, tg, _, rfl, _⟩ := h
    rfl
  · obtain ⟨C, x, s, t, ring, n, cs, st, tg, hK, rfl, NA, G, hs, ls, ht, lt, q⟩ := h
    have hC := hK.mem
    have T1 := TC C hC
    have n40 := G.n40
    have hlen := G.len
    obtain ⟨dx, tc, ti, to, ws, hx, htc, hpw, _⟩ := NA.ex
    have lws := hpw.length
    -- slots: 0 net, 1 start, 2 target, 3 channels, 4 found
    refine ⟨_, (pss_cons (ps_set (i := 3) sc_all_objections.nd rfl (Or.inl rfl) (pe_listRgH hc (by rfl) B.list (prg_1 (by rfl) B.range (pe_callB call_len_seq (by rfl) B.len bt_len (pa_cons (pe_fld (pv 0) rfl) pa_nil)))))
      (pss_cons (ps_set (i := 4) sc_all_objections.nd rfl (Or.inl rfl) (pe_op op_cat (pe_cdH h_stage_objections hr hc (pa_cons (pv 0) (pa_cons (pv 1) (pa_cons (pv 2) pa_nil)))) (pe_cdH h_channel_objections hr hc (pa_cons (pv 0) (pa_cons (pv 1) (pa_cons (pv 2) (pa_cons (pv 3) pa_nil)))))))
      (pss_cons (ps_if (pt_val (pe_mtrH0 (h_is_ring C ring hK) (pv 0) hr hc)) (pss_one (ps_set (i := 4) sc_all_objections.nd rfl (Or.inl rfl) (pe_op op_cat (pv 4) (pe_cdH h_range_objections hr hc (pa_cons (pv 1) (pa_cons (pv 2) pa_nil)))))) pss_nil)
      (pss_one (ps_ret (pe_callTy (T := "tuple") (c_tup (K := K)) (by rfl) B.tuple bt_tuple (pa_cons (pe_callB (cr_sortSI (K := K)) (by rfl) B.sorted bt_sorted (pa_cons (pv 4) pa_nil)) pa_nil))))))), ?_⟩
    refine ⟨_, rfl, x, C, dx, _, _, rfl, hx, T1.cl, T1.nC, lk_ch, tc, ws, rfl, .inr (SqT.of htc), (ws.length : Int), rfl, RgOk.of_le (by omega) (by omega) (by omega) (by omega), fun M nM => ?_⟩
    rw [← lws, nums_rg]
    have s1 : Same H (upd H M (.lst ((nums cs.length).map V.int))) := Same.new nM
    have hM : (upd H M (.lst ((nums cs.length).map V.int))) M = some (.lst ((nums cs.length).map V.int)) := upd_same
    obtain ⟨H1, e1⟩ : ∃ H1, H1 = upd H M (.lst ((nums cs.length).map V.int)) := ⟨_, rfl⟩
    rw [← e1] at s1 hM ⊢
    refine ⟨_, rfl, _, rfl, _, rfl, C, x, s, t, n, cs, st, tg, hC, rfl, NA.same s1, G, s1 _ _ hs, ls, s1 _ _ ht, lt, fun L1 k1 H2 s2 nL1 hL1 p1 => ?_⟩
    have s02 := s1.trans s2
    refine ⟨_, rfl, _, rfl, _, rfl, _, rfl, C, x, s, t, M, n, cs, st, tg, nums cs.length, hC, rfl, NA.same s02, G, s02 _ _ hs, ls, s02 _ _ ht, lt, s2 _ _ hM, fun k hk => nums_mem hk, by rw [nums_len]; omega, fun L2 k2 H3 s3 nL2 hL2 p2 => ?_⟩
    have l1 := p1.length
    have l2 := p2.length
    have l3 := stageObs_len cs st tg n
    have l4 := chanObs_len cs st tg (nums cs.length)
    rw [nums_len] at l4
    refine ⟨L1, L2, _, _, rfl, rfl, s3 _ _ hL1, hL2, line_of (by omega), fun L3 nL3 => ?_⟩
    have s4 : Same H3 (upd H3 L3 (.lst (k1 ++ k2))) := Same.new nL3
    have s04 := s02.trans (s3.trans s4)
    have p3 : Paired (ObA (upd H3 L3 (.lst (k1 ++ k2)))) (stageObs cs st tg n ++ (nums cs.length).flatMap (chanOb cs st tg)) (k1 ++ k2) := obs_same (pr_app (obs_same p1 s3) p2) s4
    dsimp only [gName]
    refine seq_mid (fun σ H5 => ∃ (L : Addr) (ks : List V) (U : List Obj_), σ = [some (.ref x), some (.ref s), some (.ref t), some (.ref M), some (.ref L)] ∧ Same H H5 ∧ H5 L = some (.lst ks) ∧ Paired (ObA H5) U ks ∧ AllOb cs st tg n ring U) (fun N hN => ?_) ?_
    · refine ⟨_, rfl, x, dx, _, rfl, s04 _ _ hx, fld4_none (by decide +kernel) (by decide +kernel) (by decide +kernel) (by decide +kernel), x, rfl, _, rfl, ?_⟩
      cases ring with
      | false => exact iteF (hN _ _ ⟨L3, _, _, rfl, s04, upd_same, p3, .inl ⟨rfl, rfl⟩⟩)
      | true =>
        refine iteT ⟨_, rfl, _, rfl, _, rfl, s, t, n, st, tg, rfl, s04 _ _ hs, ls, G.n1, n40, s04 _ _ ht, lt, fun lo hi L4 k4 H5 b1 b2 s5 nL4 hL4 p4 => ?_⟩
        have l5 := p4.length
        rw [List.length_append] at l5
        have l6 := obsP_len "above" (fun c => decide (hi < c)) tg n
        have l7 := obsP_len "below" (fun c => decide (c < lo)) tg n
        refine ⟨L3, L4, _, _, rfl, rfl, s5 _ _ upd_same, hL4, line_of (by rw [List.length_append]; omega), fun L5 nL5 => ?_⟩
        have s6 : Same H5 (upd H5 L5 (.lst (k1 ++ k2 ++ k4))) := Same.new nL5
        exact hN _ _ ⟨L5, _, _, rfl, s04.trans (s5.trans s6), upd_same, obs_same (pr_app (obs_same p3 s5) p4) s6, .inr ⟨rfl, lo, hi, b1, b2, rfl⟩⟩
    rintro σ H5 ⟨L, ks, U, rfl, s05, hL, pU, hU⟩
    obtain ⟨kf, hkf⟩ := ob_key H5
    refine ⟨_, rfl, L, ks, kf, rfl, SqL.of hL, fun v hv => ?_, fun ys p hperm hpw np => ⟨p, ys, rfl, .inl ⟨SqL.of upd_same, fun T nT => ?_⟩⟩⟩
    · obtain ⟨i, hi⟩ := List.mem_iff_getElem?.mp hv
      obtain ⟨c, hc, hcv⟩ := pr_at pU hi
      have ek := hkf c v hcv
      obtain ⟨t1, rfl, ht1⟩ := hcv
      exact ⟨t1, rfl, by rw [ek]; exact ht1⟩
    obtain ⟨os, hos, po⟩ := pr_perm hperm pU
    have s6 : Same H5 (upd H5 p (.lst ys)) := Same.new np
    have s7 : Same (upd H5 p (.lst ys)) (upd (upd H5 p (.lst ys)) T (.tup ys)) := Same.new nT
    have s67 := s6.trans s7
    refine q T ys os U _ (s05.trans s67) (s05.free (s6.free nT)) upd_same (obs_same po s67) hU hos ?_
    rw [List.pairwise_iff_getElem]
    intro i j hi hj hij
    obtain ⟨v1, g1, f1⟩ := pr_to po (i := i) (a := os[i]) (by simp [hi])
    obtain ⟨v2, g2, f2⟩ := pr_to po (i := j) (a := os[j]) (by simp [hj])
    obtain ⟨x1, x2⟩ := List.getElem?_eq_some_iff.mp g1
    obtain ⟨x3, x4⟩ := List.getElem?_eq_some_iff.mp g2
    have z := (List.pairwise_iff_getElem.mp hpw) i j x1 x3 hij
    rw [x2, x4, hkf os[i] _ f1, hkf os[j] _ f2] at z
    exact z
theorem ok_objectionsH {f CP CR : Addr} {fd : FuncData} (F : Fun K "objections" "objections" s_objections f fd) (h_check_state : DefH P w K mg base "check_state" 2 (spCsH [CP, CR])) (h_all_objections : DefH P w K mg base "all_objections" 6 (spAllO CP CR)) : FnH P w K mg base (L2.CX P w) 7 f fd ["net", "start", "target"] (spObsH CP CR) := by
  refine okH F sc_objections (fun vs H Q E h => ?_) (fun cdv A outer s H vs Q E pX hr hc h => ?_)
  · obtain ⟨C, x, s, g, ring, n, cs, st, tg, _, rfl, _⟩ := h
    rfl
  · obtain ⟨C, x, s0, g, ring, n, cs, st, tg, hK, rfl, NA, G, hs, so, hg, go, q⟩ := h
    refine ⟨_, (pss_cons (ps_expr (pe_cdH h_check_state hr hc (pa_cons (pv 0) (pa_cons (pv 1) pa_nil))))
      (pss_cons (ps_expr (pe_cdH h_check_state hr hc (pa_cons (pv 0) (pa_cons (pv 2) pa_nil))))
      (pss_one (ps_ret (pe_cdH h_all_objections hr hc (pa_cons (pv 0) (pa_cons (pv 1) (pa_cons (pv 2) pa_nil)))))))), ?_⟩
    refine ⟨_, rfl, _, rfl, C, x, s0, n, cs, st, hK.mem, rfl, NA, G, hs, so, fun H2 s2 => ?_⟩
    refine ⟨_, rfl, _, rfl, C, x, g, n, cs, tg, hK.mem, rfl, NA.same s2, G, s2 _ _ hg, go, fun H3 s3 => ?_⟩
    have s03 := s2.trans s3
    exact ⟨_, rfl, _, rfl, _, rfl, C, x, s0, g, ring, n, cs, st, tg, hK, rfl, NA.same s03, G, s03 _ _ hs, so.1, s03 _ _ hg, go.1, fun T ks os U H4 s4 _ hT po hU pm _ => q T ks os U H4 (s03.trans s4) hT po hU pm⟩
theorem ok_is_objectionH {f N CP CR : Addr} {fd : FuncData} (F : Fun K "is_objection" "is_objection" s_is_objection f fd) (B : Blt mg) (Z : NetK K mg N) (h_objections : DefH P w K mg base "objections" 7 (spObsH CP CR)) (h_is_between : DefH P w K mg base "is_between" 1 (spBtw K)) : FnH P w K mg base (L2.CX P w) 8 f fd ["net", "start", "target", "objection"] (spIsOH CP CR) := by
  refine okH F sc_is_objection (fun vs H Q E h => ?_) (fun cdv A outer s H vs Q E pX hr hc h => ?_)
  · obtain ⟨C, x, s, g, t, ring, n, cs, st, tg, p, _, rfl, _⟩ := h
    rfl
  · obtain ⟨C, x, s0, g, t, ring, n, cs, st, tg, p, hK, rfl, NA, G, hs, so, hg, go, ht, hok, q⟩ := h
    obtain ⟨mc, cr, _, ⟨u2, c2v⟩, _, _⟩ := Z.cr
    
    refine ⟨_, (pss_cons (ps_set (i := 4) sc_is_objection.nd rfl (Or.inl rfl) (pe_cdH h_objections hr hc (pa_cons (pv 0) (pa_cons (pv 1) (pa_cons (pv 2) pa_nil)))))
      (pss_cons (ps_if (PW.pt (pw_or (pt_not (pt_val (pe_callB call_isi (by rfl) B.isi bt_isi (pa_cons (pv 3) (pa_cons (pe_bltn (v := .ty "tuple") (by rfl) B.tuple bt_tuple rfl) pa_nil))))) (pw_or1 (pt_cmpR op_ne (pe_callB call_len_seq (by rfl) B.len bt_len (pa_cons (pv 3) pa_nil)) pe_int (nomark _))))) (pss_one (ps_ret pe_bl)) pss_nil)
      (pss_cons (ps_asg (pv 3) (pg_tupH hc (pgs_cons (pg_name (i := 5) sc_is_objection.nd rfl (Or.inl rfl)) (pgs_cons (pg_name (i := 6) sc_is_objection.nd rfl (Or.inl rfl)) pgs_nil))))
      (pss_one (ps_ret (pe_and (pe_callB call_isi (by rfl) B.isi bt_isi (pa_cons (pv 5) (pa_cons (pe_bltn (v := .ty "str") (by rfl) B.str bt_str rfl) pa_nil))) (pe_and (pe_cdH h_is_between hr hc (pa_cons (pv 6) (pa_cons pe_int (pa_cons (ClX.pe_cval (pe_glob (v := .ref N) (by rfl) Z.gN rfl)) pa_nil)))) (pe_one (pe_cmpR (op_inT (K := K) (un65H hr)) (pv 3) (pv 4) (by rfl)))))))))), ?_⟩
    refine ⟨_, rfl, _, rfl, _, rfl, C, x, s0, g, ring, n, cs, st, tg, hK, rfl, NA, G, hs, so, hg, go, fun T ks os U H2 s2 hT po hU pm => ?_⟩
    have ht2 := s2 _ _ ht
    have fin := q U H2 s2 hU
    refine ⟨_, rfl, _, _, _, _, _, rfl, .ty _, .base (.tup ht2), kit_ty (r := true) (by decide +kernel), _, rfl, iteF ?_⟩
    refine ⟨_, rfl, t, _, rfl, .inr (SqT.of ht2), rfl, _, rfl, iteF ?_⟩
    refine ⟨_, rfl, t, _, rfl, SqT.of ht2, rfl, _, _, rfl, _, _, rfl, rfl, ?_⟩
    refine ⟨_, rfl, _, _, _, _, _, rfl, .ty _, .base (.str _), kit_ty (r := true) (by decide +kernel), _, rfl, ?_⟩
    refine iteT ⟨_, rfl, N, mc, _, u2, rfl, cr, c2v, .int p.2, 0, 120, rfl, trivial, _, rfl, ?_⟩
    cases eb : btw (.int p.2) 0 120 with
    | false =>
      rw [eb, Bool.false_and] at fin
      exact iteF fin
    | true =>
      rw [eb, Bool.true_and] at fin
      refine iteT ⟨_, rfl, _, rfl, obD p, os.map obD, .tup (SqT.of ht2) (.cons (.str _) (.cons (.int _) .nil)), .tup (SqT.of hT) (ob_dp po), ob_shaped p hok, ob_lay os (fun p hp => words_ok hU p (pm.mem_iff.mp hp)), ?_⟩
      rw [ob_any, show decide (p ∈ os) = decide (p ∈ U) from decide_eq_decide.mpr pm.mem_iff]
      exact fin
end
end WC

set_option maxHeartbeats 8000000
namespace WC
open PySem PySem.Spec PyProof.Rows L2
open L2H (HotC RoomH FnH)
theorem ob_rng {cs : List Tri} {st tg : List Int} {n : Nat} {ring : Bool} {U : List Obj_} (h : AllOb cs st tg n ring U) (G : NOk n cs) : ∀ p ∈ U, btw (.int p.2) 0 120 = true := by
  have n40 := G.n40
  have hl := G.len
  have h1 : ∀ p ∈ stageObs cs st tg n, btw (.int p.2) 0 120 = true := fun p hp => by
    unfold stageObs at hp
    obtain ⟨k, hk, hp⟩ := List.mem_flatMap.mp hp
    have hk := List.mem_range.mp hk
    unfold stageOb at hp
    rcases List.mem_append.mp hp with z | z
    · rw [mem_if z]; exact btw_in (show (0 : Int) ≤ k by omega) (show (k : Int) ≤ 120 by omega)
    · rw [mem_if z]; exact btw_in (show (0 : Int) ≤ k by omega) (show (k : Int) ≤ 120 by omega)
  have h2 : ∀ p ∈ (nums cs.length).flatMap (chanOb cs st tg), btw (.int p.2) 0 120 = true := fun p hp => by
    obtain ⟨k, hk, hp⟩ := List.mem_flatMap.mp hp
    obtain ⟨k0, k1⟩ := nums_mem hk
    unfold chanOb at hp
    dsimp only at hp
    split at hp
    · rcases List.mem_append.mp hp with z | z
      · rw [mem_if z]; exact btw_in (show (0 : Int) ≤ k by omega) (show k ≤ 120 by omega)
      · rw [mem_if z]; exact btw_in (show (0 : Int) ≤ k by omega) (show k ≤ 120 by omega)
    · cases hp
  have h3 : ∀ {w : PySem.Str} {f : Int → Bool}, ∀ p ∈ obsP w f tg n, btw (.int p.2) 0 120 = true := fun {w f} p hp => by
    unfold obsP at hp
    obtain ⟨k, hk, rfl⟩ := List.mem_map.mp hp
    have hk := List.mem_range.mp (List.mem_filter.mp hk).1
    exact btw_in (show (0 : Int) ≤ k by omega) (show (k : Int) ≤ 120 by omega)
  rcases h with ⟨_, rfl⟩ | ⟨_, lo, hi, _, _, rfl⟩
  · exact fun p hp => (List.mem_append.mp hp).elim (h1 p) (h2 p)
  · intro p hp
    rcases List.mem_append.mp hp with hp | hp
    · exact (List.mem_append.mp hp).elim (h1 p) (h2 p)
    · exact (List.mem_append.mp hp).elim (h3 p) (h3 p)
def spDistN (CP CR CU : Addr) : Sp := fun vs H Q E => ∃ (C x s g : Addr) (ring : Bool) (n : Nat) (cs : List Tri) (st tg : List Int), KC CP CR C ring ∧ vs = [.ref x, .ref s, .ref g] ∧ NetAt H x C n cs ∧ NOk n cs ∧ H s = some (.tup (fS st)) ∧ StOk n st ∧ H g = some (.tup (fS tg)) ∧ StOk n tg ∧
  (∀ U, AllOb cs st tg n ring U → U = [] → ∀ H2, Same H H2 → Q (.int (distM st tg n)) H2) ∧
  (∀ (U : List Obj_) (o : Obj_), AllOb cs st tg n ring U → o ∈ U → ∀ H2 r d, Same H H2 → ObA H2 o r → H2 d = some (.xd [("objection", r)]) → E (.ref CU) (some d) H2)
section
variable {P : Program} {w : World} {K : PySem.W.Frag} {mg : Str → Option Value} {base : Heap}
theorem ok_distance_N {f CX CU CP CR : Addr} {fd : FuncData} (F : Fun K "distance" "distance" s_distance f fd) (g_objections : DefR P w K mg base "objections" 7 (spO2 K CP CR CX resObs)) (g_moves_between : DefR P w K mg base "moves_between" 1 spMvB) (t_Unreachable : ExcR P w K mg base "Unreachable" CU 1 1 flU) :
    FnOk P w K mg base (L2N.CX P w) 8 f fd ["net", "start", "target"] (spDistN CP CR CU) := by
  refine okN F sc_distance (fun vs H Q E h => ?_) (fun cdv A outer s H vs Q E hr h => ?_)
  · obtain ⟨C, x, s, g, ring, n, cs, st, tg, _, rfl, _⟩ := h
    rfl
  · obtain ⟨C, x, s0, g, ring, n, cs, st, tg, hK, rfl, NA, G, hs, so, hg, go, r1, r2⟩ := h
    have n40 := G.n40
    refine ⟨_, (pss_cons (ps_set (i := 3) sc_distance.nd rfl (Or.inl rfl) (pe_cd g_objections hr passL (pa_cons (pv 0) (pa_cons (pv 1) (pa_cons (pv 2) pa_nil)))))
      (pss_cons (ps_if (pt_truth (pv 3) (by intro _; rfl)) (pss_one (L2N.ps_raise rfl (L2N.takes_of rfl rfl rfl rfl) (pmk_xN t_Unreachable hr (pa_cons (pe_ix ix_tup (pv 3) pe_int (fun _ _ => rfl)) pa_nil)))) pss_nil)
      (pss_one (ps_ret (pe_cd g_moves_between hr passL (pa_cons (pv 1) (pa_cons (pv 2) pa_nil))))))), ?_⟩
    refine ⟨_, rfl, _, rfl, _, rfl, C, x, .ref s0, .ref g, ring, n, cs, hK, rfl, NA, G, st_cand9 hs so n40, st_cand9 hg go n40, fun st2 tg2 ha hk hb hl T ks os U H2 s2 nT hT po hU pm so2 => ?_, fun p b => st_good9 hs so b, fun st2 p _ _ b => st_good9 hg go b⟩
    obtain rfl := st_same9 hs ha
    obtain rfl := st_same9 hg hb
    refine ⟨_, rfl, _, .inr (.inl ⟨_, SqT.of hT, rfl⟩), ?_⟩
    cases po with
    | nil =>
      exact iteF ⟨_, rfl, _, rfl, s0, g, n, st2, tg2, rfl, s2 _ _ hs, so.1, n40, s2 _ _ hg, go.1, fun H3 s3 => r1 U hU (List.nil_perm.mp pm) H3 (s2.trans s3)⟩
    | @cons o v os ks p q =>
      refine iteT ⟨_, rfl, T, _, _, _, rfl, rfl, SqT.of hT, atI_nat (j := 0) rfl, x_use rfl (by decide) fun d hd => ?_⟩
      obtain ⟨tv, ev, hv⟩ := p
      exact r2 U o hU (pm.mem_iff.mp List.mem_cons_self) _ v d (s2.trans (Same.new hd)) ⟨tv, ev, Same.new hd _ _ hv⟩ upd_same
theorem ok_pair14_N {f CU CX CP CR : Addr} {fd : FuncData} (F : Fun K "_law_pair_holds" "_law_pair_holds" s_law_pair_holds f fd) (B : Blt mg) (T : RefE K mg CU) (g_reaches : DefR P w K mg base "reaches" 8 (spO2 K CP CR CX resRch)) (n_distance : DefN P w K mg base "distance" 8 (spDistN CP CR CU)) (h_is_objection : DefH P w K mg base "is_objection" 8 (spIsOH CP CR)) (g_law_is_integer : DefQ P w K mg base "_law_is_integer" 1 (spIsI K)) : FnOk P w K mg base (L2N.CX P w) 9 f fd ["_law_network", "_law_start", "_law_goal", "_law_due"] (spPair14 CP CR) := by
  refine okN F sc_law_pair_holds (fun vs H Q E h => ?_) (fun cdv A outer s H vs Q E hr h => ?_)
  · obtain ⟨C, x, s, g, d, n, cs, st, tg, _, rfl, _⟩ := h
    rfl
  · obtain ⟨C, x, s0, g, d, n, cs, st, tg, hK, rfl, NA, G, hs, so, hg, go, d1, d2, q⟩ := h
    have hrq := L2H.roomH_of hr
    have n40 := G.n40
    have nn := distM_nn st tg n
    refine ⟨_, pss_cons (ps_set (i := 4) sc_law_pair_holds.nd rfl (Or.inl rfl) (pe_cd g_reaches hr passL (pa_cons (pv 0) (pa_cons (pv 1) (pa_cons (pv 2) pa_nil)))))
      (pss_cons (ps_if (PW.pt (pw_or (pt_not (pt_val (pe_callB call_isi (by rfl) B.isi bt_isi (pa_cons (pv 4) (pa_cons (pe_bltn (v := .ty "bool") (by rfl) B.bool bt_bool rfl) pa_nil))))) (pw_or1 (pt_cmpR op_ne (pv 4) (pe_cmpR op_ge (pv 3) pe_int (nomark _)) (nomark _))))) (pss_one (ps_ret pe_bl)) pss_nil)
      (pss_cons (L2N.ps_try_as (i := 6) (c := .ref CU) rfl rfl sc_law_pair_holds.nd rfl rfl ⟨rfl, by decide, Or.inl T.gU⟩ (L2N.takes_of rfl rfl rfl rfl)
        (fun Wt pn xe tk _ => pss_one (ps_set (i := 5) sc_law_pair_holds.nd rfl (Or.inl rfl) (pe_cdN (W := Wt) n_distance (by exact hr) tk (pa_cons (pv 0) (pa_cons (pv 1) (pa_cons (pv 2) pa_nil))))))
        (fun a oe cls d pn hz hf => pss_cons (ps_if (pt_cmpR op_ge (pv 3) pe_int (nomark _)) (pss_one (ps_ret pe_bl)) pss_nil)
          (pss_one (ps_ret (pe_cmpR op_is_bl (pe_cdH (j := 8) h_is_objection (by exact ⟨hrq.dp, hrq.un⟩) (hot_suite hz hf) (pa_cons (pv 0) (pa_cons (pv 1) (pa_cons (pv 2) (pa_cons (pe_xf T.uf T.obj hz.zc hf (pv 6)) pa_nil))))) pe_bl (nomark _))))))
      (pss_one (ps_ret (pe_and (pe_cmpR op_ge (pv 3) pe_int (nomark _)) (pe_and (pe_cq g_law_is_integer hrq (pa_cons (pv 5) pa_nil)) (pe_one (pe_cmpR op_eq (pv 5) (pv 3) (nomark _))))))))), ?_⟩
    refine ⟨_, rfl, _, rfl, _, rfl, C, x, .ref s0, .ref g, true, n, cs, hK, rfl, NA, G, st_cand9 hs so n40, st_cand9 hg go n40, fun st2 tg2 a1 a2 a3 a4 => ?_, fun p b => st_good9 hs so b, fun st2 p _ _ b => st_good9 hg go b⟩
    obtain rfl := st_same9 hs a1
    obtain rfl := st_same9 hg a3
    intro U H2 s2 hU
    have du : decide (U.length = 0) = decide (0 ≤ d) := by
      rw [decide_eq_decide]
      constructor
      · intro e
        rw [d1 ((noAll_iff hU).mp (List.length_eq_zero_iff.mp e))]; exact nn
      · intro e
        refine List.length_eq_zero_iff.mpr ((noAll_iff hU).mpr (Classical.byContradiction fun z => ?_))
        rw [d2 z] at e
        omega
    refine ⟨_, rfl, _, _, _, _, _, rfl, .ty _, .base (.bl _), kit_ty (r := true) (by decide +kernel), _, rfl, iteF ?_⟩
    refine ⟨_, rfl, _, rfl, _, _, rfl, rfl, rfl, _, rfl, ?_⟩
    rw [show (!decide (V.bl (decide (U.length = 0)) = V.bl (decide (0 ≤ d)))) = false by rw [du]; simp]
    refine iteF ⟨_, rfl, _, rfl, _, rfl, C, x, s0, g, true, n, cs, st2, tg2, hK, rfl, NA.same s2, G, s2 _ _ hs, so, s2 _ _ hg, go, fun U2 hU2 e0 H3 s3 => ?_, fun U2 o hU2 om H3 r dd s3 hr2 hd2 => ?_⟩
    · have e1 := d1 ((noAll_iff hU2).mp e0)
      refine ⟨_, rfl, _, _, rfl, rfl, _, rfl, ?_⟩
      rw [show decide ((0 : Int) ≤ d) = true from decide_eq_true (by omega)]
      refine iteT ⟨_, rfl, .int _, rfl, trivial, _, rfl, iteT ⟨_, rfl, _, rfl, rfl, ?_⟩⟩
      have z := q H3 (s2.trans s3)
      rw [show decide (V.int (distM st2 tg2 n) = V.int d) = true from decide_eq_true (by rw [e1])]
      exact z
    · have e1 := d2 fun z => by
        rw [(noAll_iff hU2).mpr z] at om
        cases om
      have s23 := s2.trans s3
      refine ⟨true, T.uU, fun _ a ha => ?_, fun z => by cases z⟩
      obtain ⟨to, rfl, hto⟩ := hr2
      refine ⟨_, rfl, _, _, rfl, rfl, _, rfl, ?_⟩
      rw [show decide ((0 : Int) ≤ d) = false from decide_eq_false (by omega)]
      refine iteF ⟨_, rfl, _, rfl, _, rfl, _, rfl, rfl, rfl, dd, _, _, rfl, hd2, rfl, C, x, s0, g, to, true, n, cs, st2, tg2, o, hK, rfl, NA.same s23, G, s23 _ _ hs, so, s23 _ _ hg, go, hto, words_ok hU2 o om, fun U3 H4 s4 hU3 => ?_⟩
      obtain rfl := hU2.uniq hU3
      refine ⟨_, _, rfl, rfl, ?_⟩
      have rng : btw (.int o.2) 0 120 = true := ob_rng hU2 G o om
      rw [rng, Bool.true_and, decide_eq_true om]
      exact q H4 (s23.trans s4)
end
end WC

set_option maxHeartbeats 16000000
namespace WC
open PySem PySem.Spec PyProof.Rows L2
theorem raw0 {P : Program} {w : World} {K : PySem.W.Frag} {mg : Str → Option Value} {base : Heap} {CX : CXT} {k : Nat} {f : Addr} {fd : FuncData} {ps : List Str} {sp : Sp} (F : FnOk P w K mg base CX k f fd ps sp) (hb : Binds K fd ps []) : FnR P w K mg base CX k f sp :=
  (F.raw hb .nil).imp fun vs H Q E h => by
    rw [List.append_nil]
    exact h
abbrev PK : Program := PySem.Challenge.pw_withincall_k14_whole_rings
theorem all_k14 {w : World} {K : PySem.W.Frag} {h : Heap} {mg : Str → Option Value} {fa : Addr} (X : K.In h) (G : h.Ns mainGlobals mg) (hfa : mg "law" = some (.ref fa))
    {fbtw : Addr}
    {ocbtw kVbtw dcbtw pmbtw cdbtw ctbtw : Value} {odbtw anbtw : Option Addr} {slbtw : Array (Option Value)}
    {fchk : Addr}
    {occhk kVchk dcchk pmchk cdchk ctchk : Value} {odchk anchk : Option Addr} {slchk : Array (Option Value)}
    {fnat : Addr}
    {ocnat kVnat dcnat pmnat cdnat ctnat : Value} {odnat annat : Option Addr} {slnat : Array (Option Value)}
    {fcst : Addr}
    {occst kVcst dccst pmcst cdcst ctcst : Value} {odcst ancst : Option Addr} {slcst : Array (Option Value)}
    {fimv : Addr}
    {ocimv kVimv dcimv pmimv cdimv ctimv : Value} {odimv animv : Option Addr} {slimv : Array (Option Value)}
    {foki : Addr}
    {ocoki kVoki dcoki pmoki cdoki ctoki : Value} {odoki anoki : Option Addr} {sloki : Array (Option Value)}
    {fsid : Addr}
    {ocsid kVsid dcsid pmsid cdsid ctsid : Value} {odsid ansid : Option Addr} {slsid : Array (Option Value)}
    {fial : Addr}
    {ocial kVial dcial pmial cdial ctial : Value} {odial anial : Option Addr} {slial : Array (Option Value)}
    {fbeh : Addr}
    {ocbeh kVbeh dcbeh pmbeh cdbeh ctbeh : Value} {odbeh anbeh : Option Addr} {slbeh : Array (Option Value)}
    {fird : Addr}
    {ocird kVird dcird pmird cdird ctird : Value} {odird anird : Option Addr} {slird : Array (Option Value)}
    {fobj : Addr}
    {ocobj kVobj dcobj pmobj cdobj ctobj : Value} {odobj anobj : Option Addr} {slobj : Array (Option Value)}
    {fiso : Addr}
    {ociso kViso dciso pmiso cdiso ctiso : Value} {odiso aniso : Option Addr} {sliso : Array (Option Value)}
    {frea : Addr}
    {ocrea kVrea dcrea pmrea cdrea ctrea : Value} {odrea anrea : Option Addr} {slrea : Array (Option Value)}
    {fdis : Addr}
    {ocdis kVdis dcdis pmdis cddis ctdis : Value} {oddis andis : Option Addr} {sldis : Array (Option Value)}
    {fpla : Addr}
    {ocpla kVpla dcpla pmpla cdpla ctpla : Value} {odpla anpla : Option Addr} {slpla : Array (Option Value)}
    {fipl : Addr}
    {ocipl kVipl dcipl pmipl cdipl ctipl : Value} {odipl anipl : Option Addr} {slipl : Array (Option Value)}
    {fple : Addr}
    {ocple kVple dcple pmple cdple ctple : Value} {odple anple : Option Addr} {slple : Array (Option Value)}
    {fall : Addr}
    {ocall kVall dcall pmall cdall ctall : Value} {odall anall : Option Addr} {slall : Array (Option Value)}
    {fdrw : Addr}
    {ocdrw kVdrw dcdrw pmdrw cddrw ctdrw : Value} {oddrw andrw : Option Addr} {sldrw : Array (Option Value)}
    {fmvb : Addr}
    {ocmvb kVmvb dcmvb pmmvb cdmvb ctmvb : Value} {odmvb anmvb : Option Addr} {slmvb : Array (Option Value)}
    {fsto : Addr}
    {ocsto kVsto dcsto pmsto cdsto ctsto : Value} {odsto ansto : Option Addr} {slsto : Array (Option Value)}
    {fcho : Addr}
    {occho kVcho dccho pmcho cdcho ctcho : Value} {odcho ancho : Option Addr} {slcho : Array (Option Value)}
    {frgo : Addr}
    {ocrgo kVrgo dcrgo pmrgo cdrgo ctrgo : Value} {odrgo anrgo : Option Addr} {slrgo : Array (Option Value)}
    {fmtw : Addr}
    {ocmtw kVmtw dcmtw pmmtw cdmtw ctmtw : Value} {odmtw anmtw : Option Addr} {slmtw : Array (Option Value)}
    {fbpl : Addr}
    {ocbpl kVbpl dcbpl pmbpl cdbpl ctbpl : Value} {odbpl anbpl : Option Addr} {slbpl : Array (Option Value)}
    {ffmv : Addr}
    {ocfmv kVfmv dcfmv pmfmv cdfmv ctfmv : Value} {odfmv anfmv : Option Addr} {slfmv : Array (Option Value)}
    {fisi : Addr}
    {ocisi kVisi dcisi pmisi cdisi ctisi : Value} {odisi anisi : Option Addr} {slisi : Array (Option Value)}
    {fbox : Addr}
    {ocbox kVbox dcbox pmbox cdbox ctbox : Value} {odbox anbox : Option Addr} {slbox : Array (Option Value)}
    {ftak : Addr}
    {octak kVtak dctak pmtak cdtak cttak : Value} {odtak antak : Option Addr} {sltak : Array (Option Value)}
    {frin : Addr}
    {ocrin kVrin dcrin pmrin cdrin ctrin : Value} {odrin anrin : Option Addr} {slrin : Array (Option Value)}
    {fmov : Addr}
    {ocmov kVmov dcmov pmmov cdmov ctmov : Value} {odmov anmov : Option Addr} {slmov : Array (Option Value)}
    {falw : Addr}
    {ocalw kValw dcalw pmalw cdalw ctalw : Value} {odalw analw : Option Addr} {slalw : Array (Option Value)}
    {faft : Addr}
    {ocaft kVaft dcaft pmaft cdaft ctaft : Value} {odaft anaft : Option Addr} {slaft : Array (Option Value)}
    {fsta : Addr}
    {ocsta kVsta dcsta pmsta cdsta ctsta : Value} {odsta ansta : Option Addr} {slsta : Array (Option Value)}
    {froa : Addr}
    {ocroa kVroa dcroa pmroa cdroa ctroa : Value} {odroa anroa : Option Addr} {slroa : Array (Option Value)}
    {fsea : Addr}
    {ocsea kVsea dcsea pmsea cdsea ctsea : Value} {odsea ansea : Option Addr} {slsea : Array (Option Value)}
    {fobh : Addr}
    {ocobh kVobh dcobh pmobh cdobh ctobh : Value} {odobh anobh : Option Addr} {slobh : Array (Option Value)}
    {flpa : Addr}
    {oclpa kVlpa dclpa pmlpa cdlpa ctlpa : Value} {odlpa anlpa : Option Addr} {sllpa : Array (Option Value)}
    {ftur : Addr}
    {octur kVtur dctur pmtur cdtur cttur : Value} {odtur antur : Option Addr} {sltur : Array (Option Value)}
    {fsma : Addr}
    {ocsma kVsma dcsma pmsma cdsma ctsma : Value} {odsma ansma : Option Addr} {slsma : Array (Option Value)}
    {fplh : Addr}
    {ocplh kVplh dcplh pmplh cdplh ctplh : Value} {odplh anplh : Option Addr} {slplh : Array (Option Value)}
    {fsts : Addr}
    {ocsts kVsts dcsts pmsts cdsts ctsts : Value} {odsts ansts : Option Addr} {slsts : Array (Option Value)}
    {flaw : Addr}
    {oclaw kVlaw dclaw pmlaw cdlaw ctlaw : Value} {odlaw anlaw : Option Addr} {sllaw : Array (Option Value)}
    {CN fxN NNN : Addr} {nmN qnN : Str} {bsN bmN subN : List Value} {snN : List Str} {abN : Bool} {coN : Option Bool} {ddN : Option Addr} {m0N m1N m2N m3N m5N : Option Value}
    {ocxN kVxN dcxN pmxN cdxN ctxN : Value} {odxN anxN : Option Addr} {slxN : Array (Option Value)}
    {CI fxI NNI : Addr} {nmI qnI : Str} {bsI bmI subI : List Value} {snI : List Str} {abI : Bool} {coI : Option Bool} {ddI : Option Addr} {m0I m1I m2I m3I m5I : Option Value}
    {ocxI kVxI dcxI pmxI cdxI ctxI : Value} {odxI anxI : Option Addr} {slxI : Array (Option Value)}
    {CX fxX NNX : Addr} {nmX qnX : Str} {bsX bmX subX : List Value} {snX : List Str} {abX : Bool} {coX : Option Bool} {ddX : Option Addr} {m0X m1X m2X m3X m5X : Option Value}
    {ocxX kVxX dcxX pmxX cdxX ctxX : Value} {odxX anxX : Option Addr} {slxX : Array (Option Value)}
    {CU fxU NNU : Addr} {nmU qnU : Str} {bsU bmU subU : List Value} {snU : List Str} {abU : Bool} {coU : Option Bool} {ddU : Option Addr} {m0U m1U m2U m3U m5U : Option Value}
    {ocxU kVxU dcxU pmxU cdxU ctxU : Value} {odxU anxU : Option Addr} {slxU : Array (Option Value)}
    {CT fxT NNT : Addr} {nmT qnT : Str} {bsT bmT subT : List Value} {snT : List Str} {abT : Bool} {coT : Option Bool} {ddT : Option Addr} {m0T m1T m2T m3T m5T : Option Value}
    {ocxT kVxT dcxT pmxT cdxT ctxT : Value} {odxT anxT : Option Addr} {slxT : Array (Option Value)}
    {tMM : Tok}
    {ktK : Addr} {kdK : Option Addr} {kxK0 kxK1 : Tok} {knK : Nat} {ksK : Array (Option Value)}
    {N pIC gIC : Addr} {restIC : List Value} {t1 t2 t3 t4 : Tok}
    {ocIC kVIC dcIC pmIC cdIC ctIC : Value} {odIC anIC : Option Addr} {slIC : Array (Option Value)}
    {fNI : Addr}
    {CR iniR ccR cdaR : Addr}
    {kVRing : Value} {tL : Tok}
    {oSR dSR pSR tSR kc_R o1R : Value} {qSR nSR_ dc_R o2R : Option Addr} {sSR lc_R o3R : Array (Option Value)} {vsR : Array Value} {fileR : Str} {tkR : Tok}
    {ocNI kVNI dcNI pmNI cdNI ctNI : Value} {odNI anNI : Option Addr} {slNI : Array (Option Value)}
    {qinc : Addr}
    {ocMinc kVMinc dcMinc pmMinc cdMinc ctMinc : Value} {odMinc anMinc : Option Addr} {slMinc : Array (Option Value)}
    {qout : Addr}
    {ocMout kVMout dcMout pmMout cdMout ctMout : Value} {odMout anMout : Option Addr} {slMout : Array (Option Value)}
    {qisrR : Addr}
    {ocMisrR kVMisrR dcMisrR pmMisrR cdMisrR ctMisrR : Value} {odMisrR anMisrR : Option Addr} {slMisrR : Array (Option Value)}
    (z_isi : PySem.W.nsIn K mainGlobals "isinstance" = some none)
    (z_int : PySem.W.nsIn K mainGlobals "int" = some none)
    (z_bool : PySem.W.nsIn K mainGlobals "bool" = some none)
    (z_tuple : PySem.W.nsIn K mainGlobals "tuple" = some none)
    (z_list : PySem.W.nsIn K mainGlobals "list" = some none)
    (z_str : PySem.W.nsIn K mainGlobals "str" = some none)
    (z_len : PySem.W.nsIn K mainGlobals "len" = some none)
    (z_range : PySem.W.nsIn K mainGlobals "range" = some none)
    (z_sorted : PySem.W.nsIn K mainGlobals "sorted" = some none)
    (z_enum : PySem.W.nsIn K mainGlobals "enumerate" = some none)
    (z_sum : PySem.W.nsIn K mainGlobals "sum" = some none)
    (z_all : PySem.W.nsIn K mainGlobals "all" = some none)
    (z_max : PySem.W.nsIn K mainGlobals "max" = some none)
    (z_min : PySem.W.nsIn K mainGlobals "min" = some none)
    (z_verr : PySem.W.nsIn K mainGlobals "ValueError" = some none)
    (z_sup : PySem.W.nsIn K mainGlobals "super" = some none)
    (z_zip : PySem.W.nsIn K mainGlobals "zip" = some none)
    (z_abs : PySem.W.nsIn K mainGlobals "abs" = some none)
    (abtw : PySem.W.nsIn K mainGlobals "is_between" = some (some (.ref fbtw)))
    (lbtw : K.lookup fbtw = some ⟨ocbtw, odbtw, .func (PySem.W.fnOf "is_between" "is_between" (defArgs s_is_between) (defBody s_is_between) (defScope s_is_between) .none kVbtw dcbtw pmbtw anbtw cdbtw ctbtw), slbtw⟩)
    (cbtw : PySem.W.codeIn K cdbtw "is_between" = true)
    (kbtw : PySem.W.keepIn K (.ref fbtw) = true)
    (achk : PySem.W.nsIn K mainGlobals "check_number" = some (some (.ref fchk)))
    (lchk : K.lookup fchk = some ⟨occhk, odchk, .func (PySem.W.fnOf "check_number" "check_number" (defArgs s_check_number) (defBody s_check_number) (defScope s_check_number) .none kVchk dcchk pmchk anchk cdchk ctchk), slchk⟩)
    (cchk : PySem.W.codeIn K cdchk "check_number" = true)
    (kchk : PySem.W.keepIn K (.ref fchk) = true)
    (anat : PySem.W.nsIn K mainGlobals "_numbers_at" = some (some (.ref fnat)))
    (lnat : K.lookup fnat = some ⟨ocnat, odnat, .func (PySem.W.fnOf "_numbers_at" "_numbers_at" (defArgs s_numbers_at) (defBody s_numbers_at) (defScope s_numbers_at) .none kVnat dcnat pmnat annat cdnat ctnat), slnat⟩)
    (cnat : PySem.W.codeIn K cdnat "_numbers_at" = true)
    (knat : PySem.W.keepIn K (.ref fnat) = true)
    (acst : PySem.W.nsIn K mainGlobals "check_state" = some (some (.ref fcst)))
    (lcst : K.lookup fcst = some ⟨occst, odcst, .func (PySem.W.fnOf "check_state" "check_state" (defArgs s_check_state) (defBody s_check_state) (defScope s_check_state) .none kVcst dccst pmcst ancst cdcst ctcst), slcst⟩)
    (ccst : PySem.W.codeIn K cdcst "check_state" = true)
    (kcst : PySem.W.keepIn K (.ref fcst) = true)
    (aimv : PySem.W.nsIn K mainGlobals "is_move" = some (some (.ref fimv)))
    (limv : K.lookup fimv = some ⟨ocimv, odimv, .func (PySem.W.fnOf "is_move" "is_move" (defArgs s_is_move) (defBody s_is_move) (defScope s_is_move) .none kVimv dcimv pmimv animv cdimv ctimv), slimv⟩)
    (cimv : PySem.W.codeIn K cdimv "is_move" = true)
    (kimv : PySem.W.keepIn K (.ref fimv) = true)
    (aoki : PySem.W.nsIn K mainGlobals "other_kind" = some (some (.ref foki)))
    (loki : K.lookup foki = some ⟨ocoki, odoki, .func (PySem.W.fnOf "other_kind" "other_kind" (defArgs s_other_kind) (defBody s_other_kind) (defScope s_other_kind) .none kVoki dcoki pmoki anoki cdoki ctoki), sloki⟩)
    (coki : PySem.W.codeIn K cdoki "other_kind" = true)
    (koki : PySem.W.keepIn K (.ref foki) = true)
    (asid : PySem.W.nsIn K mainGlobals "side_of" = some (some (.ref fsid)))
    (lsid : K.lookup fsid = some ⟨ocsid, odsid, .func (PySem.W.fnOf "side_of" "side_of" (defArgs s_side_of) (defBody s_side_of) (defScope s_side_of) .none kVsid dcsid pmsid ansid cdsid ctsid), slsid⟩)
    (csid : PySem.W.codeIn K cdsid "side_of" = true)
    (ksid : PySem.W.keepIn K (.ref fsid) = true)
    (aial : PySem.W.nsIn K mainGlobals "is_allowed" = some (some (.ref fial)))
    (lial : K.lookup fial = some ⟨ocial, odial, .func (PySem.W.fnOf "is_allowed" "is_allowed" (defArgs s_is_allowed) (defBody s_is_allowed) (defScope s_is_allowed) .none kVial dcial pmial anial cdial ctial), slial⟩)
    (cial : PySem.W.codeIn K cdial "is_allowed" = true)
    (kial : PySem.W.keepIn K (.ref fial) = true)
    (abeh : PySem.W.nsIn K mainGlobals "state_behind" = some (some (.ref fbeh)))
    (lbeh : K.lookup fbeh = some ⟨ocbeh, odbeh, .func (PySem.W.fnOf "state_behind" "state_behind" (defArgs s_state_behind) (defBody s_state_behind) (defScope s_state_behind) .none kVbeh dcbeh pmbeh anbeh cdbeh ctbeh), slbeh⟩)
    (cbeh : PySem.W.codeIn K cdbeh "state_behind" = true)
    (kbeh : PySem.W.keepIn K (.ref fbeh) = true)
    (aird : PySem.W.nsIn K mainGlobals "_is_ready" = some (some (.ref fird)))
    (lird : K.lookup fird = some ⟨ocird, odird, .func (PySem.W.fnOf "_is_ready" "_is_ready" (defArgs s_is_ready) (defBody s_is_ready) (defScope s_is_ready) .none kVird dcird pmird anird cdird ctird), slird⟩)
    (cird : PySem.W.codeIn K cdird "_is_ready" = true)
    (kird : PySem.W.keepIn K (.ref fird) = true)
    (aobj : PySem.W.nsIn K mainGlobals "objections" = some (some (.ref fobj)))
    (lobj : K.lookup fobj = some ⟨ocobj, odobj, .func (PySem.W.fnOf "objections" "objections" (defArgs s_objections) (defBody s_objections) (defScope s_objections) .none kVobj dcobj pmobj anobj cdobj ctobj), slobj⟩)
    (cobj : PySem.W.codeIn K cdobj "objections" = true)
    (kobj : PySem.W.keepIn K (.ref fobj) = true)
    (aiso : PySem.W.nsIn K mainGlobals "is_objection" = some (some (.ref fiso)))
    (liso : K.lookup fiso = some ⟨ociso, odiso, .func (PySem.W.fnOf "is_objection" "is_objection" (defArgs s_is_objection) (defBody s_is_objection) (defScope s_is_objection) .none kViso dciso pmiso aniso cdiso ctiso), sliso⟩)
    (ciso : PySem.W.codeIn K cdiso "is_objection" = true)
    (kiso : PySem.W.keepIn K (.ref fiso) = true)
    (area : PySem.W.nsIn K mainGlobals "reaches" = some (some (.ref frea)))
    (lrea : K.lookup frea = some ⟨ocrea, odrea, .func (PySem.W.fnOf "reaches" "reaches" (defArgs s_reaches) (defBody s_reaches) (defScope s_reaches) .none kVrea dcrea pmrea anrea cdrea ctrea), slrea⟩)
    (crea : PySem.W.codeIn K cdrea "reaches" = true)
    (krea : PySem.W.keepIn K (.ref frea) = true)
    (adis : PySem.W.nsIn K mainGlobals "distance" = some (some (.ref fdis)))
    (ldis : K.lookup fdis = some ⟨ocdis, oddis, .func (PySem.W.fnOf "distance" "distance" (defArgs s_distance) (defBody s_distance) (defScope s_distance) .none kVdis dcdis pmdis andis cddis ctdis), sldis⟩)
    (cdis : PySem.W.codeIn K cddis "distance" = true)
    (kdis : PySem.W.keepIn K (.ref fdis) = true)
    (apla : PySem.W.nsIn K mainGlobals "plan" = some (some (.ref fpla)))
    (lpla : K.lookup fpla = some ⟨ocpla, odpla, .func (PySem.W.fnOf "plan" "plan" (defArgs s_plan) (defBody s_plan) (defScope s_plan) .none kVpla dcpla pmpla anpla cdpla ctpla), slpla⟩)
    (cpla : PySem.W.codeIn K cdpla "plan" = true)
    (kpla : PySem.W.keepIn K (.ref fpla) = true)
    (aipl : PySem.W.nsIn K mainGlobals "is_plan" = some (some (.ref fipl)))
    (lipl : K.lookup fipl = some ⟨ocipl, odipl, .func (PySem.W.fnOf "is_plan" "is_plan" (defArgs s_is_plan) (defBody s_is_plan) (defScope s_is_plan) .none kVipl dcipl pmipl anipl cdipl ctipl), slipl⟩)
    (cipl : PySem.W.codeIn K cdipl "is_plan" = true)
    (kipl : PySem.W.keepIn K (.ref fipl) = true)
    (aple : PySem.W.nsIn K mainGlobals "plan_length" = some (some (.ref fple)))
    (lple : K.lookup fple = some ⟨ocple, odple, .func (PySem.W.fnOf "plan_length" "plan_length" (defArgs s_plan_length) (defBody s_plan_length) (defScope s_plan_length) .none kVple dcple pmple anple cdple ctple), slple⟩)
    (cple : PySem.W.codeIn K cdple "plan_length" = true)
    (kple : PySem.W.keepIn K (.ref fple) = true)
    (aall : PySem.W.nsIn K mainGlobals "all_objections" = some (some (.ref fall)))
    (lall : K.lookup fall = some ⟨ocall, odall, .func (PySem.W.fnOf "all_objections" "all_objections" (defArgs s_all_objections) (defBody s_all_objections) (defScope s_all_objections) .none kVall dcall pmall anall cdall ctall), slall⟩)
    (call : PySem.W.codeIn K cdall "all_objections" = true)
    (kall : PySem.W.keepIn K (.ref fall) = true)
    (adrw : PySem.W.nsIn K mainGlobals "draws_from" = some (some (.ref fdrw)))
    (ldrw : K.lookup fdrw = some ⟨ocdrw, oddrw, .func (PySem.W.fnOf "draws_from" "draws_from" (defArgs s_draws_from) (defBody s_draws_from) (defScope s_draws_from) .none kVdrw dcdrw pmdrw andrw cddrw ctdrw), sldrw⟩)
    (cdrw : PySem.W.codeIn K cddrw "draws_from" = true)
    (kdrw : PySem.W.keepIn K (.ref fdrw) = true)
    (amvb : PySem.W.nsIn K mainGlobals "moves_between" = some (some (.ref fmvb)))
    (lmvb : K.lookup fmvb = some ⟨ocmvb, odmvb, .func (PySem.W.fnOf "moves_between" "moves_between" (defArgs s_moves_between) (defBody s_moves_between) (defScope s_moves_between) .none kVmvb dcmvb pmmvb anmvb cdmvb ctmvb), slmvb⟩)
    (cmvb : PySem.W.codeIn K cdmvb "moves_between" = true)
    (kmvb : PySem.W.keepIn K (.ref fmvb) = true)
    (asto : PySem.W.nsIn K mainGlobals "_stage_objections" = some (some (.ref fsto)))
    (lsto : K.lookup fsto = some ⟨ocsto, odsto, .func (PySem.W.fnOf "_stage_objections" "_stage_objections" (defArgs s_stage_objections) (defBody s_stage_objections) (defScope s_stage_objections) .none kVsto dcsto pmsto ansto cdsto ctsto), slsto⟩)
    (csto : PySem.W.codeIn K cdsto "_stage_objections" = true)
    (ksto : PySem.W.keepIn K (.ref fsto) = true)
    (acho : PySem.W.nsIn K mainGlobals "_channel_objections" = some (some (.ref fcho)))
    (lcho : K.lookup fcho = some ⟨occho, odcho, .func (PySem.W.fnOf "_channel_objections" "_channel_objections" (defArgs s_channel_objections) (defBody s_channel_objections) (defScope s_channel_objections) .none kVcho dccho pmcho ancho cdcho ctcho), slcho⟩)
    (ccho : PySem.W.codeIn K cdcho "_channel_objections" = true)
    (kcho : PySem.W.keepIn K (.ref fcho) = true)
    (argo : PySem.W.nsIn K mainGlobals "_range_objections" = some (some (.ref frgo)))
    (lrgo : K.lookup frgo = some ⟨ocrgo, odrgo, .func (PySem.W.fnOf "_range_objections" "_range_objections" (defArgs s_range_objections) (defBody s_range_objections) (defScope s_range_objections) .none kVrgo dcrgo pmrgo anrgo cdrgo ctrgo), slrgo⟩)
    (crgo : PySem.W.codeIn K cdrgo "_range_objections" = true)
    (krgo : PySem.W.keepIn K (.ref frgo) = true)
    (amtw : PySem.W.nsIn K mainGlobals "_moves_towards" = some (some (.ref fmtw)))
    (lmtw : K.lookup fmtw = some ⟨ocmtw, odmtw, .func (PySem.W.fnOf "_moves_towards" "_moves_towards" (defArgs s_moves_towards) (defBody s_moves_towards) (defScope s_moves_towards) .none kVmtw dcmtw pmmtw anmtw cdmtw ctmtw), slmtw⟩)
    (cmtw : PySem.W.codeIn K cdmtw "_moves_towards" = true)
    (kmtw : PySem.W.keepIn K (.ref fmtw) = true)
    (abpl : PySem.W.nsIn K mainGlobals "_begins_plan" = some (some (.ref fbpl)))
    (lbpl : K.lookup fbpl = some ⟨ocbpl, odbpl, .func (PySem.W.fnOf "_begins_plan" "_begins_plan" (defArgs s_begins_plan) (defBody s_begins_plan) (defScope s_begins_plan) .none kVbpl dcbpl pmbpl anbpl cdbpl ctbpl), slbpl⟩)
    (cbpl : PySem.W.codeIn K cdbpl "_begins_plan" = true)
    (kbpl : PySem.W.keepIn K (.ref fbpl) = true)
    (afmv : PySem.W.nsIn K mainGlobals "_first_move" = some (some (.ref ffmv)))
    (lfmv : K.lookup ffmv = some ⟨ocfmv, odfmv, .func (PySem.W.fnOf "_first_move" "_first_move" (defArgs s_first_move) (defBody s_first_move) (defScope s_first_move) .none kVfmv dcfmv pmfmv anfmv cdfmv ctfmv), slfmv⟩)
    (cfmv : PySem.W.codeIn K cdfmv "_first_move" = true)
    (kfmv : PySem.W.keepIn K (.ref ffmv) = true)
    (aisi : PySem.W.nsIn K mainGlobals "_law_is_integer" = some (some (.ref fisi)))
    (lisi : K.lookup fisi = some ⟨ocisi, odisi, .func (PySem.W.fnOf "_law_is_integer" "_law_is_integer" (defArgs s_law_is_integer) (defBody s_law_is_integer) (defScope s_law_is_integer) .none kVisi dcisi pmisi anisi cdisi ctisi), slisi⟩)
    (cisi : PySem.W.codeIn K cdisi "_law_is_integer" = true)
    (kisi : PySem.W.keepIn K (.ref fisi) = true)
    (abox : PySem.W.nsIn K mainGlobals "_law_box" = some (some (.ref fbox)))
    (lbox : K.lookup fbox = some ⟨ocbox, odbox, .func (PySem.W.fnOf "_law_box" "_law_box" (defArgs s_law_box) (defBody s_law_box) (defScope s_law_box) .none kVbox dcbox pmbox anbox cdbox ctbox), slbox⟩)
    (cbox : PySem.W.codeIn K cdbox "_law_box" = true)
    (kbox : PySem.W.keepIn K (.ref fbox) = true)
    (atak : PySem.W.nsIn K mainGlobals "_law_take" = some (some (.ref ftak)))
    (ltak : K.lookup ftak = some ⟨octak, odtak, .func (PySem.W.fnOf "_law_take" "_law_take" (defArgs s_law_take) (defBody s_law_take) (defScope s_law_take) .none kVtak dctak pmtak antak cdtak cttak), sltak⟩)
    (ctak : PySem.W.codeIn K cdtak "_law_take" = true)
    (ktak : PySem.W.keepIn K (.ref ftak) = true)
    (arin : PySem.W.nsIn K mainGlobals "_law_ring" = some (some (.ref frin)))
    (lrin : K.lookup frin = some ⟨ocrin, odrin, .func (PySem.W.fnOf "_law_ring" "_law_ring" (defArgs s_law_ring) (defBody s_law_ring) (defScope s_law_ring) .none kVrin dcrin pmrin anrin cdrin ctrin), slrin⟩)
    (crin : PySem.W.codeIn K cdrin "_law_ring" = true)
    (krin : PySem.W.keepIn K (.ref frin) = true)
    (amov : PySem.W.nsIn K mainGlobals "_law_moves" = some (some (.ref fmov)))
    (lmov : K.lookup fmov = some ⟨ocmov, odmov, .func (PySem.W.fnOf "_law_moves" "_law_moves" (defArgs s_law_moves) (defBody s_law_moves) (defScope s_law_moves) .none kVmov dcmov pmmov anmov cdmov ctmov), slmov⟩)
    (cmov : PySem.W.codeIn K cdmov "_law_moves" = true)
    (kmov : PySem.W.keepIn K (.ref fmov) = true)
    (aalw : PySem.W.nsIn K mainGlobals "_law_is_allowed" = some (some (.ref falw)))
    (lalw : K.lookup falw = some ⟨ocalw, odalw, .func (PySem.W.fnOf "_law_is_allowed" "_law_is_allowed" (defArgs s_law_is_allowed) (defBody s_law_is_allowed) (defScope s_law_is_allowed) .none kValw dcalw pmalw analw cdalw ctalw), slalw⟩)
    (calw : PySem.W.codeIn K cdalw "_law_is_allowed" = true)
    (kalw : PySem.W.keepIn K (.ref falw) = true)
    (aaft : PySem.W.nsIn K mainGlobals "_law_after" = some (some (.ref faft)))
    (laft : K.lookup faft = some ⟨ocaft, odaft, .func (PySem.W.fnOf "_law_after" "_law_after" (defArgs s_law_after) (defBody s_law_after) (defScope s_law_after) .none kVaft dcaft pmaft anaft cdaft ctaft), slaft⟩)
    (caft : PySem.W.codeIn K cdaft "_law_after" = true)
    (kaft : PySem.W.keepIn K (.ref faft) = true)
    (asta : PySem.W.nsIn K mainGlobals "_law_states" = some (some (.ref fsta)))
    (lsta : K.lookup fsta = some ⟨ocsta, odsta, .func (PySem.W.fnOf "_law_states" "_law_states" (defArgs s_law_states) (defBody s_law_states) (defScope s_law_states) .none kVsta dcsta pmsta ansta cdsta ctsta), slsta⟩)
    (csta : PySem.W.codeIn K cdsta "_law_states" = true)
    (ksta : PySem.W.keepIn K (.ref fsta) = true)
    (aroa : PySem.W.nsIn K mainGlobals "_law_roads" = some (some (.ref froa)))
    (lroa : K.lookup froa = some ⟨ocroa, odroa, .func (PySem.W.fnOf "_law_roads" "_law_roads" (defArgs s_law_roads) (defBody s_law_roads) (defScope s_law_roads) .none kVroa dcroa pmroa anroa cdroa ctroa), slroa⟩)
    (croa : PySem.W.codeIn K cdroa "_law_roads" = true)
    (kroa : PySem.W.keepIn K (.ref froa) = true)
    (asea : PySem.W.nsIn K mainGlobals "_law_search" = some (some (.ref fsea)))
    (lsea : K.lookup fsea = some ⟨ocsea, odsea, .func (PySem.W.fnOf "_law_search" "_law_search" (defArgs s_law_search) (defBody s_law_search) (defScope s_law_search) .none kVsea dcsea pmsea ansea cdsea ctsea), slsea⟩)
    (csea : PySem.W.codeIn K cdsea "_law_search" = true)
    (ksea : PySem.W.keepIn K (.ref fsea) = true)
    (aobh : PySem.W.nsIn K mainGlobals "_law_objections_hold" = some (some (.ref fobh)))
    (lobh : K.lookup fobh = some ⟨ocobh, odobh, .func (PySem.W.fnOf "_law_objections_hold" "_law_objections_hold" (defArgs s_law_objections_hold) (defBody s_law_objections_hold) (defScope s_law_objections_hold) .none kVobh dcobh pmobh anobh cdobh ctobh), slobh⟩)
    (cobh : PySem.W.codeIn K cdobh "_law_objections_hold" = true)
    (kobh : PySem.W.keepIn K (.ref fobh) = true)
    (alpa : PySem.W.nsIn K mainGlobals "_law_pair_holds" = some (some (.ref flpa)))
    (llpa : K.lookup flpa = some ⟨oclpa, odlpa, .func (PySem.W.fnOf "_law_pair_holds" "_law_pair_holds" (defArgs s_law_pair_holds) (defBody s_law_pair_holds) (defScope s_law_pair_holds) .none kVlpa dclpa pmlpa anlpa cdlpa ctlpa), sllpa⟩)
    (clpa : PySem.W.codeIn K cdlpa "_law_pair_holds" = true)
    (klpa : PySem.W.keepIn K (.ref flpa) = true)
    (atur : PySem.W.nsIn K mainGlobals "_law_turned_round" = some (some (.ref ftur)))
    (ltur : K.lookup ftur = some ⟨octur, odtur, .func (PySem.W.fnOf "_law_turned_round" "_law_turned_round" (defArgs s_law_turned_round) (defBody s_law_turned_round) (defScope s_law_turned_round) .none kVtur dctur pmtur antur cdtur cttur), sltur⟩)
    (ctur : PySem.W.codeIn K cdtur "_law_turned_round" = true)
    (ktur : PySem.W.keepIn K (.ref ftur) = true)
    (asma : PySem.W.nsIn K mainGlobals "_law_is_smaller_first" = some (some (.ref fsma)))
    (lsma : K.lookup fsma = some ⟨ocsma, odsma, .func (PySem.W.fnOf "_law_is_smaller_first" "_law_is_smaller_first" (defArgs s_law_is_smaller_first) (defBody s_law_is_smaller_first) (defScope s_law_is_smaller_first) .none kVsma dcsma pmsma ansma cdsma ctsma), slsma⟩)
    (csma : PySem.W.codeIn K cdsma "_law_is_smaller_first" = true)
    (ksma : PySem.W.keepIn K (.ref fsma) = true)
    (aplh : PySem.W.nsIn K mainGlobals "_law_plan_holds" = some (some (.ref fplh)))
    (lplh : K.lookup fplh = some ⟨ocplh, odplh, .func (PySem.W.fnOf "_law_plan_holds" "_law_plan_holds" (defArgs s_law_plan_holds) (defBody s_law_plan_holds) (defScope s_law_plan_holds) .none kVplh dcplh pmplh anplh cdplh ctplh), slplh⟩)
    (cplh : PySem.W.codeIn K cdplh "_law_plan_holds" = true)
    (kplh : PySem.W.keepIn K (.ref fplh) = true)
    (asts : PySem.W.nsIn K mainGlobals "_law_starts" = some (some (.ref fsts)))
    (lsts : K.lookup fsts = some ⟨ocsts, odsts, .func (PySem.W.fnOf "_law_starts" "_law_starts" (defArgs s_law_starts) (defBody s_law_starts) (defScope s_law_starts) .none kVsts dcsts pmsts ansts cdsts ctsts), slsts⟩)
    (csts : PySem.W.codeIn K cdsts "_law_starts" = true)
    (ksts : PySem.W.keepIn K (.ref fsts) = true)
    (alaw : PySem.W.nsIn K mainGlobals "law" = some (some (.ref flaw)))
    (llaw : K.lookup flaw = some ⟨oclaw, odlaw, .func (PySem.W.fnOf "law" "law" (defArgs s_law) (defBody s_law) (defScope s_law) .none kVlaw dclaw pmlaw anlaw cdlaw ctlaw), sllaw⟩)
    (claw : PySem.W.codeIn K cdlaw "law" = true)
    (klaw : PySem.W.keepIn K (.ref flaw) = true)
    (aN : PySem.W.nsIn K mainGlobals "NotFound" = some (some (.ref CN)))
    (xN : K.lookup CN = some (excClassObj nmN qnN CN NNN bsN bmN true snN subN abN coN ddN m0N m1N m2N m3N m5N "ValueError.__new__"))
    (rbN : PySem.HandSPX.refsVE bmN = true)
    (saN : PySem.W.findIn K (.ref CN) "__setattr__" = some (some (.builtin "object.__setattr__")))
    (ebN : PySem.W.subIn K (.ref CN) (.type "BaseException") = some true)
    (tyN : PySem.W.typeIn K (.ref CN) = some (.type "type"))
    (kcN : PySem.W.keepIn K (.ref CN) = true)
    (inN : PySem.W.findIn K (.ref CN) "__init__" = some (some (.ref fxN)))
    (tfN : PySem.W.typeIn K (.ref fxN) = some (.type "function"))
    (lxN : K.lookup fxN = some ⟨ocxN, odxN, .func (PySem.W.fnOf "__init__" "NotFound.__init__" (defArgs s_NotFound_init) (defBody s_NotFound_init) (defScope s_NotFound_init) .none kVxN dcxN pmxN anxN cdxN ctxN), slxN⟩)
    (cxN : PySem.W.codeIn K cdxN "NotFound.__init__" = true)
    (kxN : PySem.W.keepIn K (.ref fxN) = true)
    (noN_number : PySem.W.findIn K (.ref CN) "number" = some none)
    (aI : PySem.W.nsIn K mainGlobals "InvalidNet" = some (some (.ref CI)))
    (xI : K.lookup CI = some (excClassObj nmI qnI CI NNI bsI bmI true snI subI abI coI ddI m0I m1I m2I m3I m5I "ValueError.__new__"))
    (rbI : PySem.HandSPX.refsVE bmI = true)
    (saI : PySem.W.findIn K (.ref CI) "__setattr__" = some (some (.builtin "object.__setattr__")))
    (ebI : PySem.W.subIn K (.ref CI) (.type "BaseException") = some true)
    (tyI : PySem.W.typeIn K (.ref CI) = some (.type "type"))
    (kcI : PySem.W.keepIn K (.ref CI) = true)
    (inI : PySem.W.findIn K (.ref CI) "__init__" = some (some (.ref fxI)))
    (tfI : PySem.W.typeIn K (.ref fxI) = some (.type "function"))
    (lxI : K.lookup fxI = some ⟨ocxI, odxI, .func (PySem.W.fnOf "__init__" "InvalidNet.__init__" (defArgs s_InvalidNet_init) (defBody s_InvalidNet_init) (defScope s_InvalidNet_init) .none kVxI dcxI pmxI anxI cdxI ctxI), slxI⟩)
    (cxI : PySem.W.codeIn K cdxI "InvalidNet.__init__" = true)
    (kxI : PySem.W.keepIn K (.ref fxI) = true)
    (noI_reason : PySem.W.findIn K (.ref CI) "reason" = some none)
    (noI_position : PySem.W.findIn K (.ref CI) "position" = some none)
    (aX : PySem.W.nsIn K mainGlobals "InvalidState" = some (some (.ref CX)))
    (xX : K.lookup CX = some (excClassObj nmX qnX CX NNX bsX bmX true snX subX abX coX ddX m0X m1X m2X m3X m5X "ValueError.__new__"))
    (rbX : PySem.HandSPX.refsVE bmX = true)
    (saX : PySem.W.findIn K (.ref CX) "__setattr__" = some (some (.builtin "object.__setattr__")))
    (ebX : PySem.W.subIn K (.ref CX) (.type "BaseException") = some true)
    (tyX : PySem.W.typeIn K (.ref CX) = some (.type "type"))
    (kcX : PySem.W.keepIn K (.ref CX) = true)
    (inX : PySem.W.findIn K (.ref CX) "__init__" = some (some (.ref fxX)))
    (tfX : PySem.W.typeIn K (.ref fxX) = some (.type "function"))
    (lxX : K.lookup fxX = some ⟨ocxX, odxX, .func (PySem.W.fnOf "__init__" "InvalidState.__init__" (defArgs s_InvalidState_init) (defBody s_InvalidState_init) (defScope s_InvalidState_init) .none kVxX dcxX pmxX anxX cdxX ctxX), slxX⟩)
    (cxX : PySem.W.codeIn K cdxX "InvalidState.__init__" = true)
    (kxX : PySem.W.keepIn K (.ref fxX) = true)
    (noX_position : PySem.W.findIn K (.ref CX) "position" = some none)
    (aU : PySem.W.nsIn K mainGlobals "Unreachable" = some (some (.ref CU)))
    (xU : K.lookup CU = some (excClassObj nmU qnU CU NNU bsU bmU true snU subU abU coU ddU m0U m1U m2U m3U m5U "ValueError.__new__"))
    (rbU : PySem.HandSPX.refsVE bmU = true)
    (saU : PySem.W.findIn K (.ref CU) "__setattr__" = some (some (.builtin "object.__setattr__")))
    (ebU : PySem.W.subIn K (.ref CU) (.type "BaseException") = some true)
    (tyU : PySem.W.typeIn K (.ref CU) = some (.type "type"))
    (kcU : PySem.W.keepIn K (.ref CU) = true)
    (inU : PySem.W.findIn K (.ref CU) "__init__" = some (some (.ref fxU)))
    (tfU : PySem.W.typeIn K (.ref fxU) = some (.type "function"))
    (lxU : K.lookup fxU = some ⟨ocxU, odxU, .func (PySem.W.fnOf "__init__" "Unreachable.__init__" (defArgs s_Unreachable_init) (defBody s_Unreachable_init) (defScope s_Unreachable_init) .none kVxU dcxU pmxU anxU cdxU ctxU), slxU⟩)
    (cxU : PySem.W.codeIn K cdxU "Unreachable.__init__" = true)
    (kxU : PySem.W.keepIn K (.ref fxU) = true)
    (noU_objection : PySem.W.findIn K (.ref CU) "objection" = some none)
    (aT : PySem.W.nsIn K mainGlobals "TooLarge" = some (some (.ref CT)))
    (xT : K.lookup CT = some (excClassObj nmT qnT CT NNT bsT bmT true snT subT abT coT ddT m0T m1T m2T m3T m5T "ValueError.__new__"))
    (rbT : PySem.HandSPX.refsVE bmT = true)
    (saT : PySem.W.findIn K (.ref CT) "__setattr__" = some (some (.builtin "object.__setattr__")))
    (ebT : PySem.W.subIn K (.ref CT) (.type "BaseException") = some true)
    (tyT : PySem.W.typeIn K (.ref CT) = some (.type "type"))
    (kcT : PySem.W.keepIn K (.ref CT) = true)
    (inT : PySem.W.findIn K (.ref CT) "__init__" = some (some (.ref fxT)))
    (tfT : PySem.W.typeIn K (.ref fxT) = some (.type "function"))
    (lxT : K.lookup fxT = some ⟨ocxT, odxT, .func (PySem.W.fnOf "__init__" "TooLarge.__init__" (defArgs s_TooLarge_init) (defBody s_TooLarge_init) (defScope s_TooLarge_init) .none kVxT dcxT pmxT anxT cdxT ctxT), slxT⟩)
    (cxT : PySem.W.codeIn K cdxT "TooLarge.__init__" = true)
    (kxT : PySem.W.keepIn K (.ref fxT) = true)
    (noT_size : PySem.W.findIn K (.ref CT) "size" = some none)
    (noT_most : PySem.W.findIn K (.ref CT) "most" = some none)
    (e_hn : PySem.W.specialIn K (.builtin "object.__class__") "__get__" = some (some (.builtin "getset_descriptor.__get__")))
    (e_ht : PySem.W.takesIn K (.builtin "object.__class__") = some true)
    (e_hgU : PySem.W.findIn K (.ref CU) "__getattribute__" = some (some (.builtin "BaseException.__getattribute__")))
    (e_hkU : PySem.W.findIn K (.ref CU) "__getattr__" = some none)
    (e_hdU : PySem.W.hasDictIn K CU = true)
    (e_haU : PySem.W.findIn K (.ref CU) "__class__" = some (some (.builtin "object.__class__")))
    (e_hmU : PySem.W.mroIn K CU (.type "object") = some true)
    (exm_UU : PySem.W.exmOne K (.ref CU) (.ref CU) = some true)
    (lmost : PySem.W.nsIn K mainGlobals "MOST_MOVES" = some (some (.int 2000 tMM)))
    (atK : PySem.W.nsIn K mainGlobals "KINDS" = some (some (.ref ktK)))
    (ltK : K.lookup ktK = some ⟨.type "tuple", kdK, .seq #[.str "advance" kxK0, .str "rollback" kxK1] knK, ksK⟩)
    (aNet : PySem.W.nsIn K mainGlobals "Net" = some (some (.ref N)))
    (rdN : PySem.W.readsIn K N (.type "type") = true)
    (gaN : PySem.W.specialIn K (.ref N) "__getattribute__" = some (some (.builtin "type.__getattribute__")))
    (cv1 : PySem.W.findCls K (.ref N) (.type "type") "MOST_STAGES" = some (.val (.int 40 t1)))
    (cv2 : PySem.W.findCls K (.ref N) (.type "type") "MOST_CHANNELS" = some (.val (.int 120 t2)))
    (cv3 : PySem.W.findCls K (.ref N) (.type "type") "MOST_CAPACITY" = some (.val (.int 999 t3)))
    (cv4 : PySem.W.findCls K (.ref N) (.type "type") "MOST_COUNTER" = some (.val (.int 999 t4)))
    (fIC : PySem.W.findCls K (.ref N) (.type "type") "is_capacity" = some (.get (.builtin "staticmethod.__get__") (.ref pIC) .none (.ref N)))
    (rIC : PySem.W.recIn K pIC "staticmethod" = some (.ref gIC :: restIC))
    (lIC : K.lookup gIC = some ⟨ocIC, odIC, .func (PySem.W.fnOf "is_capacity" "Net.is_capacity" (defArgs s_Net_is_capacity) (defBody s_Net_is_capacity) (defScope s_Net_is_capacity) .none kVIC dcIC pmIC anIC cdIC ctIC), slIC⟩)
    (cIC : PySem.W.codeIn K cdIC "Net.is_capacity" = true)
    (kIC : PySem.W.keepIn K (.ref gIC) = true)
    (aR : PySem.W.nsIn K mainGlobals "Ring" = some (some (.ref CR)))
    (pgR : PySem.W.plainGet K CR Str.empty = true)
    (hdR : PySem.W.hasDictIn K CR = true)
    (poR : PySem.W.plainOver K CR = true)
    (stR : PySem.W.findIn K (.ref CR) "__setattr__" = some (some (.builtin "object.__setattr__")))
    (nSR : PySem.W.findIn K (.ref CR) "stages" = some none)
    (nCR : PySem.W.findIn K (.ref CR) "channels" = some none)
    (nJR : PySem.W.findIn K (.ref CR) "_incoming" = some none)
    (nOR : PySem.W.findIn K (.ref CR) "_outgoing" = some none)
    (mkR : PySem.W.makesIn K CR = true)
    (keR : PySem.W.keepIn K (.ref CR) = true)
    (itR : PySem.W.findIn K (.ref CR) "__init__" = some (some (.ref iniR)))
    (ifR : PySem.W.isFn K (.ref iniR) = true)
    (sl_R : K.lookup iniR = some ⟨oSR, qSR, .func (PySem.W.fnX "__init__" "Ring.__init__" (defArgs s_Ring_init) (defBody s_Ring_init) (defScope s_Ring_init) [(cls_, ccR)] .none kVRing dSR pSR nSR_ (.ref cdaR) tSR), sSR⟩)
    (sc_R : PySem.W.codeIn K (.ref cdaR) "Ring.__init__" = true)
    (ce_R : K.lookup ccR = some ⟨kc_R, dc_R, .cell (some (.ref CR)), lc_R⟩)
    (co_R : K.lookup cdaR = some ⟨o1R, o2R, .fields vsR, o3R⟩)
    (fi_R : vsR[2]? = some (.str fileR tkR))
    (fe_R : ((PySem.Challenge.pw_withincall_k14_whole_rings.main.file : Str) == fileR) = true)
    (di_R : (PySem.W.clsIn K CR).isSome = true)
    (mr_R : PySem.W.mroIn K CR (.ref CR) = some true)
    (ks_R : PySem.W.ks_superIn K CR CR "__init__" = some (some (.ref fNI)))
    (opq : PySem.W.nsIn K cStatics "thirdparty.any" = some none)
    (tyNI : PySem.W.typeIn K (.ref fNI) = some (.type "function"))
    (fnNI : PySem.W.fnIn K fNI = true)
    (lNI : K.lookup fNI = some ⟨ocNI, odNI, .func (PySem.W.fnOf "__init__" "Net.__init__" (defArgs s_Net_init) (defBody s_Net_init) (defScope s_Net_init) .none kVNI dcNI pmNI anNI cdNI ctNI), slNI⟩)
    (cNI : PySem.W.codeIn K cdNI "Net.__init__" = true)
    (kNI : PySem.W.keepIn K (.ref fNI) = true)
    (lring : PySem.W.nsIn K mainGlobals "LEAST_RING" = some (some (.int 3 tL)))
    (p_inc : PySem.W.findIn K (.ref CR) "incoming" = some (some (.ref qinc)))
    (i_inc : PySem.W.isFn K (.ref qinc) = true)
    (lMinc : K.lookup qinc = some ⟨ocMinc, odMinc, .func (PySem.W.fnOf "incoming" "Net.incoming" (defArgs s_Net_incoming) (defBody s_Net_incoming) (defScope s_Net_incoming) .none kVMinc dcMinc pmMinc anMinc cdMinc ctMinc), slMinc⟩)
    (cMinc : PySem.W.codeIn K cdMinc "Net.incoming" = true)
    (kMinc : PySem.W.keepIn K (.ref qinc) = true)
    (p_out : PySem.W.findIn K (.ref CR) "outgoing" = some (some (.ref qout)))
    (i_out : PySem.W.isFn K (.ref qout) = true)
    (lMout : K.lookup qout = some ⟨ocMout, odMout, .func (PySem.W.fnOf "outgoing" "Net.outgoing" (defArgs s_Net_outgoing) (defBody s_Net_outgoing) (defScope s_Net_outgoing) .none kVMout dcMout pmMout anMout cdMout ctMout), slMout⟩)
    (cMout : PySem.W.codeIn K cdMout "Net.outgoing" = true)
    (kMout : PySem.W.keepIn K (.ref qout) = true)
    (p_isrR : PySem.W.findIn K (.ref CR) "is_ring" = some (some (.ref qisrR)))
    (i_isrR : PySem.W.isFn K (.ref qisrR) = true)
    (lMisrR : K.lookup qisrR = some ⟨ocMisrR, odMisrR, .func (PySem.W.fnOf "is_ring" "Ring.is_ring" (defArgs s_Ring_is_ring) (defBody s_Ring_is_ring) (defScope s_Ring_is_ring) .none kVMisrR dcMisrR pmMisrR anMisrR cdMisrR ctMisrR), slMisrR⟩)
    (cMisrR : PySem.W.codeIn K cdMisrR "Ring.is_ring" = true)
    (kMisrR : PySem.W.keepIn K (.ref qisrR) = true) :
    ∃ fd : FuncData, (∀ (s : Shared) (v : Value), BindsTo s fd ⟨[v], []⟩ [("_law_script", v)]) ∧ ∀ base : Heap, K.In base → base.Ns mainGlobals mg → FnOk PK w K mg base (L2.CX PK w) 12 fa fd ["_law_script"] (spLaw K) := by
  have e := hfa.symm.trans (PySem.W.mg_of X G alaw)
  cases e
  refine ⟨PySem.W.fnOf "law" "law" (defArgs s_law) (defBody s_law) (defScope s_law) .none kVlaw dclaw pmlaw anlaw cdlaw ctlaw, fun s v => .of_eq rfl, fun base _ _ => ?_⟩
  have m1 : ∀ {x : Str} {v : Value}, PySem.W.nsIn K mainGlobals x = some (some v) → mg x = some v := fun {x v} e => PySem.W.mg_of X G e
  have m0 : ∀ {x : Str}, PySem.W.nsIn K mainGlobals x = some none → mg x = none := fun {x} e => PySem.W.mg_none_of X G e
  have B : Blt mg := ⟨m0 z_isi, m0 z_int, m0 z_bool, m0 z_tuple, m0 z_list, m0 z_str, m0 z_len, m0 z_range, m0 z_sorted, m0 z_enum, m0 z_sum, m0 z_all, m0 z_max, m0 z_min, m0 z_verr⟩
  have Fbtw := fun_mk (st := s_is_between) lbtw cbtw kbtw
  have bbtw := Fbtw.binds (ps := ["value", "low", "high"]) fun _ _ _ _ _ _ us hl => match us, hl with | [_, _, _], _ => rfl
  have Fchk := fun_mk (st := s_check_number) lchk cchk kchk
  have bchk := Fchk.binds (ps := ["value", "many"]) fun _ _ _ _ _ _ us hl => match us, hl with | [_, _], _ => rfl
  have Fnat := fun_mk (st := s_numbers_at) lnat cnat knat
  have bnat := Fnat.binds (ps := ["stages", "ends"]) fun _ _ _ _ _ _ us hl => match us, hl with | [_, _], _ => rfl
  have Fcst := fun_mk (st := s_check_state) lcst ccst kcst
  have bcst := Fcst.binds (ps := ["net", "state"]) fun _ _ _ _ _ _ us hl => match us, hl with | [_, _], _ => rfl
  have Fimv := fun_mk (st := s_is_move) limv cimv kimv
  have bimv := Fimv.binds (ps := ["net", "value"]) fun _ _ _ _ _ _ us hl => match us, hl with | [_, _], _ => rfl
  have Foki := fun_mk (st := s_other_kind) loki coki koki
  have boki := Foki.binds (ps := ["kind"]) fun _ _ _ _ _ _ us hl => match us, hl with | [_], _ => rfl
  have Fsid := fun_mk (st := s_side_of) lsid csid ksid
  have bsid := Fsid.binds (ps := ["net", "move"]) fun _ _ _ _ _ _ us hl => match us, hl with | [_, _], _ => rfl
  have Fial := fun_mk (st := s_is_allowed) lial cial kial
  have bial := Fial.binds (ps := ["net", "state", "move"]) fun _ _ _ _ _ _ us hl => match us, hl with | [_, _, _], _ => rfl
  have Fbeh := fun_mk (st := s_state_behind) lbeh cbeh kbeh
  have bbeh := Fbeh.binds (ps := ["state", "move"]) fun _ _ _ _ _ _ us hl => match us, hl with | [_, _], _ => rfl
  have Fird := fun_mk (st := s_is_ready) lird cird kird
  have bird := Fird.binds (ps := ["net", "state", "channel"]) fun _ _ _ _ _ _ us hl => match us, hl with | [_, _, _], _ => rfl
  have Fobj := fun_mk (st := s_objections) lobj cobj kobj
  have bobj := Fobj.binds (ps := ["net", "start", "target"]) fun _ _ _ _ _ _ us hl => match us, hl with | [_, _, _], _ => rfl
  have Fiso := fun_mk (st := s_is_objection) liso ciso kiso
  have biso := Fiso.binds (ps := ["net", "start", "target", "objection"]) fun _ _ _ _ _ _ us hl => match us, hl with | [_, _, _, _], _ => rfl
  have Frea := fun_mk (st := s_reaches) lrea crea krea
  have brea := Frea.binds (ps := ["net", "start", "target"]) fun _ _ _ _ _ _ us hl => match us, hl with | [_, _, _], _ => rfl
  have Fdis := fun_mk (st := s_distance) ldis cdis kdis
  have bdis := Fdis.binds (ps := ["net", "start", "target"]) fun _ _ _ _ _ _ us hl => match us, hl with | [_, _, _], _ => rfl
  have Fpla := fun_mk (st := s_plan) lpla cpla kpla
  have bpla := Fpla.binds (ps := ["net", "start", "target"]) fun _ _ _ _ _ _ us hl => match us, hl with | [_, _, _], _ => rfl
  have Fipl := fun_mk (st := s_is_plan) lipl cipl kipl
  have bipl := Fipl.binds (ps := ["net", "start", "target", "moves"]) fun _ _ _ _ _ _ us hl => match us, hl with | [_, _, _, _], _ => rfl
  have Fple := fun_mk (st := s_plan_length) lple cple kple
  have bple := Fple.binds (ps := ["net", "start", "target"]) fun _ _ _ _ _ _ us hl => match us, hl with | [_, _, _], _ => rfl
  have Fall := fun_mk (st := s_all_objections) lall call kall
  have ball := Fall.binds (ps := ["net", "start", "target"]) fun _ _ _ _ _ _ us hl => match us, hl with | [_, _, _], _ => rfl
  have Fdrw := fun_mk (st := s_draws_from) ldrw cdrw kdrw
  have bdrw := Fdrw.binds (ps := ["start", "target", "channel"]) fun _ _ _ _ _ _ us hl => match us, hl with | [_, _, _], _ => rfl
  have Fmvb := fun_mk (st := s_moves_between) lmvb cmvb kmvb
  have bmvb := Fmvb.binds (ps := ["start", "target"]) fun _ _ _ _ _ _ us hl => match us, hl with | [_, _], _ => rfl
  have Fsto := fun_mk (st := s_stage_objections) lsto csto ksto
  have bsto := Fsto.binds (ps := ["net", "start", "target"]) fun _ _ _ _ _ _ us hl => match us, hl with | [_, _, _], _ => rfl
  have Fcho := fun_mk (st := s_channel_objections) lcho ccho kcho
  have bcho := Fcho.binds (ps := ["net", "start", "target", "channels"]) fun _ _ _ _ _ _ us hl => match us, hl with | [_, _, _, _], _ => rfl
  have Frgo := fun_mk (st := s_range_objections) lrgo crgo krgo
  have brgo := Frgo.binds (ps := ["start", "target"]) fun _ _ _ _ _ _ us hl => match us, hl with | [_, _], _ => rfl
  have Fmtw := fun_mk (st := s_moves_towards) lmtw cmtw kmtw
  have bmtw := Fmtw.binds (ps := ["start", "target"]) fun _ _ _ _ _ _ us hl => match us, hl with | [_, _], _ => rfl
  have Fbpl := fun_mk (st := s_begins_plan) lbpl cbpl kbpl
  have bbpl := Fbpl.binds (ps := ["net", "state", "target", "move"]) fun _ _ _ _ _ _ us hl => match us, hl with | [_, _, _, _], _ => rfl
  have Ffmv := fun_mk (st := s_first_move) lfmv cfmv kfmv
  have bfmv := Ffmv.binds (ps := ["net", "state", "target"]) fun _ _ _ _ _ _ us hl => match us, hl with | [_, _, _], _ => rfl
  have Fisi := fun_mk (st := s_law_is_integer) lisi cisi kisi
  have bisi := Fisi.binds (ps := ["_law_value"]) fun _ _ _ _ _ _ us hl => match us, hl with | [_], _ => rfl
  have Fbox := fun_mk (st := s_law_box) lbox cbox kbox
  have bbox := Fbox.binds (ps := ["_law_script"]) fun _ _ _ _ _ _ us hl => match us, hl with | [_], _ => rfl
  have Ftak := fun_mk (st := s_law_take) ltak ctak ktak
  have btak := Ftak.binds (ps := ["_law_box_here", "_law_size"]) fun _ _ _ _ _ _ us hl => match us, hl with | [_, _], _ => rfl
  have Frin := fun_mk (st := s_law_ring) lrin crin krin
  have brin := Frin.binds (ps := ["_law_row"]) fun _ _ _ _ _ _ us hl => match us, hl with | [_], _ => rfl
  have Fmov := fun_mk (st := s_law_moves) lmov cmov kmov
  have bmov := Fmov.binds (ps := ["_law_stages"]) fun _ _ _ _ _ _ us hl => match us, hl with | [_], _ => rfl
  have Falw := fun_mk (st := s_law_is_allowed) lalw calw kalw
  have balw := Falw.binds (ps := ["_law_channels", "_law_here", "_law_move"]) fun _ _ _ _ _ _ us hl => match us, hl with | [_, _, _], _ => rfl
  have Faft := fun_mk (st := s_law_after) laft caft kaft
  have baft := Faft.binds (ps := ["_law_here", "_law_move"]) fun _ _ _ _ _ _ us hl => match us, hl with | [_, _], _ => rfl
  have Fsta := fun_mk (st := s_law_states) lsta csta ksta
  have bsta := Fsta.binds (ps := ["_law_stages", "_law_levels", "_law_base"]) fun _ _ _ _ _ _ us hl => match us, hl with | [_, _, _], _ => rfl
  have Froa := fun_mk (st := s_law_roads) lroa croa kroa
  have broa := Froa.binds (ps := ["_law_channels", "_law_states_here"]) fun _ _ _ _ _ _ us hl => match us, hl with | [_, _], _ => rfl
  have Fsea := fun_mk (st := s_law_search) lsea csea ksea
  have bsea := Fsea.binds (ps := ["_law_roads_here", "_law_start"]) fun _ _ _ _ _ _ us hl => match us, hl with | [_, _], _ => rfl
  have Fobh := fun_mk (st := s_law_objections_hold) lobh cobh kobh
  have bobh := Fobh.binds (ps := ["_law_network", "_law_start", "_law_goal", "_law_is_reached"]) fun _ _ _ _ _ _ us hl => match us, hl with | [_, _, _, _], _ => rfl
  have Flpa := fun_mk (st := s_law_pair_holds) llpa clpa klpa
  have blpa := Flpa.binds (ps := ["_law_network", "_law_start", "_law_goal", "_law_due"]) fun _ _ _ _ _ _ us hl => match us, hl with | [_, _, _, _], _ => rfl
  have Ftur := fun_mk (st := s_law_turned_round) ltur ctur ktur
  have btur := Ftur.binds (ps := ["_law_roads_here"]) fun _ _ _ _ _ _ us hl => match us, hl with | [_], _ => rfl
  have Fsma := fun_mk (st := s_law_is_smaller_first) lsma csma ksma
  have bsma := Fsma.binds (ps := ["_law_channels", "_law_left", "_law_here", "_law_move"]) fun _ _ _ _ _ _ us hl => match us, hl with | [_, _, _, _], _ => rfl
  have Fplh := fun_mk (st := s_law_plan_holds) lplh cplh kplh
  have bplh := Fplh.binds (ps := ["_law_network", "_law_channels", "_law_left", "_law_start", "_law_goal", "_law_due"]) fun _ _ _ _ _ _ us hl => match us, hl with | [_, _, _, _, _, _], _ => rfl
  have Fsts := fun_mk (st := s_law_starts) lsts csts ksts
  have bsts := Fsts.binds (ps := ["_law_box_here", "_law_roads_here", "_law_states_here"]) fun _ _ _ _ _ _ us hl => match us, hl with | [_, _, _], _ => rfl
  have Flaw := fun_mk (st := s_law) llaw claw klaw
  have blaw := Flaw.binds (ps := ["_law_script"]) fun _ _ _ _ _ _ us hl => match us, hl with | [_], _ => rfl
  have B2 : Blt3 mg := ⟨m0 z_zip, m0 z_abs⟩
  have Dbtw : DefR PK w K mg base "is_between" 1 (spBtw K) := ⟨fbtw, m1 abtw, kbtw, raw0 (ok_is_between Fbtw B) bbtw⟩
  have TN : OexC K CN := ⟨⟨nmN, qnN, NNN, bsN, bmN, snN, subN, abN, coN, ddN, m0N, m1N, m2N, m3N, m5N, xN, rbN⟩, saN, ebN, tyN, kcN⟩
  have FxN := fun_mk (st := s_NotFound_init) lxN cxN kxN
  have bxN := FxN.binds (ps := ["self", "number"]) fun _ _ _ _ _ _ us hl => match us, hl with | [_, _], _ => rfl
  have EN : ExcR PK w K mg base "NotFound" CN 1 1 flN := ⟨TN, m1 aN, fxN, _, ["self", "number"], inN, tfN, bxN, ok_NotFound_init FxN TN noN_number⟩
  have TI : OexC K CI := ⟨⟨nmI, qnI, NNI, bsI, bmI, snI, subI, abI, coI, ddI, m0I, m1I, m2I, m3I, m5I, xI, rbI⟩, saI, ebI, tyI, kcI⟩
  have FxI := fun_mk (st := s_InvalidNet_init) lxI cxI kxI
  have bxI := FxI.binds (ps := ["self", "reason", "position"]) fun _ _ _ _ _ _ us hl => match us, hl with | [_, _, _], _ => rfl
  have EI : ExcR PK w K mg base "InvalidNet" CI 1 2 flI := ⟨TI, m1 aI, fxI, _, ["self", "reason", "position"], inI, tfI, bxI, ok_InvalidNet_init FxI TI noI_reason noI_position⟩
  have TX : OexC K CX := ⟨⟨nmX, qnX, NNX, bsX, bmX, snX, subX, abX, coX, ddX, m0X, m1X, m2X, m3X, m5X, xX, rbX⟩, saX, ebX, tyX, kcX⟩
  have FxX := fun_mk (st := s_InvalidState_init) lxX cxX kxX
  have bxX := FxX.binds (ps := ["self", "position"]) fun _ _ _ _ _ _ us hl => match us, hl with | [_, _], _ => rfl
  have EX : ExcR PK w K mg base "InvalidState" CX 1 1 flP := ⟨TX, m1 aX, fxX, _, ["self", "position"], inX, tfX, bxX, ok_InvalidState_init FxX TX noX_position⟩
  have TU : OexC K CU := ⟨⟨nmU, qnU, NNU, bsU, bmU, snU, subU, abU, coU, ddU, m0U, m1U, m2U, m3U, m5U, xU, rbU⟩, saU, ebU, tyU, kcU⟩
  have FxU := fun_mk (st := s_Unreachable_init) lxU cxU kxU
  have bxU := FxU.binds (ps := ["self", "objection"]) fun _ _ _ _ _ _ us hl => match us, hl with | [_, _], _ => rfl
  have EU : ExcR PK w K mg base "Unreachable" CU 1 1 flU := ⟨TU, m1 aU, fxU, _, ["self", "objection"], inU, tfU, bxU, ok_Unreachable_init FxU TU noU_objection⟩
  have TT : OexC K CT := ⟨⟨nmT, qnT, NNT, bsT, bmT, snT, subT, abT, coT, ddT, m0T, m1T, m2T, m3T, m5T, xT, rbT⟩, saT, ebT, tyT, kcT⟩
  have FxT := fun_mk (st := s_TooLarge_init) lxT cxT kxT
  have bxT := FxT.binds (ps := ["self", "size", "most"]) fun _ _ _ _ _ _ us hl => match us, hl with | [_, _, _], _ => rfl
  have ET : ExcR PK w K mg base "TooLarge" CT 1 2 flT := ⟨TT, m1 aT, fxT, _, ["self", "size", "most"], inT, tfT, bxT, ok_TooLarge_init FxT TT noT_size noT_most⟩
  have XCU : ExcC K CU := ⟨e_hgU, e_hkU, ebU, e_hdU, e_haU, e_hn, e_ht, e_hmU⟩
  have XFU : XfC K CU := ⟨e_hgU, e_hkU, ebU, e_hdU⟩
  have RE : RefE K mg CU := ⟨m1 aU, exm_UU, XCU, XFU, noU_objection⟩
  have Dchk : DefR PK w K mg base "check_number" 3 (spCheckNumber K CN) := ⟨fchk, m1 achk, kchk, raw0 (ok_check_number (k := 0) Fchk Dbtw EN) bchk⟩
  have Dnat : DefR PK w K mg base "_numbers_at" 1 spNums := ⟨fnat, m1 anat, knat, raw0 (ok_numbers_at Fnat B) bnat⟩
  have Z : NetK K mg N := ⟨m1 aNet, .type "type", ⟨rdN, gaN⟩, ⟨_, cv1, _, rfl⟩, ⟨_, cv2, _, rfl⟩, ⟨_, cv3, _, rfl⟩, ⟨_, cv4, _, rfl⟩⟩
  have FIC := fun_mk (st := s_Net_is_capacity) lIC cIC kIC
  have bIC := FIC.binds (ps := ["value"]) fun _ _ _ _ _ _ us hl => match us, hl with | [_], _ => rfl
  have SIC : StaR PK w K mg base N "is_capacity" 2 (spCap K) := ⟨.type "type", pIC, gIC, ⟨rdN, gaN, fIC, ⟨_, rIC⟩, kIC⟩, raw0 (ok_is_capacity FIC Z Dbtw) bIC⟩
  have NCR : NetCls K CR := ⟨⟨pgR, hdR, poR, stR⟩, nSR, nCR, nJR, nOR⟩
  have FNI := fun_mk (st := s_Net_init) lNI cNI kNI
  have bNI := FNI.binds (ps := ["self", "stages", "channels"]) fun _ _ _ _ _ _ us hl => match us, hl with | [_, _, _], _ => rfl
  have RNIR : FnR PK w K mg base (L2.CX PK w) 2 fNI (spNetInit CR) := raw0 (ok_Net_init FNI B NCR Dnat) bNI
  have SUR : SupTxt PK K mg CR CR fNI "__init__" := ⟨Option.isSome_iff_exists.mp di_R, mr_R, m0 z_sup, by decide +kernel, by decide +kernel, opq, ks_R, tyNI, fnNI⟩
  have SFR : SFun PK K "__init__" "Ring.__init__" s_Ring_init iniR ccR CR kVRing := ⟨⟨_, _, _, _, _, _, _, _, _, _, _, _, _, _, _, _, _, sl_R, sc_R, ce_R, co_R, fi_R, fe_R⟩⟩
  have MkR : Mk K CR iniR := ⟨mkR, itR, ifR, keR⟩
  have DR : ClsR PK w K mg base CR 4 (spRing CR) := ⟨iniR, MkR, ok_Ring_init SFR B Z (m1 lring) ⟨_, rfl⟩ SIC EI SUR RNIR⟩
  have one : ∀ {T : Addr → Prop}, T CR → ∀ C ∈ [CR, CR], T C := fun {T} h C hC => by
    rcases List.mem_cons.mp hC with e | hC
    · rw [e]; exact h
    · rw [List.mem_singleton.mp hC]; exact h
  have TC : ∀ C ∈ [CR, CR], NetCls K C := one (T := fun C => NetCls K C) NCR
  have FMinc := fun_mk (st := s_Net_incoming) lMinc cMinc kMinc
  have bMinc := FMinc.binds (ps := ["self", "stage"]) fun _ _ _ _ _ _ us hl => match us, hl with | [_, _], _ => rfl
  have FMout := fun_mk (st := s_Net_outgoing) lMout cMout kMout
  have bMout := FMout.binds (ps := ["self", "stage"]) fun _ _ _ _ _ _ us hl => match us, hl with | [_, _], _ => rfl
  have FMisrR := fun_mk (st := s_Ring_is_ring) lMisrR cMisrR kMisrR
  have bMisrR := FMisrR.binds (ps := ["self"]) fun _ _ _ _ _ _ us hl => match us, hl with | [_], _ => rfl
  have Hbtw : DefH PK w K mg base "is_between" 1 (spBtw K) := ⟨fbtw, _, _, m1 abtw, kbtw, bbtw, ok_is_betweenH Fbtw B⟩
  have Hchk : DefH PK w K mg base "check_number" 2 (spCkH K) := ⟨fchk, _, _, m1 achk, kchk, bchk, ok_check_numberH Fchk Hbtw⟩
  have MTinc : ∀ C ∈ [CR, CR], MetR PK w K mg base C "incoming" 4 (spAsk K C CN (resRow fun c => c.2.1)) := one (T := fun C => MetR PK w K mg base C "incoming" 4 (spAsk K C CN (resRow fun c => c.2.1))) ⟨qinc, _, ["self", "stage"], NCR.cl, ⟨p_inc, i_inc, kMinc⟩, bMinc, ok_incoming FMinc NCR Dchk⟩
  have HTinc : ∀ C ∈ [CR, CR], MetRH PK w K mg base C "incoming" 3 (spAskH C (resRow fun c => c.2.1)) := one (T := fun C => MetRH PK w K mg base C "incoming" 3 (spAskH C (resRow fun c => c.2.1))) ⟨qinc, _, ["self", "stage"], NCR.cl, ⟨p_inc, i_inc, kMinc⟩, bMinc, ok_incomingH FMinc NCR Hchk⟩
  have MTout : ∀ C ∈ [CR, CR], MetR PK w K mg base C "outgoing" 4 (spAsk K C CN (resRow fun c => c.1)) := one (T := fun C => MetR PK w K mg base C "outgoing" 4 (spAsk K C CN (resRow fun c => c.1))) ⟨qout, _, ["self", "stage"], NCR.cl, ⟨p_out, i_out, kMout⟩, bMout, ok_outgoing FMout NCR Dchk⟩
  have HTout : ∀ C ∈ [CR, CR], MetRH PK w K mg base C "outgoing" 3 (spAskH C (resRow fun c => c.1)) := one (T := fun C => MetRH PK w K mg base C "outgoing" 3 (spAskH C (resRow fun c => c.1))) ⟨qout, _, ["self", "stage"], NCR.cl, ⟨p_out, i_out, kMout⟩, bMout, ok_outgoingH FMout NCR Hchk⟩
  have MIR : ∀ C ring, KC CR CR C ring → MetR PK w K mg base C "is_ring" 1 (spRing1 [CR, CR] ring) := fun C ring h => by
    obtain ⟨e1, e2⟩ := h
    subst e1 e2
    exact ⟨qisrR, _, ["self"], NCR.cl, ⟨p_isrR, i_isrR, kMisrR⟩, bMisrR, ok_R_is_ring FMisrR⟩
  have HIR : ∀ C ring, KC CR CR C ring → MetRH PK w K mg base C "is_ring" 1 (spRing1 [CR, CR] ring) := fun C ring h => by
    obtain ⟨e1, e2⟩ := h
    subst e1 e2
    exact ⟨qisrR, _, ["self"], NCR.cl, ⟨p_isrR, i_isrR, kMisrR⟩, bMisrR, ok_R_is_ringH FMisrR⟩
  have Dcst : DefR PK w K mg base "check_state" 3 (spS K [CR, CR] CX 0 resState) := ⟨fcst, m1 acst, kcst, raw0 (ok_check_state Fcst B Z TC Dbtw EX) bcst⟩
  have Ddrw : DefR PK w K mg base "draws_from" 1 spDrw := ⟨fdrw, m1 adrw, kdrw, raw0 (ok_draws_from Fdrw) bdrw⟩
  have Dsto : DefR PK w K mg base "_stage_objections" 5 (spStO [CR, CR]) := ⟨fsto, m1 asto, ksto, raw0 (ok_stage_objections Fsto B TC MTinc MTout) bsto⟩
  have Dcho : DefR PK w K mg base "_channel_objections" 2 (spChO [CR, CR]) := ⟨fcho, m1 acho, kcho, raw0 (ok_channel_objections Fcho TC Ddrw) bcho⟩
  have Dcht : DefR PK w K mg base "_channel_objections" 2 (spChOT [CR, CR]) := ⟨fcho, m1 acho, kcho, raw0 (ok_channel_objections_t Fcho TC Ddrw) bcho⟩
  have Drgo : DefR PK w K mg base "_range_objections" 1 spRgO := ⟨frgo, m1 argo, krgo, raw0 (ok_range_objections Frgo B) brgo⟩
  have Dall : DefR PK w K mg base "all_objections" 6 (spAllO CR CR) := ⟨fall, m1 aall, kall, raw0 (ok_all_objections Fall B TC Dsto Dcho MIR Drgo) ball⟩
  have Dalf : DefR PK w K mg base "all_objections" 6 (spAllOF CR CR) := ⟨fall, m1 aall, kall, raw0 (ok_all_objections_f Fall B TC Dsto Dcho MIR Drgo) ball⟩
  have Dobj : DefR PK w K mg base "objections" 7 (spO2 K CR CR CX resObs) := ⟨fobj, m1 aobj, kobj, raw0 (ok_objections Fobj Dcst Dall) bobj⟩
  have Dobf : DefR PK w K mg base "objections" 7 (spO2 K CR CR CX resObsF) := ⟨fobj, m1 aobj, kobj, raw0 (ok_objections_f Fobj Dcst Dalf) bobj⟩
  have Dmvb : DefR PK w K mg base "moves_between" 1 spMvB := ⟨fmvb, m1 amvb, kmvb, raw0 (ok_moves_between Fmvb B B2) bmvb⟩
  have Drea : DefR PK w K mg base "reaches" 8 (spO2 K CR CR CX resRch) := ⟨frea, m1 area, krea, raw0 (ok_reaches Frea B Dobj) brea⟩
  have Ddis : DefR PK w K mg base "distance" 8 (spO2 K CR CR CX (resDist CU)) := ⟨fdis, m1 adis, kdis, raw0 (ok_distance Fdis Dobj Dmvb EU) bdis⟩
  have Ndis : DefN PK w K mg base "distance" 8 (spDistN CR CR CU) := ⟨fdis, m1 adis, kdis, raw0 (ok_distance_N Fdis Dobj Dmvb EU) bdis⟩
  have Hcst : DefH PK w K mg base "check_state" 2 (spCsH [CR, CR]) := ⟨fcst, _, _, m1 acst, kcst, bcst, ok_check_stateH Fcst B Z TC Hbtw⟩
  have Hdrw : DefH PK w K mg base "draws_from" 1 spDrw := ⟨fdrw, _, _, m1 adrw, kdrw, bdrw, ok_draws_fromH Fdrw⟩
  have Hsto : DefH PK w K mg base "_stage_objections" 5 (spStO [CR, CR]) := ⟨fsto, _, _, m1 asto, ksto, bsto, ok_stage_objectionsH Fsto B TC HTinc HTout⟩
  have Hcho : DefH PK w K mg base "_channel_objections" 2 (spChO [CR, CR]) := ⟨fcho, _, _, m1 acho, kcho, bcho, ok_channel_objectionsH Fcho TC Hdrw⟩
  have Hrgo : DefH PK w K mg base "_range_objections" 1 spRgO := ⟨frgo, _, _, m1 argo, krgo, brgo, ok_range_objectionsH Frgo B⟩
  have Hall : DefH PK w K mg base "all_objections" 6 (spAllO CR CR) := ⟨fall, _, _, m1 aall, kall, ball, ok_all_objectionsH Fall B TC Hsto Hcho HIR Hrgo⟩
  have Hobj : DefH PK w K mg base "objections" 7 (spObsH CR CR) := ⟨fobj, _, _, m1 aobj, kobj, bobj, ok_objectionsH Fobj Hcst Hall⟩
  have Hiso : DefH PK w K mg base "is_objection" 8 (spIsOH CR CR) := ⟨fiso, _, _, m1 aiso, kiso, biso, ok_is_objectionH Fiso B Z Hobj Hbtw⟩
  have vt : ∀ {a : Addr} {d : Option Addr} {x y : Str} {t1 t2 : Tok} {n : Nat} {sl : Array (Option Value)}, K.lookup a = some ⟨.type "tuple", d, .seq #[.str x t1, .str y t2] n, sl⟩ → ∀ H : Hp, SqT K H a [.str x, .str y] := fun {a d x y t1 t2 n sl} e H => .inr ⟨_, _, _, e, rfl, rfl, by show 2 ≤ sizeLine; decide, .cons ⟨_, rfl⟩ (.cons ⟨_, rfl⟩ .nil)⟩
  have TK : TupG K mg "KINDS" KINDS_ := ⟨ktK, m1 atK, vt ltK⟩
  have Dimv : DefR PK w K mg base "is_move" 2 (spIsMv K [CR, CR]) := ⟨fimv, m1 aimv, kimv, raw0 (ok_is_move Fimv B TK TC Dbtw) bimv⟩
  have Doki : DefR PK w K mg base "other_kind" 1 spOK := ⟨foki, m1 aoki, koki, raw0 (ok_other_kind Foki) boki⟩
  have Dsid : DefR PK w K mg base "side_of" 5 (spSide [CR, CR]) := ⟨fsid, m1 asid, ksid, raw0 (ok_side_of Fsid MTinc MTout) bsid⟩
  have Dird : DefR PK w K mg base "_is_ready" 1 (spRdy [CR, CR]) := ⟨fird, m1 aird, kird, raw0 (ok_is_ready Fird TC) bird⟩
  have Dial : DefR PK w K mg base "is_allowed" 6 (spSM [CR, CR] rAlw) := ⟨fial, m1 aial, kial, raw0 (ok_is_allowed Fial B Dsid Dird) bial⟩
  have Dbeh : DefR PK w K mg base "state_behind" 1 spBeh := ⟨fbeh, m1 abeh, kbeh, raw0 (ok_state_behind Fbeh) bbeh⟩
  have Dmtw : DefR PK w K mg base "_moves_towards" 1 spTw := ⟨fmtw, m1 amtw, kmtw, raw0 (ok_moves_towards Fmtw B B2) bmtw⟩
  have Dbpl : DefR PK w K mg base "_begins_plan" 7 (spBeg [CR, CR]) := ⟨fbpl, m1 abpl, kbpl, raw0 (ok_begins_plan Fbpl Dial Dsid Doki Dbeh Dcht) bbpl⟩
  have Dple : DefR PK w K mg base "plan_length" 9 (spO2 K CR CR CX (resLen CU CT)) := ⟨fple, m1 aple, kple, raw0 (ok_plan_length Fple (m1 lmost) ⟨_, rfl⟩ Ddis ET) bple⟩
  have Dfmv : DefR PK w K mg base "_first_move" 8 (spFm [CR, CR]) := ⟨ffmv, m1 afmv, kfmv, raw0 (ok_first_move Ffmv Dmtw Dbpl) bfmv⟩
  have Dpla : DefR PK w K mg base "plan" 10 (spO2L K CR CR CX (resPlan CU CT)) := ⟨fpla, m1 apla, kpla, raw0 (ok_plan Fpla B Dple Dfmv Dbeh) bpla⟩
  have Dipl : DefR PK w K mg base "is_plan" 9 (spPlan9 CR CR) := ⟨fipl, m1 aipl, kipl, raw0 (ok_is_plan Fipl B Drea Dmvb Dimv Dial Dbeh) bipl⟩
  have Dtak : DefR PK w K mg base "_law_take" 1 spTake := ⟨ftak, m1 atak, ktak, raw0 (ok_take Ftak B) btak⟩
  have Dbox : DefR PK w K mg base "_law_box" 1 (spBox K) := ⟨fbox, m1 abox, kbox, raw0 (ok_box Fbox B B2) bbox⟩
  have Dmov : DefR PK w K mg base "_law_moves" 1 spMoves9 := ⟨fmov, m1 amov, kmov, raw0 (ok_moves9 Fmov B) bmov⟩
  have Dalw : DefR PK w K mg base "_law_is_allowed" 1 spAllow9 := ⟨falw, m1 aalw, kalw, raw0 (ok_allow9 Falw B) balw⟩
  have Daft : DefR PK w K mg base "_law_after" 1 spAfter9 := ⟨faft, m1 aaft, kaft, raw0 (ok_after9 Faft) baft⟩
  have Drin : DefR PK w K mg base "_law_ring" 6 (spRing9 CR) := ⟨frin, m1 arin, krin, raw0 (ok_ring9 Frin B (m1 aR) DR) brin⟩
  have Dsta : DefR PK w K mg base "_law_states" 1 spStates9 := ⟨fsta, m1 asta, ksta, raw0 (ok_states9 Fsta B) bsta⟩
  have Droa : DefR PK w K mg base "_law_roads" 2 spRoads9 := ⟨froa, m1 aroa, kroa, raw0 (ok_roads9 Froa B Dmov Dalw Daft) broa⟩
  have Dtur : DefR PK w K mg base "_law_turned_round" 1 spTurn := ⟨ftur, m1 atur, ktur, raw0 (ok_turned Ftur) btur⟩
  have Dsea : DefR PK w K mg base "_law_search" 1 spSearchG := ⟨fsea, m1 asea, ksea, raw0 (ok_searchG Fsea B) bsea⟩
  have Dsts : DefR PK w K mg base "_law_starts" 2 spStarts14 := ⟨fsts, m1 asts, ksts, raw0 (ok_starts14 Fsts B Dtak) bsts⟩
  have Qisi : DefQ PK w K mg base "_law_is_integer" 1 (spIsI K) := ⟨fisi, _, ["_law_value"], m1 aisi, kisi, bisi, ok_is_integer Fisi B⟩
  have Dsma : DefR PK w K mg base "_law_is_smaller_first" 2 spSm := ⟨fsma, m1 asma, ksma, raw0 (ok_smaller Fsma B Dmov Dalw Daft) bsma⟩
  have Dobh : DefR PK w K mg base "_law_objections_hold" 8 (spObH CR CR) := ⟨fobh, m1 aobh, kobh, raw0 (ok_obH Fobh B Dobf) bobh⟩
  have Dlpa : DefR PK w K mg base "_law_pair_holds" 9 (spPair14 CR CR) := ⟨flpa, m1 alpa, klpa, raw0 (off_N (ok_pair14_N (CX := CX) Flpa B RE Drea Ndis Hiso Qisi) (fun _ _ _ _ h => h)) blpa⟩
  have Dplh : DefR PK w K mg base "_law_plan_holds" 11 (spPlH CR CR) := ⟨fplh, m1 aplh, kplh, raw0 (ok_plH Fplh B RE Dpla Qisi Dmov Dalw Daft Dsma Dipl) bplh⟩
  exact ok_law14 Flaw B Dbox Dtak Drin Dsta Droa Dtur Dsts Dsea Dlpa Dobh Dplh
end WC

namespace WC
open PySem PySem.Spec PyProof.Rows L2
theorem walk_k14 {l : PySem.W.OpenLaw} {q : Program} {loose : List Str} {XP : (Str → Option Value) → Heap → Prop} {YP : World → Heap → Prop} {d : DefRec} {K : Params → PySem.W.Frag} (hl : l.prog = PK) (hn : l.most = some 63) (hdf : d.params.defaults = [])
    (hY : ∀ (w : World) (h : Heap), YP w h → (K w.params).In h)
    (F : ∀ (w : World) (mg : Str → Option Value) (fa : Addr) (h : Heap), (K w.params).In h → h.Ns mainGlobals mg → mg d.name = some (.ref fa) →
      ∃ fd : FuncData, (∀ (s : Shared) (u : Value), BindsTo s fd ⟨[u], []⟩ [("_law_script", u)]) ∧ ∀ base : Heap, (K w.params).In base → base.Ns mainGlobals mg → FnOk PK w (K w.params) mg base (L2.CX PK w) 12 fa fd ["_law_script"] (spLaw (K w.params))) :
    PySem.W.WalkO q loose XP YP l.row.toRowW d [] (fun f vs => PySem.call f vs) := by
  refine L2.walk_of (n := 63) (k := 12) (x := "_law_script") (CX := fun w => L2.CX PK w) (sp := fun w => spLaw (K w.params)) hn (by decide) hdf ⟨rfl, by decide, by decide⟩ hY ?_ (fun _ _ a ns hl2 _ hS => ⟨a, ns, rfl, hS, hl2, fun _ => rfl⟩) (fun _ _ _ _ _ z => ?_)
  · rw [hl]
    exact F
  · obtain ⟨_, _, _, _, _, _, _, _, _, _, _, _, y⟩ := z
    exact y.elim
end WC
open PySem PySem.W PyProof.Rows
set_option maxRecDepth 100000 in
set_option maxHeartbeats 0 in
theorem PySem.Challenge.cw_withincall_k14_whole_rings_holds : PySem.Challenge.rw_withincall_k14_whole_rings.Holds := by
  w_on; o_law; k_head; (case hw => w_witness2)
  k_fill
  refine WC.walk_k14 (l := PySem.Challenge.rw_withincall_k14_whole_rings) rfl rfl rfl (fun w h Y => PySem.W.kIn_of Y) ?F
  case F =>
    intro w mg fa h KX G hmg
    refine' WC.all_k14 KX G hmg ?z_isi ?z_int ?z_bool ?z_tuple ?z_list ?z_str ?z_len ?z_range ?z_sorted ?z_enum ?z_sum ?z_all ?z_max ?z_min ?z_verr ?z_sup ?z_zip ?z_abs ?abtw ?lbtw ?cbtw ?kbtw ?achk ?lchk ?cchk ?kchk ?anat ?lnat ?cnat ?knat ?acst ?lcst ?ccst ?kcst ?aimv ?limv ?cimv ?kimv ?aoki ?loki ?coki ?koki ?asid ?lsid ?csid ?ksid ?aial ?lial ?cial ?kial ?abeh ?lbeh ?cbeh ?kbeh ?aird ?lird ?cird ?kird ?aobj ?lobj ?cobj ?kobj ?aiso ?liso ?ciso ?kiso ?area ?lrea ?crea ?krea ?adis ?ldis ?cdis ?kdis ?apla ?lpla ?cpla ?kpla ?aipl ?lipl ?cipl ?kipl ?aple ?lple ?cple ?kple ?aall ?lall ?call ?kall ?adrw ?ldrw ?cdrw ?kdrw ?amvb ?lmvb ?cmvb ?kmvb ?asto ?lsto ?csto ?ksto ?acho ?lcho ?ccho ?kcho ?argo ?lrgo ?crgo ?krgo ?amtw ?lmtw ?cmtw ?kmtw ?abpl ?lbpl ?cbpl ?kbpl ?afmv ?lfmv ?cfmv ?kfmv ?aisi ?lisi ?cisi ?kisi ?abox ?lbox ?cbox ?kbox ?atak ?ltak ?ctak ?ktak ?arin ?lrin ?crin ?krin ?amov ?lmov ?cmov ?kmov ?aalw ?lalw ?calw ?kalw ?aaft ?laft ?caft ?kaft ?asta ?lsta ?csta ?ksta ?aroa ?lroa ?croa ?kroa ?asea ?lsea ?csea ?ksea ?aobh ?lobh ?cobh ?kobh ?alpa ?llpa ?clpa ?klpa ?atur ?ltur ?ctur ?ktur ?asma ?lsma ?csma ?ksma ?aplh ?lplh ?cplh ?kplh ?asts ?lsts ?csts ?ksts ?alaw ?llaw ?claw ?klaw ?aN ?xN ?rbN ?saN ?ebN ?tyN ?kcN ?inN ?tfN ?lxN ?cxN ?kxN ?noN_number ?aI ?xI ?rbI ?saI ?ebI ?tyI ?kcI ?inI ?tfI ?lxI ?cxI ?kxI ?noI_reason ?noI_position ?aX ?xX ?rbX ?saX ?ebX ?tyX ?kcX ?inX ?tfX ?lxX ?cxX ?kxX ?noX_position ?aU ?xU ?rbU ?saU ?ebU ?tyU ?kcU ?inU ?tfU ?lxU ?cxU ?kxU ?noU_objection ?aT ?xT ?rbT ?saT ?ebT ?tyT ?kcT ?inT ?tfT ?lxT ?cxT ?kxT ?noT_size ?noT_most ?e_hn ?e_ht ?e_hgU ?e_hkU ?e_hdU ?e_haU ?e_hmU ?exm_UU ?lmost ?atK ?ltK ?aNet ?rdN ?gaN ?cv1 ?cv2 ?cv3 ?cv4 ?fIC ?rIC ?lIC ?cIC ?kIC ?aR ?pgR ?hdR ?poR ?stR ?nSR ?nCR ?nJR ?nOR ?mkR ?keR ?itR ?ifR ?sl_R ?sc_R ?ce_R ?co_R ?fi_R ?fe_R ?di_R ?mr_R ?ks_R ?opq ?tyNI ?fnNI ?lNI ?cNI ?kNI ?lring ?p_inc ?i_inc ?lMinc ?cMinc ?kMinc ?p_out ?i_out ?lMout ?cMout ?kMout ?p_isrR ?i_isrR ?lMisrR ?cMisrR ?kMisrR
    (case z_isi => first | k_is | rfl | (decide +kernel))
    (case z_int => first | k_is | rfl | (decide +kernel))
    (case z_bool => first | k_is | rfl | (decide +kernel))
    (case z_tuple => first | k_is | rfl | (decide +kernel))
    (case z_list => first | k_is | rfl | (decide +kernel))
    (case z_str => first | k_is | rfl | (decide +kernel))
    (case z_len => first | k_is | rfl | (decide +kernel))
    (case z_range => first | k_is | rfl | (decide +kernel))
    (case z_sorted => first | k_is | rfl | (decide +kernel))
    (case z_enum => first | k_is | rfl | (decide +kernel))
    (case z_sum => first | k_is | rfl | (decide +kernel))
    (case z_all => first | k_is | rfl | (decide +kernel))
    (case z_max => first | k_is | rfl | (decide +kernel))
    (case z_min => first | k_is | rfl | (decide +kernel))
    (case z_verr => first | k_is | rfl | (decide +kernel))
    (case z_sup => first | k_is | rfl | (decide +kernel))
    (case z_zip => first | k_is | rfl | (decide +kernel))
    (case z_abs => first | k_is | rfl | (decide +kernel))
    (case abtw => first | k_is | rfl | (decide +kernel))
    (case lbtw => first | k_is | rfl | (decide +kernel))
    (case cbtw => first | k_is | rfl | (decide +kernel))
    (case kbtw => first | k_is | rfl | (decide +kernel))
    (case achk => first | k_is | rfl | (decide +kernel))
    (case lchk => first | k_is | rfl | (decide +kernel))
    (case cchk => first | k_is | rfl | (decide +kernel))
    (case kchk => first | k_is | rfl | (decide +kernel))
    (case anat => first | k_is | rfl | (decide +kernel))
    (case lnat => first | k_is | rfl | (decide +kernel))
    (case cnat => first | k_is | rfl | (decide +kernel))
    (case knat => first | k_is | rfl | (decide +kernel))
    (case acst => first | k_is | rfl | (decide +kernel))
    (case lcst => first | k_is | rfl | (decide +kernel))
    (case ccst => first | k_is | rfl | (decide +kernel))
    (case kcst => first | k_is | rfl | (decide +kernel))
    (case aimv => first | k_is | rfl | (decide +kernel))
    (case limv => first | k_is | rfl | (decide +kernel))
    (case cimv => first | k_is | rfl | (decide +kernel))
    (case kimv => first | k_is | rfl | (decide +kernel))
    (case aoki => first | k_is | rfl | (decide +kernel))
    (case loki => first | k_is | rfl | (decide +kernel))
    (case coki => first | k_is | rfl | (decide +kernel))
    (case koki => first | k_is | rfl | (decide +kernel))
    (case asid => first | k_is | rfl | (decide +kernel))
    (case lsid => first | k_is | rfl | (decide +kernel))
    (case csid => first | k_is | rfl | (decide +kernel))
    (case ksid => first | k_is | rfl | (decide +kernel))
    (case aial => first | k_is | rfl | (decide +kernel))
    (case lial => first | k_is | rfl | (decide +kernel))
    (case cial => first | k_is | rfl | (decide +kernel))
    (case kial => first | k_is | rfl | (decide +kernel))
    (case abeh => first | k_is | rfl | (decide +kernel))
    (case lbeh => first | k_is | rfl | (decide +kernel))
    (case cbeh => first | k_is | rfl | (decide +kernel))
    (case kbeh => first | k_is | rfl | (decide +kernel))
    (case aird => first | k_is | rfl | (decide +kernel))
    (case lird => first | k_is | rfl | (decide +kernel))
    (case cird => first | k_is | rfl | (decide +kernel))
    (case kird => first | k_is | rfl | (decide +kernel))
    (case aobj => first | k_is | rfl | (decide +kernel))
    (case lobj => first | k_is | rfl | (decide +kernel))
    (case cobj => first | k_is | rfl | (decide +kernel))
    (case kobj => first | k_is | rfl | (decide +kernel))
    (case aiso => first | k_is | rfl | (decide +kernel))
    (case liso => first | k_is | rfl | (decide +kernel))
    (case ciso => first | k_is | rfl | (decide +kernel))
    (case kiso => first | k_is | rfl | (decide +kernel))
    (case area => first | k_is | rfl | (decide +kernel))
    (case lrea => first | k_is | rfl | (decide +kernel))
    (case crea => first | k_is | rfl | (decide +kernel))
    (case krea => first | k_is | rfl | (decide +kernel))
    (case adis => first | k_is | rfl | (decide +kernel))
    (case ldis => first | k_is | rfl | (decide +kernel))
    (case cdis => first | k_is | rfl | (decide +kernel))
    (case kdis => first | k_is | rfl | (decide +kernel))
    (case apla => first | k_is | rfl | (decide +kernel))
    (case lpla => first | k_is | rfl | (decide +kernel))
    (case cpla => first | k_is | rfl | (decide +kernel))
    (case kpla => first | k_is | rfl | (decide +kernel))
    (case aipl => first | k_is | rfl | (decide +kernel))
    (case lipl => first | k_is | rfl | (decide +kernel))
    (case cipl => first | k_is | rfl | (decide +kernel))
    (case kipl => first | k_is | rfl | (decide +kernel))
    (case aple => first | k_is | rfl | (decide +kernel))
    (case lple => first | k_is | rfl | (decide +kernel))
    (case cple => first | k_is | rfl | (decide +kernel))
    (case kple => first | k_is | rfl | (decide +kernel))
    (case aall => first | k_is | rfl | (decide +kernel))
    (case lall => first | k_is | rfl | (decide +kernel))
    (case call => first | k_is | rfl | (decide +kernel))
    (case kall => first | k_is | rfl | (decide +kernel))
    (case adrw => first | k_is | rfl | (decide +kernel))
    (case ldrw => first | k_is | rfl | (decide +kernel))
    (case cdrw => first | k_is | rfl | (decide +kernel))
    (case kdrw => first | k_is | rfl | (decide +kernel))
    (case amvb => first | k_is | rfl | (decide +kernel))
    (case lmvb => first | k_is | rfl | (decide +kernel))
    (case cmvb => first | k_is | rfl | (decide +kernel))
    (case kmvb => first | k_is | rfl | (decide +kernel))
    (case asto => first | k_is | rfl | (decide +kernel))
    (case lsto => first | k_is | rfl | (decide +kernel))
    (case csto => first | k_is | rfl | (decide +kernel))
    (case ksto => first | k_is | rfl | (decide +kernel))
    (case acho => first | k_is | rfl | (decide +kernel))
    (case lcho => first | k_is | rfl | (decide +kernel))
    (case ccho => first | k_is | rfl | (decide +kernel))
    (case kcho => first | k_is | rfl | (decide +kernel))
    (case argo => first | k_is | rfl | (decide +kernel))
    (case lrgo => first | k_is | rfl | (decide +kernel))
    (case crgo => first | k_is | rfl | (decide +kernel))
    (case krgo => first | k_is | rfl | (decide +kernel))
    (case amtw => first | k_is | rfl | (decide +kernel))
    (case lmtw => first | k_is | rfl | (decide +kernel))
    (case cmtw => first | k_is | rfl | (decide +kernel))
    (case kmtw => first | k_is | rfl | (decide +kernel))
    (case abpl => first | k_is | rfl | (decide +kernel))
    (case lbpl => first | k_is | rfl | (decide +kernel))
    (case cbpl => first | k_is | rfl | (decide +kernel))
    (case kbpl => first | k_is | rfl | (decide +kernel))
    (case afmv => first | k_is | rfl | (decide +kernel))
    (case lfmv => first | k_is | rfl | (decide +kernel))
    (case cfmv => first | k_is | rfl | (decide +kernel))
    (case kfmv => first | k_is | rfl | (decide +kernel))
    (case aisi => first | k_is | rfl | (decide +kernel))
    (case lisi => first | k_is | rfl | (decide +kernel))
    (case cisi => first | k_is | rfl | (decide +kernel))
    (case kisi => first | k_is | rfl | (decide +kernel))
    (case abox => first | k_is | rfl | (decide +kernel))
    (case lbox => first | k_is | rfl | (decide +kernel))
    (case cbox => first | k_is | rfl | (decide +kernel))
    (case kbox => first | k_is | rfl | (decide +kernel))
    (case atak => first | k_is | rfl | (decide +kernel))
    (case ltak => first | k_is | rfl | (decide +kernel))
    (case ctak => first | k_is | rfl | (decide +kernel))
    (case ktak => first | k_is | rfl | (decide +kernel))
    (case arin => first | k_is | rfl | (decide +kernel))
    (case lrin => first | k_is | rfl | (decide +kernel))
    (case crin => first | k_is | rfl | (decide +kernel))
    (case krin => first | k_is | rfl | (decide +kernel))
    (case amov => first | k_is | rfl | (decide +kernel))
    (case lmov => first | k_is | rfl | (decide +kernel))
    (case cmov => first | k_is | rfl | (decide +kernel))
    (case kmov => first | k_is | rfl | (decide +kernel))
    (case aalw => first | k_is | rfl | (decide +kernel))
    (case lalw => first | k_is | rfl | (decide +kernel))
    (case calw => first | k_is | rfl | (decide +kernel))
    (case kalw => first | k_is | rfl | (decide +kernel))
    (case aaft => first | k_is | rfl | (decide +kernel))
    (case laft => first | k_is | rfl | (decide +kernel))
    (case caft => first | k_is | rfl | (decide +kernel))
    (case kaft => first | k_is | rfl | (decide +kernel))
    (case asta => first | k_is | rfl | (decide +kernel))
    (case lsta => first | k_is | rfl | (decide +kernel))
    (case csta => first | k_is | rfl | (decide +kernel))
    (case ksta => first | k_is | rfl | (decide +kernel))
    (case aroa => first | k_is | rfl | (decide +kernel))
    (case lroa => first | k_is | rfl | (decide +kernel))
    (case croa => first | k_is | rfl | (decide +kernel))
    (case kroa => first | k_is | rfl | (decide +kernel))
    (case asea => first | k_is | rfl | (decide +kernel))
    (case lsea => first | k_is | rfl | (decide +kernel))
    (case csea => first | k_is | rfl | (decide +kernel))
    (case ksea => first | k_is | rfl | (decide +kernel))
    (case aobh => first | k_is | rfl | (decide +kernel))
    (case lobh => first | k_is | rfl | (decide +kernel))
    (case cobh => first | k_is | rfl | (decide +kernel))
    (case kobh => first | k_is | rfl | (decide +kernel))
    (case alpa => first | k_is | rfl | (decide +kernel))
    (case llpa => first | k_is | rfl | (decide +kernel))
    (case clpa => first | k_is | rfl | (decide +kernel))
    (case klpa => first | k_is | rfl | (decide +kernel))
    (case atur => first | k_is | rfl | (decide +kernel))
    (case ltur => first | k_is | rfl | (decide +kernel))
    (case ctur => first | k_is | rfl | (decide +kernel))
    (case ktur => first | k_is | rfl | (decide +kernel))
    (case asma => first | k_is | rfl | (decide +kernel))
    (case lsma => first | k_is | rfl | (decide +kernel))
    (case csma => first | k_is | rfl | (decide +kernel))
    (case ksma => first | k_is | rfl | (decide +kernel))
    (case aplh => first | k_is | rfl | (decide +kernel))
    (case lplh => first | k_is | rfl | (decide +kernel))
    (case cplh => first | k_is | rfl | (decide +kernel))
    (case kplh => first | k_is | rfl | (decide +kernel))
    (case asts => first | k_is | rfl | (decide +kernel))
    (case lsts => first | k_is | rfl | (decide +kernel))
    (case csts => first | k_is | rfl | (decide +kernel))
    (case ksts => first | k_is | rfl | (decide +kernel))
    (case alaw => first | k_is | rfl | (decide +kernel))
    (case llaw => first | k_is | rfl | (decide +kernel))
    (case claw => first | k_is | rfl | (decide +kernel))
    (case klaw => first | k_is | rfl | (decide +kernel))
    (case aN => first | k_is | rfl | (decide +kernel))
    (case xN => first | k_is | rfl | (decide +kernel))
    (case rbN => first | k_is | rfl | (decide +kernel))
    (case saN => first | k_is | rfl | (decide +kernel))
    (case ebN => first | k_is | rfl | (decide +kernel))
    (case tyN => first | k_is | rfl | (decide +kernel))
    (case kcN => first | k_is | rfl | (decide +kernel))
    (case inN => first | k_is | rfl | (decide +kernel))
    (case tfN => first | k_is | rfl | (decide +kernel))
    (case lxN => first | k_is | rfl | (decide +kernel))
    (case cxN => first | k_is | rfl | (decide +kernel))
    (case kxN => first | k_is | rfl | (decide +kernel))
    (case noN_number => first | k_is | rfl | (decide +kernel))
    (case aI => first | k_is | rfl | (decide +kernel))
    (case xI => first | k_is | rfl | (decide +kernel))
    (case rbI => first | k_is | rfl | (decide +kernel))
    (case saI => first | k_is | rfl | (decide +kernel))
    (case ebI => first | k_is | rfl | (decide +kernel))
    (case tyI => first | k_is | rfl | (decide +kernel))
    (case kcI => first | k_is | rfl | (decide +kernel))
    (case inI => first | k_is | rfl | (decide +kernel))
    (case tfI => first | k_is | rfl | (decide +kernel))
    (case lxI => first | k_is | rfl | (decide +kernel))
    (case cxI => first | k_is | rfl | (decide +kernel))
    (case kxI => first | k_is | rfl | (decide +kernel))
    (case noI_reason => first | k_is | rfl | (decide +kernel))
    (case noI_position => first | k_is | rfl | (decide +kernel))
    (case aX => first | k_is | rfl | (decide +kernel))
    (case xX => first | k_is | rfl | (decide +kernel))
    (case rbX => first | k_is | rfl | (decide +kernel))
    (case saX => first | k_is | rfl | (decide +kernel))
    (case ebX => first | k_is | rfl | (decide +kernel))
    (case tyX => first | k_is | rfl | (decide +kernel))
    (case kcX => first | k_is | rfl | (decide +kernel))
    (case inX => first | k_is | rfl | (decide +kernel))
    (case tfX => first | k_is | rfl | (decide +kernel))
    (case lxX => first | k_is | rfl | (decide +kernel))
    (case cxX => first | k_is | rfl | (decide +kernel))
    (case kxX => first | k_is | rfl | (decide +kernel))
    (case noX_position => first | k_is | rfl | (decide +kernel))
    (case aU => first | k_is | rfl | (decide +kernel))
    (case xU => first | k_is | rfl | (decide +kernel))
    (case rbU => first | k_is | rfl | (decide +kernel))
    (case saU => first | k_is | rfl | (decide +kernel))
    (case ebU => first | k_is | rfl | (decide +kernel))
    (case tyU => first | k_is | rfl | (decide +kernel))
    (case kcU => first | k_is | rfl | (decide +kernel))
    (case inU => first | k_is | rfl | (decide +kernel))
    (case tfU => first | k_is | rfl | (decide +kernel))
    (case lxU => first | k_is | rfl | (decide +kernel))
    (case cxU => first | k_is | rfl | (decide +kernel))
    (case kxU => first | k_is | rfl | (decide +kernel))
    (case noU_objection => first | k_is | rfl | (decide +kernel))
    (case aT => first | k_is | rfl | (decide +kernel))
    (case xT => first | k_is | rfl | (decide +kernel))
    (case rbT => first | k_is | rfl | (decide +kernel))
    (case saT => first | k_is | rfl | (decide +kernel))
    (case ebT => first | k_is | rfl | (decide +kernel))
    (case tyT => first | k_is | rfl | (decide +kernel))
    (case kcT => first | k_is | rfl | (decide +kernel))
    (case inT => first | k_is | rfl | (decide +kernel))
    (case tfT => first | k_is | rfl | (decide +kernel))
    (case lxT => first | k_is | rfl | (decide +kernel))
    (case cxT => first | k_is | rfl | (decide +kernel))
    (case kxT => first | k_is | rfl | (decide +kernel))
    (case noT_size => first | k_is | rfl | (decide +kernel))
    (case noT_most => first | k_is | rfl | (decide +kernel))
    (case e_hn => first | k_is | rfl | (decide +kernel))
    (case e_ht => first | k_is | rfl | (decide +kernel))
    (case e_hgU => first | k_is | rfl | (decide +kernel))
    (case e_hkU => first | k_is | rfl | (decide +kernel))
    (case e_hdU => first | k_is | rfl | (decide +kernel))
    (case e_haU => first | k_is | rfl | (decide +kernel))
    (case e_hmU => first | k_is | rfl | (decide +kernel))
    (case exm_UU => first | k_is | rfl | (decide +kernel))
    (case lmost => first | k_is | rfl | (decide +kernel))
    (case atK => first | k_is | rfl | (decide +kernel))
    (case ltK => first | k_is | rfl | (decide +kernel))
    (case aNet => first | k_is | rfl | (decide +kernel))
    (case rdN => first | k_is | rfl | (decide +kernel))
    (case gaN => first | k_is | rfl | (decide +kernel))
    (case cv1 => first | k_is | rfl | (decide +kernel))
    (case cv2 => first | k_is | rfl | (decide +kernel))
    (case cv3 => first | k_is | rfl | (decide +kernel))
    (case cv4 => first | k_is | rfl | (decide +kernel))
    (case fIC => first | k_is | rfl | (decide +kernel))
    (case rIC => first | k_is | rfl | (decide +kernel))
    (case lIC => first | k_is | rfl | (decide +kernel))
    (case cIC => first | k_is | rfl | (decide +kernel))
    (case kIC => first | k_is | rfl | (decide +kernel))
    (case aR => first | k_is | rfl | (decide +kernel))
    (case pgR => first | k_is | rfl | (decide +kernel))
    (case hdR => first | k_is | rfl | (decide +kernel))
    (case poR => first | k_is | rfl | (decide +kernel))
    (case stR => first | k_is | rfl | (decide +kernel))
    (case nSR => first | k_is | rfl | (decide +kernel))
    (case nCR => first | k_is | rfl | (decide +kernel))
    (case nJR => first | k_is | rfl | (decide +kernel))
    (case nOR => first | k_is | rfl | (decide +kernel))
    (case mkR => first | k_is | rfl | (decide +kernel))
    (case keR => first | k_is | rfl | (decide +kernel))
    (case itR => first | k_is | rfl | (decide +kernel))
    (case ifR => first | k_is | rfl | (decide +kernel))
    (case sl_R => first | k_is | rfl | (decide +kernel))
    (case sc_R => first | k_is | rfl | (decide +kernel))
    (case ce_R => first | k_is | rfl | (decide +kernel))
    (case co_R => first | k_is | rfl | (decide +kernel))
    (case fi_R => first | k_is | rfl | (decide +kernel))
    (case fe_R => first | k_is | rfl | (decide +kernel))
    (case di_R => first | k_is | rfl | (decide +kernel))
    (case mr_R => first | k_is | rfl | (decide +kernel))
    (case ks_R => first | k_is | rfl | (decide +kernel))
    (case opq => first | k_is | rfl | (decide +kernel))
    (case tyNI => first | k_is | rfl | (decide +kernel))
    (case fnNI => first | k_is | rfl | (decide +kernel))
    (case lNI => first | k_is | rfl | (decide +kernel))
    (case cNI => first | k_is | rfl | (decide +kernel))
    (case kNI => first | k_is | rfl | (decide +kernel))
    (case lring => first | k_is | rfl | (decide +kernel))
    (case p_inc => first | k_is | rfl | (decide +kernel))
    (case i_inc => first | k_is | rfl | (decide +kernel))
    (case lMinc => first | k_is | rfl | (decide +kernel))
    (case cMinc => first | k_is | rfl | (decide +kernel))
    (case kMinc => first | k_is | rfl | (decide +kernel))
    (case p_out => first | k_is | rfl | (decide +kernel))
    (case i_out => first | k_is | rfl | (decide +kernel))
    (case lMout => first | k_is | rfl | (decide +kernel))
    (case cMout => first | k_is | rfl | (decide +kernel))
    (case kMout => first | k_is | rfl | (decide +kernel))
    (case p_isrR => first | k_is | rfl | (decide +kernel))
    (case i_isrR => first | k_is | rfl | (decide +kernel))
    (case lMisrR => first | k_is | rfl | (decide +kernel))
    (case cMisrR => first | k_is | rfl | (decide +kernel))
    (case kMisrR => first | k_is | rfl | (decide +kernel))

