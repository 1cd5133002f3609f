import PyProof.Rows.All
import Wide.All
import OpenK.AllK
import Wide.FinOn
import KE.KSuper
import HandS.ForMost
import HandS.ForExc
import HandS.Star
import HandS.ClsMeth
import HandS.ExcInit
import HandS.ExcIs
import HandS.ExcField
import HandS.HotCalls
import HandS.Iter
import HandS.Walk
import KE.GoesEnum
import HandS.DictComp
import HandS.IsInst
import KE.KExcIs
import HandS.Zip
import KE.GoesMore
import HandS.Rev
import HandS.TupAny
import HandS.RaiseMore
import HandS.OwnEq
import HandS.SortOrd
import HandS.SortRule
import HandS.TupSets
import HandS.FStr
import HandS.DictTup
import HandS.TupLen
import HandS.Flow
import HandS.Style
import HandS.Property
import HandS.Conv
import HandS.Codes
import HandS.Deep
import PySem.Challenge.RW_withincall_k00_pipelines_checked
set_option Elab.async false
set_option linter.all false
set_option maxRecDepth 100000
set_option maxHeartbeats 4000000
namespace WC
open PySem PySem.Spec PyProof.Rows L2

/-! cells of a def that closes over the class -/
theorem cf_app : ∀ (names : List (Str × NameKind)) (n : Nat) (acc : List (Str × Addr)), cellsFrom n names acc = cellsFrom n names [] ++ acc
  | [], _, _ => rfl
  | (x, k) :: r, n, acc => by
    unfold cellsFrom
    by_cases hk : (k == NameKind.cell) = true
    · simp only [hk, if_true]
      rw [cf_app r (n + 1) ((x, n) :: acc), cf_app r (n + 1) [(x, n)], List.append_assoc]
      rfl
    · simp only [hk, if_false]
      exact cf_app r n acc
theorem cf_mem : ∀ (names : List (Str × NameKind)) (n : Nat) (x : Str) (c : Addr), (x, c) ∈ cellsFrom n names [] → (x, NameKind.cell) ∈ names
  | [], _, _, _, h => by cases h
  | (y, k) :: r, n, x, c, h => by
    unfold cellsFrom at h
    by_cases hk : (k == NameKind.cell) = true
    · simp only [hk, if_true] at h
      rw [cf_app, List.mem_append] at h
      rcases h with h | h
      · exact List.mem_cons_of_mem _ (cf_mem r _ x c h)
      · have e := List.mem_singleton.mp h
        cases e
        have e2 : k = NameKind.cell := by cases k <;> first | rfl | cases hk
        rw [e2]
        exact List.mem_cons_self
    · simp only [hk, if_false] at h
      exact List.mem_cons_of_mem _ (cf_mem r _ x c h)
theorem store_same {e1 e2 : Env} {x : Str} {v : Value} (h1 : e1.scope = e2.scope) (h2 : e1.locals = e2.locals) (h3 : e1.globals = e2.globals) (h4 : e1.cells.lookup x = e2.cells.lookup x) : storeName e1 x v = storeName e2 x v := by
  obtain ⟨s1, l1, g1, c1⟩ := e1
  obtain ⟨s2, l2, g2, c2⟩ := e2
  dsimp only at h1 h2 h3 h4
  subst h1 h2 h3
  unfold storeName PySem.cellOf
  simp only [h4]
  rfl
theorem forIn_same {β : Type} {α : Type} {f g : α → β → Sem (ForInStep β)} : ∀ (l : List α) (b : β), (∀ a ∈ l, ∀ b, f a b = g a b) → forIn l b f = forIn l b g
  | [], _, _ => rfl
  | a :: l, b, h => by
    rw [List.forIn_cons, List.forIn_cons, h a List.mem_cons_self]
    congr 1
    funext r
    cases r with
    | done b => rfl
    | yield b => exact forIn_same l b fun c hc => h c (List.mem_cons_of_mem _ hc)
end WC

set_option maxHeartbeats 4000000
namespace WC
open PySem PySem.Spec PyProof.Rows L2
section
variable {M : Model} {A : Around} {E : Value → Shared → Prop} {s : Shared}
theorem env_made {scope : Scope} {gl cc : Addr} {binds : List (Str × Value)} {qual : Str} {func : Option Addr} {code : Value} {blt : Addr} {Q : Env → Shared → Prop} (hk : scope.kind = .function)
    (hb : ∀ x ∈ binds, x.1 ≠ ("__class__" : Str) ∧ (scope.names.lookup x.1 = some .local ∨ (scope.names.lookup x.1 = some .cell ∧ ((cellsFrom (s.heap.objs.size + 1) scope.names []).lookup x.1).isSome = true)))
    (hQ : ∀ s', InCallC s s.heap.objs.size (bindL (fun x => scope.names.lookup x) binds fun _ => none) (cellsFrom (s.heap.objs.size + 1) scope.names []) (bindC (fun x => scope.names.lookup x) binds fun _ => none) s' →
      Q (newEnv scope s.heap.objs.size gl (cellsFrom (s.heap.objs.size + 1) scope.names [] ++ [(("__class__" : Str), cc)]) qual func code none blt) s') :
    wpAny M A (newFunctionEnv scope gl [(("__class__" : Str), cc)] binds qual func code none blt) Q E s := by
  have hz : ∀ o : Obj, ({ s with heap := s.heap.push o } : Shared).heap.objs.size = s.heap.objs.size + 1 := fun o => Heap.size_push ..
  have ok := cellsFrom_ok scope.names (s.heap.push { cls := .type "frame", data := .dict #[] }) (s.heap.objs.size + 1) [] ⟨fun _ _ z => (nomatch z), .nil⟩ (by rw [Heap.size_push]; exact Nat.le_refl _)
  rw [Heap.size_push] at ok
  simp only [newFunctionEnv, Option.isSome_none, Bool.false_eq_true, if_false]
  refine wpAny_bind <| wpAny_alloc ?_
  refine wpAny_bind <| wpAny_layCells _ (fun name kind cells => by cases e : kind == NameKind.cell <;> simp [e]) _ _ _ _ ?_
  rw [hz, cf_app]
  have st : ∀ x ∈ binds, ∀ u : PUnit, (do storeName (newEnv scope s.heap.objs.size gl (cellsFrom (s.heap.objs.size + 1) scope.names [] ++ [(("__class__" : Str), cc)]) qual func code none blt) x.1 x.2; pure (ForInStep.yield PUnit.unit) : Sem _) =
      (do storeName (newEnv scope s.heap.objs.size gl (cellsFrom (s.heap.objs.size + 1) scope.names []) qual func code none blt) x.1 x.2; pure (ForInStep.yield PUnit.unit)) := fun x hx _ => by
    have ne := (hb x hx).1
    have hl : List.lookup x.1 [(("__class__" : Str), cc)] = none := by
      have q : (x.1 == ("__class__" : Str)) = false := by simpa using ne
      simp [List.lookup, q]
    have h := store_same (v := x.2) (e1 := newEnv scope s.heap.objs.size gl (cellsFrom (s.heap.objs.size + 1) scope.names [] ++ [(("__class__" : Str), cc)]) qual func code none blt) (e2 := newEnv scope s.heap.objs.size gl (cellsFrom (s.heap.objs.size + 1) scope.names []) qual func code none blt) rfl rfl rfl (by
      show List.lookup x.1 (cellsFrom (s.heap.objs.size + 1) scope.names [] ++ [(("__class__" : Str), cc)]) = List.lookup x.1 (cellsFrom (s.heap.objs.size + 1) scope.names [])
      rw [List.lookup_append, hl]
      cases List.lookup x.1 (cellsFrom (s.heap.objs.size + 1) scope.names []) <;> rfl)
    rw [h]
  refine wpAny_bind ?_
  refine Eq.mpr (congrArg (fun t => wpAny M A t _ E _) (forIn_same binds PUnit.unit fun x hx b => st x hx b)) ?_
  refine wpAny_bindParams (s₀ := s) (env := newEnv scope s.heap.objs.size gl (cellsFrom (s.heap.objs.size + 1) scope.names []) qual func code none blt) _ (fun _ _ _ => rfl) hk binds (fun _ => none) (fun _ => none) _ _
    ⟨⟨⟨_, _, rfl⟩, (Heap.Ns.new s.heap (.type "frame")).keeps (pushCells_keeps _ _), fun b o e => pushCells_keeps _ _ b o (Heap.get?_push_of_some _ e), Nat.le_refl _⟩, fun n c hc => (ok.empty n c (mem_of_lookup hc)).1, ok.apart, fun n c hm => (ok.empty n c hm).2⟩
    (fun x hx => (hb x hx).2) fun s' x => wpAny_pure (hQ s' x)
end
end WC

set_option maxHeartbeats 4000000
namespace WC
open PySem PySem.Spec PyProof.Rows L2
abbrev cls_ : Str := "__class__"
/-- names of a def that says super(): the parameters first; one captured name, the class -/
structure CScope (N ps : List Str) (sc : Scope) : Prop where
  knd : sc.kind = .function
  coR : sc.isCoroutine = false
  gnr : sc.isGenerator = false
  nod : N.Nodup
  pfx : N.take ps.length = ps
  prm : ∀ x ∈ ps, x ≠ cls_ ∧ (sc.names.lookup x = some .local ∨ sc.names.lookup x = some .cell)
  fre : ∀ y ∈ sc.names, y.2 = .free → y.1 = cls_
  frc : sc.names.lookup cls_ = some .free
  nin : cls_ ∉ N
  once : ∀ y ∈ sc.names, y.1 = cls_ → y.2 = .free
abbrev envS (qual : Str) (sc : Scope) (L f : Addr) (cd : Value) (cc : Addr) : Env := PySem.W.envX qual sc L f cd (cellsFrom (L + 1) sc.names [] ++ [(cls_, cc)])
def cxS (CX : CXT) (P : Program) (w : World) (K : PySem.W.Frag) (mg : Str → Option Value) (base : Heap) (N : List Str) (qual : Str) (sc : Scope) (f : Addr) (cd : Value) (cc : Addr) (A : Around) (outer : List Env) (s : Shared) (H : Hp) (E : XK) : Cx :=
  { prog := P, w := w, K := K, mg := mg, base := base, A := A.deeper (envS qual sc s.heap.objs.size f cd cc), N := N, s_0 := s, H_0 := H, env := envS qual sc s.heap.objs.size f cd cc, outer := outer,
    stack := envS qual sc s.heap.objs.size f cd cc :: outer, ex := [], calm := true, fn := fun y => decide (y ≠ cls_), pn := [],
    xe := fun e s' => wpAny (model P w) (A.deeper (envS qual sc s.heap.objs.size f cd cc)) (leaving (envS qual sc s.heap.objs.size f cd cc) e) (fun _ s2 => CX outer H s E e s2) (fun e2 s2 => CX outer H s E e2 s2) s' }
theorem look_app {l : List (Str × Addr)} {x : Str} {cc c : Addr} (h : (l ++ [(cls_, cc)]).lookup x = some c) : l.lookup x = some c ∨ (x = cls_ ∧ c = cc) := by
  rw [List.lookup_append] at h
  cases e : l.lookup x with
  | some d => rw [e] at h; exact .inl h
  | none =>
    rw [e] at h
    have h : List.lookup x [(cls_, cc)] = some c := h
    by_cases q : x = cls_
    · subst q
      have z : List.lookup cls_ [(cls_, cc)] = some cc := by simp [List.lookup]
      rw [z] at h
      exact .inr ⟨rfl, (Option.some.inj h).symm⟩
    · have b : (x == cls_) = false := by simpa using q
      have z : List.lookup x [(cls_, cc)] = none := by simp [List.lookup, b]
      rw [z] at h
      cases h
section
variable {CX : CXT} {P : Program} {w : World} {K : PySem.W.Frag} {mg : Str → Option Value} {base : Heap} {N ps : List Str} {qual : Str} {sc : Scope} {f cc D : Addr} {cd : Value} {A : Around} {outer : List Env} {s s1 : Shared} {H : Hp} {E : XK} {us : List Value} {vs : List V}
theorem inv_startS {kc : Value} {dc : Option Addr} {lc : Array (Option Value)} (S : CScope N ps sc) (hd : A.handled = none) (e0 : Env0 P w K mg base A outer s H) (hl : vs.length = ps.length) (r : Vals vs us) (hcc : K.lookup cc = some ⟨kc, dc, .cell (some (.ref D)), lc⟩)
    (x : InCallC s s.heap.objs.size (bindL (fun x => sc.names.lookup x) (ps.zip us) fun _ => none) (cellsFrom (s.heap.objs.size + 1) sc.names []) (bindC (fun x => sc.names.lookup x) (ps.zip us) fun _ => none) s1) :
    Inv (cxS CX P w K mg base N qual sc f cd cc A outer s H E) [] (start N vs) H s1 := by
  have hN : ps.length ≤ N.length := by
    have z := congrArg List.length S.pfx
    rw [List.length_take] at z
    omega
  obtain ⟨h1, tk, rfl, hk⟩ := x.done
  have bcc : base.get? cc = some ⟨kc, dc, .cell (some (.ref D)), lc⟩ := e0.mod.kin _ _ hcc
  have scc := e0.bs _ _ bcc
  have ltc : cc < s.heap.objs.size := Heap.lt_size scc.1
  have nm : ∀ y c, (cellsFrom (s.heap.objs.size + 1) sc.names []).lookup y = some c → y ≠ cls_ ∧ s.heap.objs.size < c := fun y c h => by
    have m := mem_of_lookup h
    refine ⟨fun z => ?_, x.above y c m⟩
    have z2 := S.once _ (cf_mem _ _ _ _ m) z
    cases z2
  have lkc : (cellsFrom (s.heap.objs.size + 1) sc.names [] ++ [(cls_, cc)]).lookup cls_ = some cc := by
    rw [List.lookup_append]
    cases e : (cellsFrom (s.heap.objs.size + 1) sc.names []).lookup cls_ with
    | some c => exact absurd rfl (nm _ _ e).1
    | none => show List.lookup cls_ [(cls_, cc)] = some cc; simp [List.lookup]
  have lko : ∀ y c, (cellsFrom (s.heap.objs.size + 1) sc.names []).lookup y = some c → (cellsFrom (s.heap.objs.size + 1) sc.names [] ++ [(cls_, cc)]).lookup y = some c := fun y c e => by
    rw [List.lookup_append, e]
    rfl
  have nx : ∀ b : Addr, b ∉ (cxS CX P w K mg base N qual sc f cd cc A outer s H E).ex := fun b z => absurd (show b ∈ ([] : List Addr) from z) (by simp)
  refine
    { ok :=
        { mod := e0.mod, kind := S.knd, glob := rfl, blt := rfl, above := Nat.le_refl _,
          inj := fun y z c g1 g2 => ?_, has := fun y hy => ?_, cab := fun y c g1 g2 => ?_, hd := fun _ => hd, frames := Around.frames_deeper e0.frames, stk := .inr ⟨rfl, rfl⟩, exf := fun b z => absurd z (nx b), bs := e0.bs, bsz := e0.bsz,
          noex := fun b _ _ => nx b, exfs := fun b z => absurd z (nx b), funs := e0.funs, frf := e0.frf },
      os := rfl, bare := e0.bare, base := Un.kept hk, loc := ⟨_, x.toInCall.ns, fun i y v g1 g2 g3 => ?_⟩, cell := fun y c g => ?_, free := e0.hok.fresh (Nat.le_refl _), freeC := fun y c g => ?_,
      pin := fun p hp => absurd (show p ∈ ([] : List (Addr × Obj)) from hp) (by simp), hok := e0.hok.kept hk, len := ?_ }
  · rcases look_app g1 with a | ⟨a, a2⟩
    · rcases look_app g2 with b | ⟨b, b2⟩
      · exact name_of_addr x.apart (mem_of_lookup a) (mem_of_lookup b)
      · exact absurd (Nat.lt_trans ((b2 : c = cc) ▸ (nm _ _ a).2) ltc) (Nat.lt_irrefl _)
    · rcases look_app g2 with b | ⟨b, b2⟩
      · exact absurd (Nat.lt_trans ((a2 : c = cc) ▸ (nm _ _ b).2) ltc) (Nat.lt_irrefl _)
      · rw [a, b]
  · have hy : sc.names.lookup y = some .cell ∨ sc.names.lookup y = some .free := hy
    rcases hy with hy | hy
    · obtain ⟨c, hc⟩ := cell_has (n := s.heap.objs.size + 1) hy
      exact ⟨c, lko _ _ hc⟩
    · have z := S.fre _ (mem_of_lookup hy) rfl
      have z : y = cls_ := z
      rw [z]
      exact ⟨cc, lkc⟩
  · have g1 : y ≠ cls_ := of_decide_eq_true g1
    rcases look_app g2 with a | ⟨a, _⟩
    · exact Nat.le_of_lt (nm _ _ a).2
    · exact absurd a g1
  · have hi : i < vs.length := by
      unfold L2.start at g2
      by_cases hi : i < vs.length
      · exact hi
      · rw [List.getElem?_append_right (by simpa using hi), List.getElem?_replicate] at g2
        split at g2 <;> cases g2
    have ha : vs[i]? = some v := by
      unfold L2.start at g2
      rw [List.getElem?_append_left (by simpa using hi), List.getElem?_map] at g2
      cases e : vs[i]? with
      | none => rw [e] at g2; cases g2
      | some a => rw [e] at g2; cases g2; rfl
    obtain ⟨u, hu, rv⟩ := r.get ha
    have hp : ps[i]? = some y := by
      rw [← S.pfx, List.getElem?_take_of_lt (by omega)]
      exact g1
    have ndP : ps.Nodup := by
      rw [← S.pfx]
      exact S.nod.sublist (List.take_sublist _ _)
    refine ⟨u, rv, ?_⟩
    rcases (S.prm y (List.mem_of_getElem? hp)).2 with k | k
    · exact .inl ⟨k, bindL_get ndP hp hu k⟩
    · obtain ⟨c, e⟩ := cell_has (n := s.heap.objs.size + 1) k
      refine .inr ⟨.inl k, c, lko _ _ e, ?_⟩
      have q := x.cell y c e
      rw [bindC_get ndP hp hu (by rw [k]; decide)] at q
      exact q
  · rcases look_app g with a | ⟨_, a⟩
    · exact ⟨_, x.cell _ _ a⟩
    · subst a
      exact ⟨_, _, hk _ _ scc.1, rfl⟩
  · rcases look_app g with a | ⟨_, a⟩
    · exact e0.hok.fresh (Nat.le_of_lt (nm _ _ a).2)
    · subst a
      exact scc.2
  · unfold L2.start
    show _ = N.length
    rw [List.length_append, List.length_map, List.length_replicate]
    omega
end
end WC

set_option maxHeartbeats 4000000
namespace WC
open PySem PySem.Spec PyProof.Rows L2
/-- a block, run in the activation c -/
structure PX (X : Cx) (c : Code) (st : List Stmt) (t : TS) : Prop where
  run : ∀ (pins : List (Addr × Obj)) (s : Shared) (σ : L2.St) (H : Hp) (D : Ends), Inv X pins σ H s → t D σ H → PySem.wpAt (model X.prog X.w) X.A c (execs st X.env) (SP X pins D) X.xe s
section
variable {X : Cx} {c : Code} {st : Stmt} {rest : List Stmt} {t u : TS}
theorem px_of {st : List Stmt} (h : PSs X st t) : PX X c st t := ⟨fun pins s σ H D I z => wpAt_of_wpAny (h.run pins s σ H D I z)⟩
theorem px_cons (h1 : PS X st t) (h2 : PX X c rest u) : PX X c (st :: rest) (tSeq t u) := by
  refine ⟨fun pins s σ H D I h => ks_wpAt_execs_cons (wpAt_of_wpAny (thn (h1.run pins s σ H { D with nx := u D } I h) fun f s1 q => ?_))⟩
  cases f with
  | next =>
    obtain ⟨σ1, H1, I1, q1⟩ := q
    exact h2.run pins s1 σ1 H1 D I1 q1
  | ret v => exact q
  | brk => exact q
  | cont => exact q
/-- what the written part says for super() in a method of the class at D, called upon an instance of the class at C; g: the def that is met -/
structure SupTxt (P : Program) (K : PySem.W.Frag) (mg : Str → Option Value) (D C g : Addr) (m : Str) : Prop where
  dCls : ∃ cdD, PySem.W.clsIn K D = some cdD
  sub : PySem.W.mroIn K C (.ref D) = some true
  sup : mg "super" = none
  nat : (m == cls_) = false
  top : (P.main.scope.names.lookup ("super" : Str)).isSome = false
  opq : PySem.W.nsIn K cStatics "thirdparty.any" = some none
  met : PySem.W.ks_superIn K C D m = some (some (.ref g))
  typ : PySem.W.typeIn K (.ref g) = some (.type "function")
  fni : PySem.W.fnIn K g = true
/-- what it says of the def that says so: where it stands, its cell, its code -/
structure SelfTxt (P : Program) (K : PySem.W.Frag) (env : Env) (D : Addr) (slf : Str) : Prop where
  kS : env.kindOf "super" = some .globalImplicit
  kC : env.kindOf cls_ = some .free
  kL : env.kindOf slf = some .local
  lc : ∃ cc k d l, env.cells.lookup cls_ = some cc ∧ K.lookup cc = some ⟨k, d, .cell (some (.ref D)), l⟩
  fn : ∃ f oc od fd sl ar, env.func = some f ∧ K.lookup f = some ⟨oc, od, .func fd, sl⟩ ∧ (fd.params.posonlyargs ++ fd.params.args).head? = some ar ∧ ar.arg = slf
  cod : ∃ c oc od vs sl file t, env.code = .ref c ∧ K.lookup c = some ⟨oc, od, .fields vs, sl⟩ ∧ vs[2]? = some (.str file t) ∧ ((P.main.file : Str) == file) = true
/-- super().m(e, ..) -/
def tSup (C : Addr) (i : Nat) (sp : Sp) (E : XK) (t : TA) : TE := fun σ H Q => ∃ x dx fs, σ[i]? = some (some (.ref x)) ∧ H x = some (.ins C dx fs) ∧ t σ H fun vs H1 => sp (.ref x :: vs) H1 Q E
section
variable {CX : CXT} {k i : Nat} {C D g : Addr} {sp : Sp} {E : XK} {e : Expr} {es : List Expr} {m slf : Str} {p0 p1 p2 p3 : Pos} {ta : TA} {body : List Stmt} {pl : Sem Bool}
theorem at_sup {pins : List (Addr × Obj)} {s : Shared} {σ : L2.St} {H : Hp} {Q : VK} (T : SupTxt X.prog X.K X.mg D C g m) (Z : SelfTxt X.prog X.K X.env D slf) (F : FnR X.prog X.w X.K X.mg X.base CX k g sp) (hr : Room k X.A) (hx : Passes CX X E) (hN : X.N[i]? = some slf) (ha : PA X (e :: es) ta)
    (he : eval (.Call (.Attribute (.Call (.Name "super" p0) [] [] p1) m p2) (e :: es) [] p3) X.env = (do
      let ov ← attributeBase (.Call (.Name "super" p0) [] [] p1) m X.env (eval (.Call (.Name "super" p0) [] [] p1) X.env)
      standAt p2.atName
      let (f, first) ← holding [ov] (getMethod ov m pl)
      callWith p3 f first (backTo p3 (starEach (e :: es) X.env)) [])) 
    (hst : starEach (e :: es) X.env = (false, eval e X.env) :: starEach es X.env) (hpl : (backTo p3 (starEach es X.env)).any (·.1) = false)
    (I : Inv X pins σ H s) (h : tSup C i sp E ta σ H Q) : PySem.wpAt (model X.prog X.w) X.A (.func body X.env) (eval (.Call (.Attribute (.Call (.Name "super" p0) [] [] p1) m p2) (e :: es) [] p3) X.env) (EP X pins σ Q) X.xe s := by
  obtain ⟨x, dx, fs, hs, hH, ht⟩ := h
  obtain ⟨f, of1, of2, fd, of3, ar, ef, kf, hd, har⟩ := Z.fn
  obtain ⟨c, oc1, oc2, vs, oc3, file, tf, ec, kc, hvs, hfile⟩ := Z.cod
  obtain ⟨cc, k1, k2, k3, lcc, kcc⟩ := Z.lc
  obtain ⟨cdD, hD⟩ := T.dCls
  have K1 := I.kIn
  obtain ⟨oD, hD1, hD2⟩ : ∃ oD, s.heap.get? D = some oD ∧ oD.data = .cls cdD := by
    unfold PySem.W.clsIn at hD
    split at hD
    · rename_i a b cd' d ho
      cases hD
      exact ⟨_, K1 _ _ ho, rfl⟩
    · cases hD
  obtain ⟨_, O, _, _, _⟩ := ins_get I.hok hH
  have hob := O.1
  refine ks_wpAt_MethodCall ?_ he
  refine ks_wpAt_super_base Z.kS Z.kC T.nat ef (K1 _ _ kf) rfl hd ec (K1 _ _ kc) rfl hvs hfile T.top ?_
  obtain ⟨mb, hb1, hb2⟩ := I.mod.blt
  refine PySem.W.ks_loadName_global I.ok.kind Z.kS (Calls.loadGlobal_builtin (by rw [I.ok.glob]; exact I.mod.glob.keeps I.bk) T.sup (by rw [I.ok.blt]; exact hb1.keeps I.bk) ((hb2 _ (by decide)).trans (show bootBuiltins "super" = some (.type "super") by decide +kernel)) ⟨rfl, ?_⟩)
  refine wpAny_loadName_free I.ok.kind Z.kC lcc ⟨_, K1 _ _ kcc, rfl⟩ ?_
  obtain ⟨mL, hn, hl⟩ := id I.loc
  obtain ⟨u, ru, lu⟩ := hl i slf _ hN hs (.inl Z.kL)
  obtain rfl : u = Value.ref x := ru
  have hm : mL slf = some (.ref x) := by
    rcases lu with ⟨_, q⟩ | ⟨q, _⟩
    · exact q
    · rw [Z.kL] at q
      rcases q with q | q <;> cases q
  rw [har]
  refine wpAny_loadName_local I.ok.kind Z.kL hn hm ?_
  refine ks_wpAny_isType_cls hD1 hD2 ⟨rfl, ?_⟩
  refine ks_wpAny_call_super hD1 hD2 hob rfl (fun c e => by cases e) (PySem.W.looks_mroIn K1 T.sub) fun h1 e1 k1 => ?_
  have I1 : Inv X pins σ H { s with heap := h1, toks := s.toks } := I.kept (t' := s.toks) k1
  have K2 := I1.kIn
  have K2 : X.K.In h1 := K2
  cases hC : PySem.W.clsIn X.K C with
  | none =>
    have z := T.met
    unfold PySem.W.ks_superIn at z
    rw [hC] at z
    cases z
  | some cd =>
    have z := T.met
    unfold PySem.W.ks_superIn at z
    rw [hC] at z
    obtain ⟨og, hog, hogc⟩ : ∃ og, h1.get? g = some og ∧ og.cls = .type "function" := by
      have y : (X.K.lookup g).map (·.cls) = some (.type "function") := T.typ
      cases q : X.K.lookup g with
      | none => rw [q] at y; cases y
      | some og =>
        rw [q] at y
        exact ⟨og, K2 _ _ q, Option.some.inj y⟩
    have hxC : x ≠ C := by
      rintro rfl
      unfold PySem.W.clsIn at hC
      split at hC
      · rename_i a b cd' d ho
        have e := K1 _ _ ho
        rw [hob] at e
        cases e
      · cases hC
    refine ks_wpAny_getMethod_super e1 (PySem.W.looks_opaque K2 T.opq) (l₀ := cd.mro) (fun A Q E s k q => wpAny_bind ((PySem.W.looks_clsIn K2 hC) A _ E s k (wpAny_pure q))) rfl K2 z hog hogc hxC T.nat ?_
    have I2 := ClX.met_new (C := x) (g := g) I1
    refine ClX.callwith_cm (C := x) (g := g) I2 (ClX.base_none I1 (Nat.le_refl _)) T.fni (thn (ha.run p3 _ _ σ H _ I2 ht) fun us s3 ⟨vs3, H3, I3, rv, q3⟩ => ⟨⟨ClX.pin_at I3, I3.kIn⟩, ?_⟩) hst hpl
    exact ClX.run_cm F hr hx I3 rv q3
end
end
end WC

set_option maxHeartbeats 4000000
namespace WC
open PySem PySem.Spec PyProof.Rows L2
section
variable {X : Cx} {CX : CXT} {k i : Nat} {C D g : Addr} {sp : Sp} {E : XK} {e : Expr} {es : List Expr} {m slf : Str} {p0 p1 p2 p3 p4 : Pos} {ta : TA} {body rest : List Stmt} {pl : Sem Bool} {u : TS}
/-- super().m(e, ..) as a statement -/
theorem px_sup (T : SupTxt X.prog X.K X.mg D C g m) (Z : SelfTxt X.prog X.K X.env D slf) (F : FnR X.prog X.w X.K X.mg X.base CX k g sp) (hr : Room k X.A) (hx : Passes CX X E) (hN : X.N[i]? = some slf) (ha : PA X (e :: es) ta) (hrest : PX X (.func body X.env) rest u)
    (he : eval (.Call (.Attribute (.Call (.Name "super" p0) [] [] p1) m p2) (e :: es) [] p3) X.env = (do
      let ov ← attributeBase (.Call (.Name "super" p0) [] [] p1) m X.env (eval (.Call (.Name "super" p0) [] [] p1) X.env)
      standAt p2.atName
      let (f, first) ← holding [ov] (getMethod ov m pl)
      callWith p3 f first (backTo p3 (starEach (e :: es) X.env)) []) := by rfl)
    (hst : starEach (e :: es) X.env = (false, eval e X.env) :: starEach es X.env := by rfl) (hpl : (backTo p3 (starEach es X.env)).any (·.1) = false := by rfl)
    (hs : swapsWith (.Call (.Attribute (.Call (.Name "super" p0) [] [] p1) m p2) (e :: es) [] p3) none p4.line X.env = pure false := by rfl) :
    PX X (.func body X.env) (.Expr (.Call (.Attribute (.Call (.Name "super" p0) [] [] p1) m p2) (e :: es) [] p3) p4 :: rest) (tSeq (tDrop (tSup C i sp E ta)) u) := by
  refine ⟨fun pins s σ H D0 I h => ks_wpAt_execs_cons (ks_wpAt_Expr_any (PySem.wpAt_mono (at_sup T Z F hr hx hN ha he hst hpl I h) (fun v s1 q => ?_) fun _ _ q => q) I.quiet hs)⟩
  obtain ⟨v1, H1, I1, r1, q1⟩ := q
  exact hrest.run pins s1 σ H1 D0 I1 q1
end
section
variable {CX : CXT} {P : Program} {w : World} {K : PySem.W.Frag} {mg : Str → Option Value} {base : Heap} {k : Nat} {f cc D : Addr} {name qual : Str} {params : Arguments} {body : List Stmt} {sc : Scope} {dV kV doc pm cdv ct oc kc : Value} {an od dc : Option Addr}
  {osl lc : Array (Option Value)} {N ps : List Str} {sp : Sp}
theorem run_bndS {A : Around} {outer : List Env} {s : Shared} {H : Hp} {args : Args} {Q : VK} {E : XK} {G : List V → Hp → Prop} (lk : K.lookup f = some ⟨oc, od, .func (PySem.W.fnX name qual params body sc [(cls_, cc)] dV kV doc pm an cdv ct), osl⟩) (hcd : PySem.W.codeIn K cdv qual = true)
    (hcc : K.lookup cc = some ⟨kc, dc, .cell (some (.ref D)), lc⟩) (S : CScope N ps sc) (hr : Room (k + 1) A) (e0 : Env0 P w K mg base A outer s H)
    (hb : StX.Bnd CX P w K mg base (PySem.W.fnX name qual params body sc [(cls_, cc)] dV kV doc pm an cdv ct) args ps A outer s H E G)
    (hbody : ∀ (s2 : Shared) (H2 : Hp) (vs : List V), G vs H2 → Room k (A.deeper (envS qual sc s2.heap.objs.size f cdv cc)) →
      ∃ t, PX (cxS CX P w K mg base N qual sc f cdv cc A outer s2 H2 E) (.func body (envS qual sc s2.heap.objs.size f cdv cc)) body t ∧ t { nx := fun _ H' => Q .non H', rt := Q } (L2.start N vs) H2) :
    codeAny (model P w) A (.call (.ref f) args) (CR CX outer P w H s Q E) s := by
  have KX : K.In s.heap := e0.mod.kin.keeps fun b o e => (e0.bs b o e).1
  refine codeAny_call_function hr.depth (KX _ _ lk) rfl S.coR S.gnr rfl (PySem.W.codeRec_of KX hcd) ?_
  refine hb _ _ _ fun s2 H2 vs us e2 un ho hx r hl g => ?_
  have lim : s2.heap.NoLimit := e0.mod.nolimit.keeps fun b o e => (e2.bs b o e).1
  refine env_made S.knd (fun y hy => ⟨(S.prm _ (List.of_mem_zip hy).1).1, ?_⟩) fun s1 x => ⟨lim.keeps x.toInCall.keep, ks_codeAny_funcAt ?_⟩
  · rcases (S.prm _ (List.of_mem_zip hy).1).2 with q | q
    · exact .inl q
    · exact .inr ⟨q, PySem.W.cellsFrom_some _ _ _ (.inl q)⟩
  obtain ⟨t, ht, hq⟩ := hbody s2 H2 vs g (hr.deeper _)
  have I : Inv (cxS CX P w K mg base N qual sc f cdv cc A outer s2 H2 E) [] (L2.start N vs) H2 s1 := inv_startS S hr.hd e2 hl r hcc x
  refine PySem.wpAt_mono (ht.run [] s1 _ _ _ I hq) (fun fl s3 hs => ?_) fun e s3 hs => ?_
  · have fin : ∀ {σ3 : L2.St} {H3 : Hp} {v3 : V} {u3 : Value}, Inv (cxS CX P w K mg base N qual sc f cdv cc A outer s2 H2 E) [] σ3 H3 s3 → RelV v3 u3 → Q v3 H3 → CE outer P w H s Q u3 s3 :=
      fun {σ3 H3 v3 u3} J rv q => ⟨v3, H3, J.os.trans ho, J.bare, un.trans J.base, J.hok, rv, q⟩
    cases fl with
    | ret u =>
      obtain ⟨v3, σ3, H3, J, rv, q⟩ := hs
      exact fin J rv q
    | next =>
      obtain ⟨σ3, H3, J, q⟩ := hs
      exact fin (v3 := V.non) (u3 := Value.none) J rfl q
    | brk =>
      obtain ⟨_, _, _, q⟩ := hs
      exact q.elim
    | cont =>
      obtain ⟨_, _, _, q⟩ := hs
      exact q.elim
  · exact wpAny_mono hs (fun _ s4 z => hx e s4 z) fun e2 s4 z => hx e2 s4 z
end
end WC

set_option maxHeartbeats 4000000
namespace WC
open PySem PySem.Spec PyProof.Rows L2
/-- def f(a, .., *pv, k = d, ..): how it binds positional values, the keywords left out (kv: the values of the keywords ks) -/
def BindStar (K : PySem.W.Frag) (fd : FuncData) (ps ks : List Str) (kv : List Value) (pv : Str) : Prop :=
  ∀ (u1 u2 : List Value), u1.length = ps.length → ∀ (M : Model) (A : Around) (Q : List (Str × Value) → Shared → Prop) (E : Value → Shared → Prop) (s : Shared), K.In s.heap →
    wpAny M A (newTuple u2 >>= fun t => pure ((ps ++ ks).zip (u1 ++ kv) ++ [(pv, t)])) Q E s → wpAny M A (bindArgs fd ⟨u1 ++ u2, []⟩) Q E s
theorem BindStar.of_eq {K : PySem.W.Frag} {fd : FuncData} {ps : List Str} {pv : Str} (h : ∀ u1 u2 : List Value, u1.length = ps.length → bindArgs fd ⟨u1 ++ u2, []⟩ = (newTuple u2 >>= fun t => pure (ps.zip u1 ++ [(pv, t)]))) : BindStar K fd ps [] [] pv := fun u1 u2 hl M A Q E s _ z => by
  rw [h u1 u2 hl]
  rw [List.append_nil, List.append_nil] at z
  exact z
/-- one keyword -/
theorem BindStar.of_kw {K : PySem.W.Frag} {fd : FuncData} {ps : List Str} {k1 pv : Str} {v : Value} {D : Addr} (hD : PySem.W.nsIn K D k1 = some (some v))
    (h : ∀ u1 u2 : List Value, u1.length = ps.length → ∃ (β γ : Type) (f1 : Option Value → Sem β) (f2 : β → Sem γ) (f3 : γ → Sem (List (Str × Value))) (a : β), bindArgs fd ⟨u1 ++ u2, []⟩ = ((nsGet D k1 >>= f1) >>= f2) >>= f3 ∧ f1 (some v) = pure a ∧
      (f2 a >>= f3) = (newTuple u2 >>= fun t => pure ((ps ++ [k1]).zip (u1 ++ [v]) ++ [(pv, t)]))) : BindStar K fd ps [k1] [v] pv := fun u1 u2 hl M A Q E s X z => by
  obtain ⟨β, γ, f1, f2, f3, a, e1, e2, e3⟩ := h u1 u2 hl
  rw [e1, bind_assoc, bind_assoc]
  refine wpAny_bind ((PySem.W.looks_nsIn X hD).here ?_)
  rw [e2, pure_bind, e3]
  exact z
section
variable {CX : CXT} {P : Program} {w : World} {K : PySem.W.Frag} {mg : Str → Option Value} {base : Heap} {k : Nat} {f cc D : Addr} {name qual : Str} {params : Arguments} {body : List Stmt} {sc : Scope} {dV kV doc pm cdv ct oc kc : Value} {an od dc : Option Addr}
  {osl lc : Array (Option Value)} {N ps ks : List Str} {sp : Sp} {pv : Str} {kvV : List V} {kv : List Value}
theorem bnd_star {fd : FuncData} {A : Around} {outer : List Env} {s : Shared} {H : Hp} {E : XK} {ws rest : List V} {us : List Value} (hCX : StX.CXUp CX) (hb : BindStar K fd ps ks kv pv) (hkv : Vals kvV kv) (hks : kv.length = ks.length) (e0 : Env0 P w K mg base A outer s H)
    (r : Vals (ws ++ rest) us) (hl : ws.length = ps.length) (hz : rest.length ≤ sizeLine) :
    StX.Bnd CX P w K mg base fd ⟨us, []⟩ (ps ++ ks ++ [pv]) A outer s H E (fun xs H2 => ∃ p, H p = none ∧ xs = ws ++ kvV ++ [V.ref p] ∧ H2 = upd H p (.tup rest)) := by
  intro A2 Ex Q2 h
  obtain ⟨u1, u2, eu, r1, r2⟩ := StX.vals_split r
  subst eu
  have hl1 : u1.length = ps.length := r1.length ▸ hl
  have hl2 : u2.length ≤ sizeLine := r2.length ▸ hz
  have hn : H s.heap.objs.size = none := e0.hok.fresh (Nat.le_refl _)
  refine hb u1 u2 hl1 _ _ _ _ _ (e0.mod.kin.keeps fun b o e => (e0.bs b o e).1) (wpAny_bind (wpAny_newTuple (wpAny_pure ?_) hl2))
  have new : ObjOk P w (upd H s.heap.objs.size (.tup rest)) (s.heap.push ({ cls := .type "tuple", data := .seq u2.toArray } : Obj)) s.heap.objs.size (.tup rest) := ⟨hz, u2, r2, _, Heap.get?_push_size _ rfl, rfl, _, rfl⟩
  have un := StX.un_laid (fs := frs outer) (s := s) (o := ({ cls := .type "tuple", data := .seq u2.toArray } : Obj)) (u := .tup rest) hn
  have z := h _ _ (ws ++ kvV ++ [V.ref s.heap.objs.size]) (u1 ++ kv ++ [Value.ref s.heap.objs.size]) (StX.env0_laid e0 new) un rfl (fun e s2 => hCX outer s H _ _ E e s2 un (fun b o q => Heap.get?_push_of_some _ q) rfl)
    ((r1.append hkv).append (.cons rfl .nil)) (by simp only [List.length_append, hl, hkv.length, hks, List.length_cons, List.length_nil]) ⟨_, hn, rfl, rfl⟩
  have q : (ps ++ ks).length = (u1 ++ kv).length := by rw [List.length_append, List.length_append, hl1, hks]
  rw [List.zip_append q] at z
  exact z
/-- the rule: a def with *pv that says super() -/
theorem fn_starS (lk : K.lookup f = some ⟨oc, od, .func (PySem.W.fnX name qual params body sc [(cls_, cc)] dV kV doc pm an cdv ct), osl⟩) (hcd : PySem.W.codeIn K cdv qual = true)
    (hcc : K.lookup cc = some ⟨kc, dc, .cell (some (.ref D)), lc⟩) (S : CScope N (ps ++ ks ++ [pv]) sc) (hCX : StX.CXUp CX) (hb : BindStar K (PySem.W.fnX name qual params body sc [(cls_, cc)] dV kV doc pm an cdv ct) ps ks kv pv) (hkv : Vals kvV kv) (hks : kv.length = ks.length)
    (hbody : ∀ (A : Around) (outer : List Env) (s : Shared) (H : Hp) (vs : List V) (Q : VK) (E : XK), Room k (A.deeper (envS qual sc s.heap.objs.size f cdv cc)) → sp vs H Q E →
      ∃ t, PX (cxS CX P w K mg base N qual sc f cdv cc A outer s H E) (.func body (envS qual sc s.heap.objs.size f cdv cc)) body t ∧ t { nx := fun _ H' => Q .non H', rt := Q } (L2.start N vs) H) :
    FnR P w K mg base CX (k + 1) f (fun vs H Q E => ∃ ws rest, vs = ws ++ rest ∧ ws.length = ps.length ∧ rest.length ≤ sizeLine ∧ ∀ p, H p = none → sp (ws ++ kvV ++ [V.ref p]) (upd H p (.tup rest)) Q E) := by
  intro A outer s H us vs Q E hr e0 r hsp
  obtain ⟨ws, rest, ev, hl, hz, hq⟩ := hsp
  subst ev
  refine run_bndS lk hcd hcc S hr e0 (bnd_star hCX hb hkv hks e0 r hl hz) fun s2 H2 xs ⟨p, hp, ex, eH⟩ hr2 => ?_
  subst ex eH
  exact hbody A outer s2 _ _ Q E hr2 (hq p hp)
/-- the same without super() -/
theorem fn_starP (lk : K.lookup f = some ⟨oc, od, .func (PySem.W.fnOf name qual params body sc dV kV doc pm an cdv ct), osl⟩) (hcd : PySem.W.codeIn K cdv qual = true)
    (S : FnScope N (ps ++ ks ++ [pv]) sc) (hCX : StX.CXUp CX) (hb : BindStar K (PySem.W.fnOf name qual params body sc dV kV doc pm an cdv ct) ps ks kv pv) (hkv : Vals kvV kv) (hks : kv.length = ks.length)
    (hbody : ∀ (A : Around) (outer : List Env) (s : Shared) (H : Hp) (vs : List V) (Q : VK) (E : XK), Room k (A.deeper (envOfC qual sc s.heap.objs.size f cdv)) → sp vs H Q E →
      ∃ t, PSs (cxOf CX P w K mg base N qual sc f cdv A outer s H E) body t ∧ t { nx := fun _ H' => Q .non H', rt := Q } (L2.start N vs) H) :
    FnR P w K mg base CX (k + 1) f (fun vs H Q E => ∃ ws rest, vs = ws ++ rest ∧ ws.length = ps.length ∧ rest.length ≤ sizeLine ∧ ∀ p, H p = none → sp (ws ++ kvV ++ [V.ref p]) (upd H p (.tup rest)) Q E) := by
  intro A outer s H us vs Q E hr e0 r hsp
  obtain ⟨ws, rest, ev, hl, hz, hq⟩ := hsp
  subst ev
  refine StX.run_bnd lk hcd S hr e0 (bnd_star hCX hb hkv hks e0 r hl hz) fun s2 H2 xs ⟨p, hp, ex, eH⟩ hr2 => ?_
  subst ex eH
  exact hbody A outer s2 _ _ Q E hr2 (hq p hp)
end
end WC

set_option maxHeartbeats 4000000
namespace WC
open PySem PySem.Spec PyProof.Rows L2
/-! calls: a def of the module by its name; a class by its name, or held by a local name; a function kept in a class -/
/-- the def that the module's name x holds keeps sp -/
structure DefR (P : Program) (w : World) (K : PySem.W.Frag) (mg : Str → Option Value) (base : Heap) (x : Str) (k : Nat) (sp : Sp) : Prop where
  ex : ∃ f, mg x = some (.ref f) ∧ PySem.W.keepIn K (.ref f) = true ∧ FnR P w K mg base (L2.CX P w) k f sp
/-- the class that stands at C is made by sp -/
structure ClsR (P : Program) (w : World) (K : PySem.W.Frag) (mg : Str → Option Value) (base : Heap) (C : Addr) (k : Nat) (sp : Sp) : Prop where
  ex : ∃ f, Mk K C f ∧ FnR P w K mg base (L2.CX P w) k f sp
def tCallR (sp : Sp) (E : XK) (t : TA) : TE := fun σ H Q => t σ H fun vs H1 => sp vs H1 Q E
def tMakeL (i : Nat) (C : Addr) (sp : Sp) (E : XK) (t : TA) : TE := fun σ H Q => σ[i]? = some (some (.ref C)) ∧ StX.tMakeR C sp E t σ H Q
section
variable {X : Cx} {j k i : Nat} {C : Addr} {sp : Sp} {E : XK} {x m : Str} {e o : Expr} {es : List Expr} {t : TA} {ta : TE} {p pos apos : Pos}
theorem pe_cd (D : DefR X.prog X.w X.K X.mg X.base x k sp) (hr : Room j X.A) (hx : Passes (L2.CX X.prog X.w) X E) (ha : PA X (e :: es) t) (hle : k ≤ j := by decide) (hg : Gl X x := by rfl) (hdb : (x == ("__debug__" : Str)) = false := by decide)
    (he : starEach (e :: es) X.env = (false, eval e X.env) :: starEach es X.env := by rfl) (hpl : (backTo pos (starEach es X.env)).any (·.1) = false := by rfl) : PE X (.Call (.Name x p) (e :: es) [] pos) (tCallR sp E t) := by
  obtain ⟨f, hm, hk, F⟩ := D.ex
  refine ⟨fun pins s σ H Q I h => wpAny_Call_Name_kw (ld_glob I hg hm ?_ hdb)⟩
  exact PySem.W.callWith_K (h₀ := X.base) I.ok.mod.kin hk (thn (ha.run pos pins s σ H _ I h) fun us s1 ⟨vs, H1, I1, r, q⟩ => ⟨I1.kIn, wpAny_call (run_fnR F (hr.mono hle) hx I1 r q)⟩) he hpl
theorem pe_cc (D : ClsR X.prog X.w X.K X.mg X.base C k sp) (hm : X.mg x = some (.ref C)) (hr : Room j X.A) (hx : Passes (L2.CX X.prog X.w) X E) (ha : PA X (e :: es) t) (hle : k + 1 ≤ j := by decide) (hg : Gl X x := by rfl) (hdb : (x == ("__debug__" : Str)) = false := by decide)
    (he : starEach (e :: es) X.env = (false, eval e X.env) :: starEach es X.env := by rfl) (hpl : (backTo pos (starEach es X.env)).any (·.1) = false := by rfl) : PE X (.Call (.Name x p) (e :: es) [] pos) (StX.tMakeR C sp E t) := by
  obtain ⟨f, M, F⟩ := D.ex
  exact StX.pe_makeR M F (hr.mono hle) hg hm hx ha hdb he hpl
/-- .. with *e among the arguments -/
theorem pe_ccs (D : ClsR X.prog X.w X.K X.mg X.base C k sp) (hm : X.mg x = some (.ref C)) (hr : Room j X.A) (hx : Passes (L2.CX X.prog X.w) X E) (ha : PA X (e :: es) t) (hle : k + 1 ≤ j := by decide) (hg : Gl X x := by rfl) (hdb : (x == ("__debug__" : Str)) = false := by decide)
    (he : starEach (e :: es) X.env = (false, eval e X.env) :: starEach es X.env := by rfl) (hst : (backTo pos (starEach es X.env)).any (·.1) = true := by rfl) : PE X (.Call (.Name x p) (e :: es) [] pos) (StX.tMakeR C sp E t) := by
  obtain ⟨f, M, F⟩ := D.ex
  refine ⟨fun pins s σ H Q I h => wpAny_Call_Name_kw (ld_glob I hg hm ?_ hdb)⟩
  exact PySem.W.callWith_S2 (h₀ := X.base) I.ok.mod.kin M.kp (thn (ha.run pos pins s σ H _ I h) fun us s1 ⟨vs, H1, I1, r, q⟩ => ⟨I1.kIn, StX.run_makeR M F (hr.mono hle) hx I1 r q⟩) he hst
/-- .. the class held by a local name -/
theorem pe_cls (D : ClsR X.prog X.w X.K X.mg X.base C k sp) (hN : X.N[i]? = some x) (hv : Vis X.env.scope x) (hr : Room j X.A) (hx : Passes (L2.CX X.prog X.w) X E) (ha : PA X (e :: es) t) (hle : k + 1 ≤ j := by decide) (hdb : (x == ("__debug__" : Str)) = false := by decide)
    (hcd : (x == ("__classdict__" : Str)) = false := by decide)
    (he : starEach (e :: es) X.env = (false, eval e X.env) :: starEach es X.env := by rfl) (hst : (backTo pos (starEach es X.env)).any (·.1) = true := by rfl) : PE X (.Call (.Name x p) (e :: es) [] pos) (tMakeL i C sp E t) := by
  obtain ⟨f, M, F⟩ := D.ex
  refine ⟨fun pins s σ H Q I h => ?_⟩
  obtain ⟨hs, ht⟩ := h
  refine wpAny_Call_Name_kw (thn ((pe_var (pos := p) hN hv hdb hcd).run pins s σ H (fun v H1 => v = .ref C ∧ H1 = H) I ⟨_, hs, rfl, rfl⟩) fun u s1 ⟨v, H1, I1, r1, ev, eH⟩ => ?_)
  subst ev eH
  cases r1
  exact PySem.W.callWith_S2 (h₀ := X.base) I.ok.mod.kin M.kp (thn (ha.run pos pins s1 σ _ _ I1 ht) fun us s2 ⟨vs, H2, I2, r, q⟩ => ⟨I2.kIn, StX.run_makeR M F (hr.mono hle) hx I2 r q⟩) he hst
/-- C.m is a staticmethod: its record at p, its def at g -/
structure SMet (K : PySem.W.Frag) (C : Addr) (mc : Value) (m : Str) (p g : Addr) : Prop where
  rd : PySem.W.readsIn K C mc = true
  ga : PySem.W.specialIn K (.ref C) "__getattribute__" = some (some (.builtin "type.__getattribute__"))
  at_ : PySem.W.findCls K (.ref C) mc m = some (.get (.builtin "staticmethod.__get__") (.ref p) .none (.ref C))
  rc : ∃ l, PySem.W.recIn K p "staticmethod" = some (.ref g :: l)
  kp : PySem.W.keepIn K (.ref g) = true
/-- the function that is kept as C.m keeps sp -/
structure StaR (P : Program) (w : World) (K : PySem.W.Frag) (mg : Str → Option Value) (base : Heap) (C : Addr) (m : Str) (k : Nat) (sp : Sp) : Prop where
  ex : ∃ mc p g, SMet K C mc m p g ∧ FnR P w K mg base (L2.CX P w) k g sp
def tSta (C : Addr) (sp : Sp) (E : XK) (ta : TE) (t : TA) : TE := fun σ H Q => ta σ H fun y H1 => y = .ref C ∧ t σ H1 fun vs H2 => sp vs H2 Q E
theorem pe_sta {pl : Sem Bool} (D : StaR X.prog X.w X.K X.mg X.base C m k sp) (ho : PE X o ta) (hr : Room j X.A) (hx : Passes (L2.CX X.prog X.w) X E) (ha : PA X (e :: es) t) (hle : k ≤ j := by decide)
    (hst : starEach (e :: es) X.env = (false, eval e X.env) :: starEach es X.env := by rfl) (hpl : (backTo pos (starEach es X.env)).any (·.1) = false := by rfl)
    (ht : eval (.Call (.Attribute o m apos) (e :: es) [] pos) X.env = (do
      let ov ← eval o X.env
      standAt apos.atName
      let (f, first) ← holding [ov] (getMethod ov m pl)
      callWith pos f first (backTo pos (starEach (e :: es) X.env)) (backToKw pos (keywordEach [] X.env))) := by rfl) : PE X (.Call (.Attribute o m apos) (e :: es) [] pos) (tSta C sp E ta t) := by
  obtain ⟨mc, p, g, S, F⟩ := D.ex
  obtain ⟨l, hl⟩ := S.rc
  refine ⟨fun pins s σ H Q I h => PySem.W.methodCall_KW (pl := pl) (thn (ho.run pins s σ H _ I h) fun u s1 ⟨y, H1, I1, ry, ey, q⟩ => ?_) ht⟩
  subst ey
  obtain rfl : u = Value.ref C := ry
  refine PySem.W.method_cls I1.kIn S.ga (PySem.W.cls_bind I1.kIn S.rd S.at_ (wpAny_call (PySem.W.sm_get (s := { s1 with toks := s1.toks + 1 }) I1.kIn hl (PySem.W.handed_on rfl ?_))))
  have I2 := I1.tok (s1.toks + 1)
  exact PySem.W.callWith_K (h₀ := X.base) I.ok.mod.kin S.kp (thn (ha.run pos pins _ σ H1 _ I2 q) fun us s2 ⟨vs, H2, I3, r, q2⟩ => ⟨I3.kIn, wpAny_call (run_fnR F (hr.mono hle) hx I3 r q2)⟩) hst hpl
end
/-- what leaves a def's body is what the def lets out -/
theorem psE {P : Program} {w : World} {K : PySem.W.Frag} {mg : Str → Option Value} {base : Heap} {N : List Str} {qual : Str} {sc : Scope} {f : Addr} {cd : Value} {A : Around} {outer : List Env} {s : Shared} {H : Hp} {E : XK} :
    Passes (L2.CX P w) (cxOf (L2.CX P w) P w K mg base N qual sc f cd A outer s H E) E := passes_call (takes_of rfl rfl rfl rfl) fun _ _ _ _ z => z
theorem psS {P : Program} {w : World} {K : PySem.W.Frag} {mg : Str → Option Value} {base : Heap} {N : List Str} {qual : Str} {sc : Scope} {f cc : Addr} {cd : Value} {A : Around} {outer : List Env} {s : Shared} {H : Hp} {E : XK} :
    Passes (L2.CX P w) (cxS (L2.CX P w) P w K mg base N qual sc f cd cc A outer s H E) E := passes_call (takes_of rfl rfl rfl rfl) fun _ _ _ _ z => z
end WC

set_option maxHeartbeats 4000000
namespace WC
open PySem PySem.Spec PyProof.Rows L2
/-! own exceptions with fields -/
/-- what __init__ keeps: the fields fl of its arguments -/
def spX (C : Addr) (n : Nat) (fl : List V → List (Str × V)) : Sp := fun vs H Q _ => ∃ (a : Addr) (ws : List V), vs = .ref a :: ws ∧ ws.length = n ∧ H a = some (exo a C none) ∧
  ∀ d, H d = none → d ≠ a → Q .non (upd (upd H d (exd d (fl ws))) a (exo a C (some d)))
structure ExcR (P : Program) (w : World) (K : PySem.W.Frag) (mg : Str → Option Value) (base : Heap) (x : Str) (C : Addr) (k n : Nat) (fl : List V → List (Str × V)) : Prop where
  txt : OexC K C
  gC : mg x = some (.ref C)
  ini : ∃ f fd ps, PySem.W.findIn K (.ref C) "__init__" = some (some (.ref f)) ∧ PySem.W.typeIn K (.ref f) = some (.type "function") ∧ Binds K fd ps [] ∧ FnOk P w K mg base (L2.CX P w) k f fd ps (spX C n fl)
section
variable {X : Cx} {x : Str} {C : Addr} {k j n : Nat} {fl : List V → List (Str × V)} {e : Expr} {es : List Expr} {ta : TA} {p pos : Pos}
theorem pmk_x (T : ExcR X.prog X.w X.K X.mg X.base x C k n fl) (hr : Room j X.A) (ha : PA X (e :: es) ta) (hle : k + 1 ≤ j := by decide) (hg : Gl X x := by rfl) (hdb : (x == ("__debug__" : Str)) = false := by decide)
    (he : starEach (e :: es) X.env = (false, eval e X.env) :: starEach es X.env := by rfl) (hpl : (backTo pos (starEach es X.env)).any (·.1) = false := by rfl) : PMk X (.Call (.Name x p) (e :: es) [] pos) (tMkO C (spX C n fl) [] ta) := by
  obtain ⟨f, fd, ps, i1, i2, i3, F⟩ := T.ini
  exact pmk_oex (dvs := []) (ds := []) T.txt i1 i2 F (hr.mono hle) i3 .nil passL hg T.gC ha hdb he hpl
end
theorem heap_x {H : Hp} {a d : Addr} {u v w : HO} (ha : H a = none) (hd : d ≠ a) : upd (del (upd (upd (upd H a u) d v) a w) a) d v = upd H d v := by
  funext b
  by_cases e : b = d
  · rw [e, upd_same, upd_same]
  · rw [upd_ne e, upd_ne e]
    by_cases e2 : b = a
    · rw [e2, del_same, ha]
    · rw [del_ne e2, upd_ne e2, upd_ne e, upd_ne e2]
/-- the making: its arguments are as many as the fields want; d is the error's own dict, new -/
theorem x_use {H1 : Hp} {C : Addr} {n : Nat} {fl : List V → List (Str × V)} {vs : List V} {Q : XK} (hl : vs.length = n) (hn : n ≤ 1000) (h : ∀ d, H1 d = none → Q (.ref C) (some d) (upd H1 d (.xd (fl vs)))) :
    vs.length ≤ 1000 ∧ ∀ a, H1 a = none → spX C n fl (.ref a :: (vs ++ [])) (upd H1 a (exo a C none)) (fun v H2 => v = .non ∧ ∃ (d : Addr) (fs : List (Str × V)), H2 a = some (exo a C (some d)) ∧ H2 d = some (exd d fs) ∧ H1 d = none ∧ Q (.ref C) (some d) (upd (del H2 a) d (.xd fs))) (fun _ _ _ => False) := by
  refine ⟨by omega, fun a ha => ⟨a, vs, by rw [List.append_nil], hl, upd_same, fun d hd hne => ⟨rfl, d, fl vs, upd_same, by rw [upd_ne hne, upd_same], ?_, ?_⟩⟩⟩
  · rw [upd_ne hne] at hd
    exact hd
  · rw [upd_ne hne] at hd
    have q : upd (del (upd (upd (upd H1 a (exo a C none)) d (exd d (fl vs))) a (exo a C (some d))) a) d (.xd (fl vs)) = upd H1 d (.xd (fl vs)) := by
      funext b
      by_cases e : b = d
      · rw [e, upd_same, upd_same]
      · rw [upd_ne e, upd_ne e]
        by_cases e2 : b = a
        · rw [e2, del_same, ha]
        · rw [del_ne e2, upd_ne e2, upd_ne e, upd_ne e2]
    rw [q]
    exact h d hd
end WC

set_option maxHeartbeats 4000000
namespace WC
open PySem PySem.Spec PyProof.Rows L2
/-! enumerate(t), t a tuple -/
set_option maxHeartbeats 1000000 in
theorem new_enum {v : Value} {o : Obj} {Hh : Heap → Prop} (B : Begins v o Hh) :
    Meets (Builtin.«enumerate.__new__» ⟨[.type "enumerate", v], []⟩) (fun _ R s => Hh s.heap ∧
      R (.ok (.ret (.ref (s.heap.push o).objs.size))) { s with heap := (s.heap.push o).push { cls := .type "enumerate", data := .fields #[.none, .bool false, .ref s.heap.objs.size, rawInt 0, .none, .none] } }) :=
  .of_wp fun prog w A R s h => by
    obtain ⟨hp, g, d, tk, os⟩ := s
    obtain ⟨h1, h⟩ := h
    have hsub := sub_enumerate
    have q1 : ∀ {A2 : Around} {E : Value → Shared → Prop} {Q : Value → Shared → Prop}, Q (.ref hp.objs.size) ⟨hp.push o, g, d, tk, os⟩ → wpAny (model prog w) A2 (pyIter v) Q E ⟨hp, g, d, tk, os⟩ := fun q => B.iter prog w _ _ ⟨hp, g, d, tk, os⟩ _ h1 q
    wp_walk using q1
    refine wpAny_stack_any fun st => wpAny_pure ?_
    split
    · rename_i c _ _ _ _ _
      cases (c == Value.type "enumerate") <;> (wp_walk using q1; exact ⟨_, rfl, h⟩)
    · wp_walk using q1
      exact ⟨_, rfl, h⟩
section
variable {prog : Program} {w : World} {A : Around} {E : Value → Shared → Prop} {s : Shared}
theorem enum1_begins {v : Value} {o : Obj} {Hh : Heap → Prop} {Q : Value → Shared → Prop} (B : Begins v o Hh) (h1 : Hh s.heap)
    (h : ∀ h2, IsEnum h2 (s.heap.objs.size + 1) s.heap.objs.size 0 .none → h2.get? s.heap.objs.size = some o → (∀ b u, s.heap.get? b = some u → h2.get? b = some u) → Q (.ref (s.heap.objs.size + 1)) { s with heap := h2 }) :
    wpAny (model prog w) A (call (.type "enumerate") [v]) Q E s := by
  refine callType_new F.called_enumerate (by decide) (F.typeCall_enumerate_1 _) (F.newCall_enumerate_1 _) (fun obj => F.args_object_init_2 obj _) F.entry_enumerate_new (new_enum B) ⟨h1, ?_⟩
  have hz : (s.heap.push o).objs.size = s.heap.objs.size + 1 := Heap.size_push ..
  show _ ∧ _
  rw [hz]
  have he : IsEnum ((s.heap.push o).push { cls := .type "enumerate", data := .fields #[.none, .bool false, .ref s.heap.objs.size, rawInt 0, .none, .none] }) (s.heap.objs.size + 1) s.heap.objs.size 0 .none := by
    have z := Heap.get?_push_size (s.heap.push o) (o := { cls := .type "enumerate", data := .fields #[.none, .bool false, .ref s.heap.objs.size, rawInt 0, .none, .none] }) rfl
    rw [hz] at z
    exact z
  exact ⟨⟨_, he, rfl⟩, h _ he (Heap.get?_push_of_some _ (Heap.get?_push_size _ B.free)) fun b u x => Heap.get?_push_of_some _ (Heap.get?_push_of_some _ x)⟩
end
def ItT (K : PySem.W.Frag) (a : Addr) : It :=
  { go := fun i H => ∃ (xs : List V) (x : V), SqT K H a xs ∧ xs[i]? = some x
    yld := fun i H v H2 => ∃ T x, v = .ref T ∧ H T = none ∧ H2 = upd H T (.tup [.int (i : Nat), x]) ∧ ∀ xs, SqT K H a xs → xs[i]? = some x
    stop := fun i H => ∃ xs : List V, SqT K H a xs ∧ xs.length ≤ i }
theorem turn_et {P : Program} {w : World} {K : PySem.W.Frag} {elts : List Expr} {kk : Nat} {tpos : Pos} (a e it : Addr) :
    Turn P w K (.Tuple elts kk tpos) (ItT K a) [e, it] e (fun i h => (∃ old, IsEnum h e it ((i : Nat) : Int) old) ∧ h.IsTupleIter it a i ∧ e ≠ it) where
  mem := by simp
  obj := fun i h st b hb => by
    obtain ⟨⟨old, he⟩, ⟨o, ho, hc, hd⟩, _⟩ := st
    have q : b = e ∨ b = it := by simpa using hb
    rcases q with z | z
    · refine ⟨_, z ▸ he, fun v q => ?_⟩
      have q : Data.fields _ = Data.cell v := q
      cases q
    · exact ⟨o, z ▸ ho, fun v q => by rw [hd] at q; cases q⟩
  keep := fun i h h2 st k => by
    obtain ⟨⟨old, he⟩, st2, st3⟩ := st
    exact ⟨⟨old, k e (by simp) _ he⟩, st2.at fun o q => k it (by simp) o q, st3⟩
  item := by
    intro X hP hw hK hc i pins s σ H E I hf st hg
    subst hP hw hK
    obtain ⟨⟨old, he⟩, hit, hne⟩ := st
    obtain ⟨xs, x, hq, hx⟩ := hg
    obtain ⟨its, rv, pt, hz⟩ := I.tuple hq
    have pt : s.heap.IsTuple a its.toArray := pt
    have hel : e < s.heap.objs.size := Heap.lt_size he
    have hil : it < s.heap.objs.size := by obtain ⟨_, q, _⟩ := hit; exact Heap.lt_size q
    have nai : a ≠ it := fun z => by
      obtain ⟨o1, q1, c1, _⟩ := pt
      obtain ⟨o2, q2, c2, _⟩ := hit
      rw [z, q2] at q1
      cases q1
      rw [c1] at c2
      injection c2 with c2
      exact absurd c2 (by decide)
    have nae : e ≠ a := fun z => by
      obtain ⟨o1, q1, c1, _⟩ := pt
      have he : s.heap.get? e = some _ := he
      rw [← z, he] at q1
      cases q1
      injection c1 with c1
      exact absurd c1 (by decide)
    have hlt : i < its.toArray.size := by
      have := (List.getElem?_eq_some_iff.mp hx).1
      rw [rv.length] at this
      simpa using this
    refine wpAny_pyNext_enum_itemD (Draws.tuple (A := X.A.in1) (I.ok.hd hc) it a nai its.toArray) he ⟨hit, pt⟩ hlt hne (by simp [nae, hne]) fun u h2 tk hu ho hst hT hsz hk => ?_
    have hu2 : its[i]? = some u := by simpa using hu
    obtain ⟨u2, hu3, ru⟩ := rv.get hx
    rw [hu2] at hu3
    cases hu3
    refine ⟨_, rfl, wpAny_letOwnedTupleGo_enum (s := { s with heap := h2, toks := tk + 1 }) ho fun h3 he3 sb => ?_⟩
    have hT2 : h3.get? s.heap.objs.size = some { cls := .type "tuple", data := .seq #[.int i tk, u] } := (sb.2 _ (Nat.ne_of_gt hel)).trans hT
    have new : ObjOk X.prog X.w (upd H s.heap.objs.size (.tup [.int (i : Nat), x])) h3 s.heap.objs.size (.tup [.int (i : Nat), x]) := ⟨by show 2 ≤ sizeLine; decide, [.int i tk, u], .cons ⟨_, rfl⟩ (.cons ru .nil), ⟨_, hT2, rfl, _, rfl⟩⟩
    have I1 : Inv X pins σ (upd H s.heap.objs.size (.tup [.int (i : Nat), x])) { s with heap := h3, toks := tk + 1 } :=
      I.turnedNew (ch := [e, it]) (fun b ob hb q => (sb.2 b (fun z => hb (by simp [z]))).trans (hk b ob (fun z => hb (by simp [z])) (fun z => hb (by simp [z])) q)) hf (Nat.le_refl _) new
    refine ⟨.ref s.heap.objs.size, _, I1, rfl, ⟨_, x, rfl, I.hok.fresh (Nat.le_refl _), rfl, fun ys hy => by rw [I.tuple_inj hy hq]; exact hx⟩, ⟨⟨u, ?_⟩, hst.1.at fun o q => (sb.2 it (Ne.symm hne)).trans q, hne⟩, fun b hb => ?_⟩
    · have e1 : ((i + 1 : Nat) : Int) = (i : Int) + 1 := by omega
      rw [e1]
      exact he3
    · have q : b = e ∨ b = it := by simpa using hb
      have hb2 : b < s.heap.objs.size := by rcases q with z | z <;> rw [z] <;> assumption
      rw [upd_ne (Nat.ne_of_lt hb2)]
      exact (hf b hb).1
  done := by
    intro X hP hw hK hc i pins s σ H E I hf st hg
    subst hP hw hK
    obtain ⟨⟨old, he⟩, hit, hne⟩ := st
    obtain ⟨xs, hq, hx⟩ := hg
    obtain ⟨its, rv, pt, hz⟩ := I.tuple hq
    have pt : s.heap.IsTuple a its.toArray := pt
    obtain ⟨f0, f1, f2, f3, f4, f5⟩ := hf it (by simp)
    have nai : a ≠ it := fun z => by
      obtain ⟨o1, q1, c1, _⟩ := pt
      obtain ⟨o2, q2, c2, _⟩ := hit
      rw [z, q2] at q1
      cases q1
      rw [c1] at c2
      injection c2 with c2
      exact absurd c2 (by decide)
    have hl := rv.length
    have D := Draws.tuple (prog := X.prog) (w := X.w) (A := X.A.in1) (I.ok.hd hc) it a nai its.toArray
    have hn : its.toArray.size ≤ i := by simp; omega
    unfold pyNext
    refine wpAny_bind (wpAny_attempt (wpAny_callSpecial?_slot (name := Str.ofString "__next__") ⟨_, he, rfl⟩ F.slot_enumerate_next (wpAny_call_entry F.slot_enumerate_next ⟨_, he, rfl⟩ F.entry_enumerate_next ?_ (F.args_enumerate_next_1 _))))
    show wpAny _ _ (field (.ref e) 2 >>= _) _ _ _
    refine wpAny_bind (wpAny_field he rfl (x := .ref it) rfl ?_)
    refine wpAny_bind (wpAny_nextOf_tuple_end (show X.A.in1.handled = none from I.ok.hd hc) hit pt (by simp; omega) fun h2 x q1 q2 => ?_)
    obtain ⟨o, ho, hcl⟩ := q2
    refine wpAny_bind (wpAny_isInstance (T := "StopIteration") (b := true) ⟨o, ho, hcl⟩ isSubtype_stop ?_)
    exact wpAny_pure ⟨rfl, I.turned (t' := s.toks) (fun b o hb q => q1 b o hb q) f0 f1 f3 f4 f5⟩
  self := fun A i s Q E st h => let ⟨⟨_, he⟩, _⟩ := st; wpAny_pyIter_enum he h
def iET (K : PySem.W.Frag) (ta : TA) : TI := fun σ H R => ta σ H fun vs H1 => ∃ a xs, vs = [.ref a] ∧ SqT K H1 a xs ∧ R (ItT K a) H1
theorem pi_et {X : Cx} {e : Expr} {ta : TA} {p pos tpos : Pos} {elts : List Expr} {kk : Nat} (hm : X.mg "enumerate" = none) (ha : PA X [e] ta) (hg : Gl X "enumerate" := by rfl) (hs : starEach [e] X.env = [(false, eval e X.env)] := by rfl) :
    PI X (.Tuple elts kk tpos) (.Call (.Name "enumerate" p) [e] [] pos) (iET X.K ta) := by
  refine ⟨fun pins s σ H R I h => Call_ (ld_blt I hg hm boot_enumerate (PyProof.Rows.callWith_type1 (thn (ha.run pos pins s σ H _ I h) fun us s1 ⟨vs, H1, I1, r1, a, xs, ex, hq, q⟩ => ?_) hs rfl))⟩
  subst ex
  cases r1 with
  | cons r rr =>
    cases rr
    cases r
    obtain ⟨its, rv, pt, hz⟩ := I1.tuple hq
    have pt : s1.heap.IsTuple a its.toArray := pt
    refine enum1_begins (begins_tuple a its.toArray) pt fun h2 he hit hk => wpAny_pyIter_enum he ?_
    have I2 : Inv X pins σ H1 { s1 with heap := h2 } := I1.kept (t' := s1.toks) hk
    refine ⟨s1.heap.objs.size + 1, [s1.heap.objs.size + 1, s1.heap.objs.size], _, _, H1, rfl, I2, turn_et a (s1.heap.objs.size + 1) s1.heap.objs.size, ⟨⟨.none, he⟩, ⟨_, hit, rfl, rfl⟩, Nat.succ_ne_self _⟩, fun b hb => ?_, q⟩
    have q : b = s1.heap.objs.size + 1 ∨ b = s1.heap.objs.size := by simpa using hb
    have hle : s1.heap.objs.size ≤ b := by rcases q with z | z <;> rw [z] <;> first | exact Nat.le_add_right _ _ | exact Nat.le_refl _
    exact I1.fpOk hle (I1.hok.fresh hle)
theorem walk_et {K : PySem.W.Frag} {a : Addr} {xs : List V} : Walk (ItT K a) xs.length (fun H => SqT K H a xs) (YPair (fun i => some (.int (i : Nat))) (fun i => xs[i]?)) := by
  refine ⟨fun i _ hi q => ⟨xs, xs[i], q, by simp [hi]⟩, fun _ q => ⟨xs, q, Nat.le_refl _⟩, fun i H v H2 _ q y => ?_⟩
  obtain ⟨T, x, h1, h2, h3, h4⟩ := y
  exact ⟨T, .int (i : Nat), x, h1, h2, h3, rfl, h4 xs q⟩
end WC

set_option maxHeartbeats 4000000
namespace WC
open PySem PySem.Spec PyProof.Rows L2
/-! data -/
theorem pr_at {α β : Type} {F : α → β → Prop} : ∀ {l : List α} {r : List β}, Paired F l r → ∀ {i : Nat} {b : β}, r[i]? = some b → ∃ a, l[i]? = some a ∧ F a b
  | _, _, .nil, i, b, h => by simp at h
  | _, _, .cons p q, 0, b, h => by
    have e := Option.some.inj h
    subst e
    exact ⟨_, rfl, p⟩
  | _, _, .cons p q, i + 1, b, h => pr_at (i := i) q (by simpa using h)
theorem pr_to {α β : Type} {F : α → β → Prop} : ∀ {l : List α} {r : List β}, Paired F l r → ∀ {i : Nat} {a : α}, l[i]? = some a → ∃ b, r[i]? = some b ∧ F a b
  | _, _, .nil, i, b, h => by simp at h
  | _, _, .cons p q, 0, b, h => by
    have e := Option.some.inj h
    subst e
    exact ⟨_, rfl, p⟩
  | _, _, .cons p q, i + 1, b, h => pr_to (i := i) q (by simpa using h)
theorem pr_snoc {α β : Type} {F : α → β → Prop} : ∀ {l : List α} {r : List β} {a : α} {b : β}, Paired F l r → F a b → Paired F (l ++ [a]) (r ++ [b])
  | _, _, _, _, .nil, h => .cons h .nil
  | _, _, _, _, .cons p q, h => .cons p (pr_snoc q h)
theorem take_snoc {α : Type} : ∀ {l : List α} {i : Nat} {x : α}, l[i]? = some x → l.take (i + 1) = l.take i ++ [x]
  | [], _, _, h => by simp at h
  | a :: l, 0, x, h => by
    have e := Option.some.inj h
    subst e
    rfl
  | a :: l, i + 1, x, h => by
    have q := take_snoc (l := l) (i := i) (x := x) (by simpa using h)
    show a :: l.take (i + 1) = a :: l.take i ++ [x]
    rw [q]
    rfl
/-- a channel, a tuple of three ints -/
abbrev Tri := Int × Int × Int
def TriA (H : Hp) (c : Tri) (v : V) : Prop := ∃ t, v = .ref t ∧ H t = some (.tup [.int c.1, .int c.2.1, .int c.2.2])
theorem TriA.same {H H2 : Hp} {c : Tri} {v : V} (s : Same H H2) (h : TriA H c v) : TriA H2 c v := let ⟨t, e, q⟩ := h; ⟨t, e, s _ _ q⟩
theorem tris_same {H H2 : Hp} {cs : List Tri} {vs : List V} (s : Same H H2) (h : Paired (TriA H) cs vs) : Paired (TriA H2) cs vs := Paired.mapP h fun _ _ z => z.same s
/-- the places where es has j, below m -/
def occ (es : List Int) (j : Int) (m : Nat) : List Int := ((List.range m).filter fun k => decide (es[k]? = some j)).map fun (k : Nat) => (k : Int)
theorem occ_zero (es : List Int) (j : Int) : occ es j 0 = [] := rfl
theorem occ_hit {es : List Int} {j : Int} {m : Nat} (h : es[m]? = some j) : occ es j (m + 1) = occ es j m ++ [(m : Int)] := by
  unfold occ
  rw [List.range_succ, List.filter_append, List.map_append]
  congr 1
  simp [h]
theorem occ_miss {es : List Int} {j e : Int} {m : Nat} (h : es[m]? = some e) (ne : e ≠ j) : occ es j (m + 1) = occ es j m := by
  unfold occ
  rw [List.range_succ, List.filter_append, List.map_append]
  simp [h, ne]
theorem occ_len (es : List Int) (j : Int) (m : Nat) : (occ es j m).length ≤ m := by
  unfold occ
  rw [List.length_map]
  exact Nat.le_trans (List.length_filter_le _ _) (by simp)
/-- at r: a tuple of n tuples, the j-th one the places of j in es -/
def RowsA (H : Hp) (r : Addr) (n : Nat) (es : List Int) : Prop := ∃ ts : List V, H r = some (.tup ts) ∧ ts.length = n ∧ ∀ (j : Nat) v, ts[j]? = some v → ∃ t, v = .ref t ∧ H t = some (.tup ((occ es (j : Int) es.length).map V.int))
theorem RowsA.same {H H2 : Hp} {r : Addr} {n : Nat} {es : List Int} (s : Same H H2) (h : RowsA H r n es) : RowsA H2 r n es := by
  obtain ⟨ts, h1, h2, h3⟩ := h
  exact ⟨ts, s _ _ h1, h2, fun j v e => let ⟨t, e1, e2⟩ := h3 j v e; ⟨t, e1, s _ _ e2⟩⟩
theorem _root_.L2.Same.new {H : Hp} {p : Addr} {o : HO} (h : H p = none) : Same H (upd H p o) := fun a u e => by
  rw [upd_ne (ne_of_none e h)]
  exact e
theorem _root_.L2.Same.newer {H H1 : Hp} {p : Addr} {o : HO} (s : Same H H1) (h : H p = none) : Same H (upd H1 p o) := fun a u e => by
  rw [upd_ne (ne_of_none e h)]
  exact s _ _ e
theorem line_of {n : Nat} (h : n ≤ 100000) : n ≤ sizeLine := Nat.le_trans h (by decide)
theorem line_lt {n : Nat} (h : n < 100000) : n < sizeLine := Nat.lt_of_lt_of_le h (by decide)
end WC
namespace WC
open PySem PySem.Spec PyProof.Rows L2
theorem bt_tuple : bootBuiltins "tuple" = some (.type "tuple") := by decide +kernel
theorem bt_list : bootBuiltins "list" = some (.type "list") := by decide +kernel
theorem bt_int : bootBuiltins "int" = some (.type "int") := by decide +kernel
theorem bt_str : bootBuiltins "str" = some (.type "str") := by decide +kernel
theorem bt_isi : bootBuiltins "isinstance" = some (.builtin "isinstance") := by decide +kernel
theorem bt_len : bootBuiltins "len" = some (.builtin "len") := by decide +kernel
theorem bt_sorted : bootBuiltins "sorted" = some (.builtin "sorted") := by decide +kernel
theorem bt_sum : bootBuiltins "sum" = some (.builtin "sum") := by decide +kernel
theorem bt_all : bootBuiltins "all" = some (.builtin "all") := by decide +kernel
theorem bt_max : bootBuiltins "max" = some (.builtin "max") := by decide +kernel
theorem bt_min : bootBuiltins "min" = some (.builtin "min") := by decide +kernel
/-- readings that name the written part (within a comprehension's block) -/
def rTupOf (K : PySem.W.Frag) : List V → Hp → VK → Prop := fun xs H Q => ∃ p ys, xs = [.ref p] ∧ ((SqL K H p ys ∧ ∀ l, H l = none → Q (.ref l) (upd H l (.tup ys))) ∨ (SqT K H p ys ∧ Q (.ref p) H))
theorem c_tup {X : Cx} {K : PySem.W.Frag} (h : X.K = K := by rfl) : CallR X (.type "tuple") (rTupOf K) := by
  subst h
  exact call_tuple_of
theorem i_tup {X : Cx} {K : PySem.W.Frag} (h : X.K = K := by rfl) : IxR X (rIxT K) := by
  subst h
  exact ix_tup
theorem i_lst {X : Cx} {K : PySem.W.Frag} (h : X.K = K := by rfl) : IxR X (rIxL K) := by
  subst h
  exact ix_list
end WC
namespace WC
open PySem PySem.Spec PyProof.Rows L2
theorem yes {σ : L2.St} {H : Hp} {A B : Bool → Hp → Prop} (h : A true H) : tYes σ H (fun b H3 => if b = true then A b H3 else B b H3) := by
  show (if true = true then A true H else B true H)
  rw [if_pos rfl]
  exact h
end WC
namespace WC
open PySem PySem.Spec PyProof.Rows L2
/-- [c[j] for c in t], t a tuple of channels -/
theorem comp_sel {K : PySem.W.Frag} {wi : TI} {H : Hp} {σ : L2.St} {tc : Addr} {cs : List Tri} {vs : List V} {s : Nat} {j : Int} {Q : VK} (g : Tri → Int) (hg : ∀ c : Tri, atI [V.int c.1, V.int c.2.1, V.int c.2.2] j = some (V.int (g c))) (hw : ∀ R : It → Hp → Prop, R (Itt K tc) H → wi σ H R)
    (h1 : H tc = some (.tup vs)) (hp : Paired (TriA H) cs vs) (hlen : cs.length ≤ 1000) (hs1 : ∀ v, wipe ((wipe σ [s]).set s (some v)) [s] = wipe σ [s]) (hs2 : ∀ v, ((wipe σ [s]).set s (some v))[s]? = some (some v))
    (k : ∀ D H2, Same H H2 → H D = none → H2 D = some (.lst ((cs.map g).map V.int)) → Q (.ref D) H2) : tLc wi (gName s) tYes (tOp (rIxT K) (tVar s) (tC (.int j))) [s] σ H Q := by
  refine hw _ fun D hD => lc_tup (K := K) (a := tc) (xs := vs) (fun i H2 => Same H H2 ∧ H2 D = some (.lst (((cs.take i).map g).map V.int))) ⟨Same.new hD, by rw [upd_same]; rfl⟩ (fun i H2 _ q => SqT.of (q.1 _ _ h1)) ?_ ?_
  · rintro i x H2 hx ⟨s2, hd⟩
    obtain ⟨c, hc, t, rfl, ht⟩ := pr_at hp hx
    have hi : i < cs.length := (List.getElem?_eq_some_iff.mp hc).1
    refine ⟨hs1 _, yes ⟨_, hs2 _, t, _, _, _, rfl, rfl, SqT.of (s2 _ _ ht), hg c, _, hd, ?_, Same.newer s2 hD, ?_⟩⟩
    · rw [List.length_map, List.length_map, List.length_take]
      exact line_lt (by omega)
    · rw [upd_same, take_snoc hc, List.map_append, List.map_append]
      rfl
  · rintro H2 ⟨s2, hd⟩
    rw [← hp.length, List.take_length] at hd
    exact k D H2 s2 hD hd
end WC

set_option maxHeartbeats 4000000
namespace WC
open PySem PySem.Spec PyProof.Rows L2
/-- {k: v for .. in a list that stays} -/
theorem dc_lst {K : PySem.W.Frag} {a : Addr} {xs : List V} {g : TG} {tt : TT} {tk tv : TE} {vs : List Nat} {σ : L2.St} {H1 : Hp} {D : Addr} {Qd : Hp → Prop} (Pv : Nat → Hp → Prop) (h0 : Pv 0 (upd H1 D (.dK []))) (hl : ∀ i H, i ≤ xs.length → Pv i H → SqL K H a xs)
    (hs : ∀ i x H, xs[i]? = some x → Pv i H → g x (wipe σ vs) H fun s2 H2 => wipe s2 vs = wipe σ vs ∧ tt s2 H2 fun b H3 =>
      if b = true then tk s2 H3 fun y H4 => tv s2 H4 fun z H5 => ∃ kvs k, y = kV k ∧ H5 D = some (.dK kvs) ∧ kvs.length < sizeLine ∧ Pv (i + 1) (upd H5 D (.dK (putK kvs k z))) else Pv (i + 1) H3) (hd : ∀ H, Pv xs.length H → Qd H) :
    ∃ W : Nat → Nat → Hp → Prop, (∃ m, W 0 m (upd H1 D (.dK []))) ∧ ∀ i m H, W i m H →
      ((Itl K a).stop i H ∧ Qd H) ∨ ((Itl K a).go i H ∧ ∃ Nx : Hp → Prop, (∀ H2, Nx H2 → ∃ m2, m2 < m ∧ W (i + 1) m2 H2) ∧ ∀ x H2, (Itl K a).yld i H x H2 → g x (wipe σ vs) H2 fun s2 H3 => wipe s2 vs = wipe σ vs ∧ tt s2 H3 fun b H4 =>
        if b = true then tk s2 H4 fun y H5 => tv s2 H5 fun z H6 => ∃ kvs k, y = kV k ∧ H6 D = some (.dK kvs) ∧ kvs.length < sizeLine ∧ Nx (upd H6 D (.dK (putK kvs k z))) else Nx H4) := by
  have w : Walk (Itl K a) xs.length (fun H => SqL K H a xs) (YAt xs) := walk_list
  refine ⟨fun i m H => m = xs.length - i ∧ i ≤ xs.length ∧ Pv i H, ⟨_, rfl, Nat.zero_le _, h0⟩, fun i m H ⟨em, hi, p⟩ => ?_⟩
  have q := hl i H hi p
  rcases Nat.lt_or_ge i xs.length with hlt | hge
  · refine .inr ⟨w.goes i H hlt q, Pv (i + 1), fun H2 p2 => ⟨xs.length - (i + 1), by omega, rfl, hlt, p2⟩, fun x H2 y => ?_⟩
    obtain ⟨e, y2⟩ := w.yields i H x H2 hlt q y
    subst e
    exact hs i x _ y2 p
  · have e : i = xs.length := by omega
    subst e
    exact .inl ⟨w.stops H q, hd H p⟩
/-- (a, b, ..) as a target within a comprehension's block -/
theorem pg_tupK {X : Cx} {K : PySem.W.Frag} {es : List Expr} {k n : Nat} {pos : Pos} {t : TGs} (hc : X.calm = true) (h : PGs X es t) (hK : X.K = K := by rfl) (hn : (assignEach es X.env).length = n := by rfl) (hst : (assignEach es X.env).findIdx? (·.1) = none := by rfl) :
    PG X (.Tuple es k pos) (gTup K n t) := by
  subst hK
  exact pg_tup hc h hn hst
theorem pk_len {κ : Type} [DecidableEq κ] (c : List (κ × V)) (k : κ) (x : V) : (putK c k x).length ≤ c.length + 1 := by
  unfold putK
  split
  · rw [List.length_map]
    omega
  · rw [List.length_append]
    exact Nat.le_refl _
/-- no circle: the stages can be ranked -/
def Acyc (cs : List Tri) : Prop := ∃ r : Int → Nat, ∀ c ∈ cs, r c.1 < r c.2.1
theorem least_of {α : Type} (f : α → Nat) : ∀ {l : List α}, l ≠ [] → ∃ a ∈ l, ∀ b ∈ l, f a ≤ f b
  | [a], _ => ⟨a, by simp, fun b hb => by simp at hb; rw [hb]; exact Nat.le_refl _⟩
  | a :: b :: l, _ => by
    obtain ⟨c, hc, h⟩ := least_of f (l := b :: l) (by simp)
    by_cases q : f a ≤ f c
    · refine ⟨a, by simp, fun d hd => ?_⟩
      rcases List.mem_cons.mp hd with e | hd
      · rw [e]; exact Nat.le_refl _
      · exact Nat.le_trans q (h d hd)
    · refine ⟨c, List.mem_cons_of_mem _ hc, fun d hd => ?_⟩
      rcases List.mem_cons.mp hd with e | hd
      · rw [e]; omega
      · exact h d hd
theorem Acyc.first {cs : List Tri} (h : Acyc cs) (ne : cs ≠ []) : ∃ c ∈ cs, ∀ d ∈ cs, d.2.1 ≠ c.1 := by
  obtain ⟨r, hr⟩ := h
  obtain ⟨c, hc, hm⟩ := least_of (fun c : Tri => r c.1) ne
  refine ⟨c, hc, fun d hd e => ?_⟩
  have h1 := hr d hd
  have h2 := hm d hd
  have h2 : r c.1 ≤ r d.1 := h2
  rw [e] at h1
  omega
theorem Acyc.sub {cs ds : List Tri} (h : Acyc cs) (s : ∀ c ∈ ds, c ∈ cs) : Acyc ds := let ⟨r, hr⟩ := h; ⟨r, fun c hc => hr c (s c hc)⟩
end WC

set_option maxHeartbeats 4000000
namespace WC
open PySem PySem.Spec PyProof.Rows L2
/-- a method that says super(), as the written part has it: its cell at cc holds the class at D -/
structure SFun (P : Program) (K : PySem.W.Frag) (x qual : Str) (st : Stmt) (f cc D : Addr) (kV : Value) : Prop where
  ex : ∃ (oc : Value) (od : Option Addr) (doc pm : Value) (an : Option Addr) (cda : Addr) (ct : Value) (osl : Array (Option Value)) (kc : Value) (dc : Option Addr) (lc : Array (Option Value)) (oc1 : Value) (oc2 : Option Addr) (vs : Array Value) (oc3 : Array (Option Value)) (file : Str) (tf : Tok),
    K.lookup f = some ⟨oc, od, .func (PySem.W.fnX x qual (defArgs st) (defBody st) (defScope st) [(cls_, cc)] .none kV doc pm an (.ref cda) ct), osl⟩ ∧ PySem.W.codeIn K (.ref cda) qual = true ∧ K.lookup cc = some ⟨kc, dc, .cell (some (.ref D)), lc⟩ ∧
    K.lookup cda = some ⟨oc1, oc2, .fields vs, oc3⟩ ∧ vs[2]? = some (.str file tf) ∧ ((P.main.file : Str) == file) = true
theorem look_cls {N ps : List Str} {sc : Scope} (S : CScope N ps sc) (n : Nat) (cc : Addr) : (cellsFrom n sc.names [] ++ [(cls_, cc)]).lookup cls_ = some cc := by
  rw [List.lookup_append]
  cases e : (cellsFrom n sc.names []).lookup cls_ with
  | some c =>
    have z := S.once _ (cf_mem _ _ _ _ (mem_of_lookup e)) rfl
    cases z
  | none => show List.lookup cls_ [(cls_, cc)] = some cc; simp [List.lookup]
section
variable {P : Program} {w : World} {K : PySem.W.Frag} {mg : Str → Option Value} {base : Heap} {k : Nat} {f cc D : Addr} {x qual : Str} {st : Stmt} {kV : Value} {N ps ks : List Str} {sp : Sp} {pv : Str} {kvV : List V} {kv : List Value}
/-- the rule for such a def with *pv and keywords ks that are left out -/
theorem SFun.star (F : SFun P K x qual st f cc D kV) (S : CScope N (ps ++ ks ++ [pv]) (defScope st)) (hkv : Vals kvV kv) (hks : kv.length = ks.length)
    (hb : ∀ (doc pm : Value) (an : Option Addr) (cdv ct : Value), BindStar K (PySem.W.fnX x qual (defArgs st) (defBody st) (defScope st) [(cls_, cc)] .none kV doc pm an cdv ct) ps ks kv pv)
    (hp : ∃ ar : Arg, ((defArgs st).posonlyargs ++ (defArgs st).args).head? = some ar ∧ ar.arg = ("self" : Str)) (h1 : (defScope st).names.lookup ("super" : Str) = some .globalImplicit) (h2 : (defScope st).names.lookup ("self" : Str) = some .local)
    (hbody : ∀ (cdv : Value) (A : Around) (outer : List Env) (s : Shared) (H : Hp) (vs : List V) (Q : VK) (E : XK), Room k (A.deeper (envS qual (defScope st) s.heap.objs.size f cdv cc)) → SelfTxt P K (envS qual (defScope st) s.heap.objs.size f cdv cc) D "self" → sp vs H Q E →
      ∃ t, PX (cxS (L2.CX P w) P w K mg base N qual (defScope st) f cdv cc A outer s H E) (.func (defBody st) (envS qual (defScope st) s.heap.objs.size f cdv cc)) (defBody st) t ∧ t { nx := fun _ H' => Q .non H', rt := Q } (L2.start N vs) H) :
    FnR P w K mg base (L2.CX P w) (k + 1) f (fun vs H Q E => ∃ ws rest, vs = ws ++ rest ∧ ws.length = ps.length ∧ rest.length ≤ sizeLine ∧ ∀ p, H p = none → sp (ws ++ kvV ++ [V.ref p]) (upd H p (.tup rest)) Q E) := by
  obtain ⟨oc, od, doc, pm, an, cda, ct, osl, kc, dc, lc, oc1, oc2, cvs, oc3, file, tf, lk, hcd, hcc, hca, hvs, hfile⟩ := F.ex
  obtain ⟨ar, har, hs⟩ := hp
  refine fn_starS lk hcd hcc S StX.cxUp (hb doc pm an (.ref cda) ct) hkv hks fun A outer s H vs Q E hr hsp => hbody (.ref cda) A outer s H vs Q E hr ?_ hsp
  exact ⟨h1, S.frc, h2, ⟨cc, kc, dc, lc, look_cls S _ _, hcc⟩, ⟨f, oc, od, _, osl, ar, rfl, lk, har, hs⟩, ⟨cda, oc1, oc2, cvs, oc3, file, tf, rfl, hca, hvs, hfile⟩⟩
end
end WC

set_option maxHeartbeats 4000000
namespace WC
open PySem PySem.Spec PyProof.Rows L2
theorem sorted_one {α : Type} {f : α → Int} : ∀ {l r : List α}, l.Perm r → l.Pairwise (fun a b => f a ≤ f b) → r.Pairwise (fun a b => f a < f b) → l = r
  | [], r, p, _, _ => (List.nil_perm.mp p).symm
  | a :: l, [], p, _, _ => absurd (p.length_eq) (by simp)
  | a :: l, b :: r, p, h1, h2 => by
    have e : a = b := by
      rcases List.mem_cons.mp (p.mem_iff.mp (List.mem_cons_self (a := a))) with e | m
      · exact e
      · have q1 := (List.pairwise_cons.mp h2).1 a m
        rcases List.mem_cons.mp (p.mem_iff.mpr (List.mem_cons_self (a := b))) with e | m2
        · exact e.symm
        · have q2 := (List.pairwise_cons.mp h1).1 b m2
          omega
    subst e
    rw [sorted_one ((List.perm_cons a).mp p) (List.pairwise_cons.mp h1).2 (List.pairwise_cons.mp h2).2]
def rowOf (ns : List Int) : List Tri := ns.mapIdx fun k c => ((k : Int), (k : Int) + 1, c)
def ringOf (ns : List Int) : List Tri := ns.mapIdx fun k c => ((k : Int), ((k : Int) + 1) % (ns.length : Int), c)
theorem rowOf_at {ns : List Int} {i : Nat} {c : Int} (h : ns[i]? = some c) : (rowOf ns)[i]? = some ((i : Int), (i : Int) + 1, c) := by
  unfold rowOf
  rw [List.getElem?_mapIdx, h]
  rfl
theorem ringOf_at {ns : List Int} {i : Nat} {c : Int} (h : ns[i]? = some c) : (ringOf ns)[i]? = some ((i : Int), ((i : Int) + 1) % (ns.length : Int), c) := by
  unfold ringOf
  rw [List.getElem?_mapIdx, h]
  rfl
theorem rowOf_len (ns : List Int) : (rowOf ns).length = ns.length := List.length_mapIdx
theorem ringOf_len (ns : List Int) : (ringOf ns).length = ns.length := List.length_mapIdx
theorem rowOf_mem {ns : List Int} {t : Tri} (h : t ∈ rowOf ns) : ∃ (i : Nat) (c : Int), ns[i]? = some c ∧ t = ((i : Int), (i : Int) + 1, c) := by
  obtain ⟨i, hi⟩ := List.mem_iff_getElem?.mp h
  have hl := (List.getElem?_eq_some_iff.mp hi).1
  rw [rowOf_len] at hl
  have q : ns[i]? = some ns[i] := by simp [hl]
  rw [rowOf_at q] at hi
  exact ⟨i, _, q, (Option.some.inj hi).symm⟩
theorem ringOf_mem {ns : List Int} {t : Tri} (h : t ∈ ringOf ns) : ∃ (i : Nat) (c : Int), ns[i]? = some c ∧ t = ((i : Int), ((i : Int) + 1) % (ns.length : Int), c) := by
  obtain ⟨i, hi⟩ := List.mem_iff_getElem?.mp h
  have hl := (List.getElem?_eq_some_iff.mp hi).1
  rw [ringOf_len] at hl
  have q : ns[i]? = some ns[i] := by simp [hl]
  rw [ringOf_at q] at hi
  exact ⟨i, _, q, (Option.some.inj hi).symm⟩
/-- channels by rising producers -/
def Inc (cs : List Tri) : Prop := cs.Pairwise fun a b => a.1 < b.1
theorem rowOf_inc (ns : List Int) : Inc (rowOf ns) := by
  unfold Inc
  rw [List.pairwise_iff_getElem]
  intro i j hi hj hij
  simp only [rowOf, List.getElem_mapIdx]
  omega
theorem ringOf_inc (ns : List Int) : Inc (ringOf ns) := by
  unfold Inc
  rw [List.pairwise_iff_getElem]
  intro i j hi hj hij
  simp only [ringOf, List.getElem_mapIdx]
  omega
theorem nodup_of_inc {α : Type} {cs : List α} {f : α → Int} {g : α → Int × Int} (hg : ∀ a, (g a).1 = f a) (h : cs.Pairwise fun a b => f a < f b) : (cs.map g).Nodup := by
  rw [List.Nodup, List.pairwise_map]
  refine h.imp fun {a b} z e => ?_
  have q := congrArg Prod.fst e
  rw [hg, hg] at q
  omega
end WC

set_option maxHeartbeats 4000000
namespace WC
open PySem PySem.Spec PyProof.Rows L2
abbrev Lk := Int × Int
def PairA (H : Hp) (c : Lk) (v : V) : Prop := ∃ t, v = .ref t ∧ H t = some (.tup [.int c.1, .int c.2])
theorem pairs_same {H H2 : Hp} {cs : List Lk} {vs : List V} (s : Same H H2) (h : Paired (PairA H) cs vs) : Paired (PairA H2) cs vs := Paired.mapP h fun _ _ ⟨t, e, q⟩ => ⟨t, e, s _ _ q⟩
/-- b is a or lies behind links from a -/
inductive Reach (ls : List Lk) (a : Int) : Int → Prop
  | refl : Reach ls a a
  | step {y z : Int} : Reach ls a y → (y, z) ∈ ls → Reach ls a z
theorem nodup_le : ∀ (n : Nat) (l : List Int), l.Nodup → (∀ x ∈ l, 0 ≤ x ∧ x < n) → l.length ≤ n
  | 0, l, _, h => by
    cases l with
    | nil => exact Nat.le_refl _
    | cons a l =>
      have := h a List.mem_cons_self
      omega
  | n + 1, l, nd, h => by
    by_cases m : (n : Int) ∈ l
    · have q := nodup_le n (l.erase (n : Int)) (nd.erase _) fun x hx => by
        obtain ⟨h1, h2⟩ := (nd.mem_erase_iff).mp hx
        have := h x h2
        omega
      rw [List.length_erase_of_mem m] at q
      omega
    · have q := nodup_le n l nd fun x hx => by
        have := h x hx
        have : x ≠ n := fun e => m (e ▸ hx)
        omega
      omega
/-- the search: found so far, still waiting -/
structure Srch (ls : List Lk) (a : Int) (n : Nat) (F W : List Int) : Prop where
  nd : F.Nodup
  rng : ∀ x ∈ F, 0 ≤ x ∧ x < n
  fst : a ∈ F
  sub : ∀ x ∈ W, x ∈ F
  rch : ∀ x ∈ F, Reach ls a x
  clo : ∀ x ∈ F, x ∈ W ∨ ∀ z, (x, z) ∈ ls → z ∈ F
  wl : W.length ≤ F.length
theorem Srch.all {ls : List Lk} {a : Int} {n : Nat} {F : List Int} (h : Srch ls a n F []) : ∀ x, x ∈ F ↔ Reach ls a x := fun x => by
  constructor
  · exact h.rch x
  · intro r
    induction r with
    | refl => exact h.fst
    | step r m ih =>
      rcases h.clo _ ih with q | q
      · cases q
      · exact q _ m
/-- while the links of y are gone through: those of the first m links are seen -/
structure Mid (ls : List Lk) (a : Int) (n : Nat) (y : Int) (m : Nat) (F W : List Int) : Prop where
  nd : F.Nodup
  rng : ∀ x ∈ F, 0 ≤ x ∧ x < n
  fst : a ∈ F
  sub : ∀ x ∈ W, x ∈ F
  rch : ∀ x ∈ F, Reach ls a x
  yF : y ∈ F
  clo : ∀ x ∈ F, x ∈ W ∨ x = y ∨ ∀ z, (x, z) ∈ ls → z ∈ F
  sn : ∀ z, (y, z) ∈ ls.take m → z ∈ F
  wl : W.length ≤ F.length
theorem Srch.mid {ls : List Lk} {a : Int} {n : Nat} {F W : List Int} {y : Int} (h : Srch ls a n F (W ++ [y])) : Mid ls a n y 0 F W :=
  ⟨h.nd, h.rng, h.fst, fun x hx => h.sub x (List.mem_append_left _ hx), h.rch, h.sub y (by simp), fun x hx => by
    rcases h.clo x hx with q | q
    · rcases List.mem_append.mp q with q | q
      · exact .inl q
      · exact .inr (.inl (List.mem_singleton.mp q))
    · exact .inr (.inr q), fun z hz => by simp at hz, by have q := h.wl; rw [List.length_append] at q; omega⟩
theorem Mid.srch {ls : List Lk} {a : Int} {n : Nat} {F W : List Int} {y : Int} (h : Mid ls a n y ls.length F W) : Srch ls a n F W :=
  ⟨h.nd, h.rng, h.fst, h.sub, h.rch, fun x hx => by
    rcases h.clo x hx with q | q | q
    · exact .inl q
    · exact .inr fun z hz => h.sn z (by rw [List.take_length, ← q]; exact hz)
    · exact .inr q, h.wl⟩
theorem Mid.skip {ls : List Lk} {a : Int} {n : Nat} {F W : List Int} {y : Int} {m : Nat} {c : Lk} (h : Mid ls a n y m F W) (hc : ls[m]? = some c) (hz : c.1 = y → c.2 ∈ F) : Mid ls a n y (m + 1) F W :=
  ⟨h.nd, h.rng, h.fst, h.sub, h.rch, h.yF, h.clo, fun z hm => by
    rw [take_snoc hc] at hm
    rcases List.mem_append.mp hm with q | q
    · exact h.sn z q
    · have e := List.mem_singleton.mp q
      have e1 : c.1 = y := by rw [← e]
      have e2 : c.2 = z := by rw [← e]
      rw [← e2]
      exact hz e1, h.wl⟩
theorem Mid.add {ls : List Lk} {a : Int} {n : Nat} {F W : List Int} {y : Int} {m : Nat} {c : Lk} (h : Mid ls a n y m F W) (hc : ls[m]? = some c) (h1 : c.1 = y) (h2 : c.2 ∉ F) (h3 : 0 ≤ c.2 ∧ c.2 < n) : Mid ls a n y (m + 1) (F ++ [c.2]) (W ++ [c.2]) := by
  have hm : (y, c.2) ∈ ls := by
    have q := List.mem_of_getElem? hc
    rw [← h1]
    exact q
  refine ⟨?_, fun x hx => ?_, List.mem_append_left _ h.fst, fun x hx => ?_, fun x hx => ?_, List.mem_append_left _ h.yF, fun x hx => ?_, fun z hz => ?_, by have q := h.wl; rw [List.length_append, List.length_append]; simp only [List.length_cons, List.length_nil]; omega⟩
  · rw [List.nodup_append]
    exact ⟨h.nd, by simp, fun p hp q hq e => h2 (by rw [← List.mem_singleton.mp hq, ← e]; exact hp)⟩
  · rcases List.mem_append.mp hx with q | q
    · exact h.rng x q
    · rw [List.mem_singleton.mp q]; exact h3
  · rcases List.mem_append.mp hx with q | q
    · exact List.mem_append_left _ (h.sub x q)
    · exact List.mem_append_right _ q
  · rcases List.mem_append.mp hx with q | q
    · exact h.rch x q
    · rw [List.mem_singleton.mp q]; exact .step (h.rch y h.yF) hm
  · rcases List.mem_append.mp hx with q | q
    · rcases h.clo x q with r | r | r
      · exact .inl (List.mem_append_left _ r)
      · exact .inr (.inl r)
      · exact .inr (.inr fun z hz => List.mem_append_left _ (r z hz))
    · exact .inl (List.mem_append_right _ q)
  · rw [take_snoc hc] at hz
    rcases List.mem_append.mp hz with q | q
    · exact List.mem_append_left _ (h.sn z q)
    · have e := List.mem_singleton.mp q
      have e2 : c.2 = z := by rw [← e]
      rw [e2]
      exact List.mem_append_right _ (by simp)
end WC

set_option maxHeartbeats 4000000
namespace WC
open PySem PySem.Spec PyProof.Rows L2
/-- a value that has no address -/
def plainV : V → Bool
  | .int _ => true
  | .bl _ => true
  | .non => true
  | .str _ => true
  | _ => false
/-- x is True, x is False, x a plain value -/
theorem op_isB {X : Cx} : OpR X (compareOp .Is) (fun x y H Q => ∃ k : Bool, y = .bl k ∧ plainV x = true ∧ Q (.bl (decide (x = .bl k))) H) := by
  intro pins s σ H x y v u Q I rx ry h
  obtain ⟨k, rfl, hp, q⟩ := h
  obtain rfl : u = Value.bool k := ry
  have fin : ∀ b, decide (x = V.bl k) = b → EP X pins σ Q (.bool b) s := fun b e => ⟨.bl b, H, I, rfl, by rw [← e]; exact q⟩
  cases x with
  | int i =>
    obtain ⟨t, rfl⟩ := rx
    exact wpAny_pure (fin false (by simp))
  | bl b =>
    obtain rfl : v = Value.bool b := rx
    by_cases e : b = k
    · subst e
      exact wpAny_is_self rfl (fin true (by simp))
    · exact wpAny_is_other rfl (fun z => e (Value.bool.inj z)) (fin false (by simp [e]))
  | non =>
    obtain rfl : v = Value.none := rx
    exact wpAny_pure (fin false (by simp))
  | str z =>
    obtain ⟨t, rfl⟩ := rx
    exact wpAny_pure (fin false (by simp))
  | ref a => cases hp
  | byt b => cases hp
  | flt b => cases hp
  | ty n => cases hp
/-- all but what stands at b is as it was -/
def SameB (b : Addr) (H H2 : Hp) : Prop := ∀ c o, H c = some o → c ≠ b → H2 c = some o
theorem SameB.refl (b : Addr) (H : Hp) : SameB b H H := fun _ _ e _ => e
theorem SameB.trans {b : Addr} {H H1 H2 : Hp} (s : SameB b H H1) (t : SameB b H1 H2) : SameB b H H2 := fun c o e n => t c o (s c o e n) n
theorem SameB.of {b : Addr} {H H1 : Hp} (s : Same H H1) : SameB b H H1 := fun c o e _ => s c o e
theorem SameB.upd {b : Addr} {H H1 : Hp} {o : HO} (s : SameB b H H1) : SameB b H (upd H1 b o) := fun c u e n => by
  rw [upd_ne n]
  exact s c u e n
theorem SameB.put {b p : Addr} {H H1 : Hp} {o : HO} (s : SameB b H H1) (hp : H p = none) : SameB b H (L2.upd H1 p o) := fun c u e n => by
  rw [upd_ne (ne_of_none e hp)]
  exact s c u e n
/-- the bag of draws -/
def BagAt (H : Hp) (b : Addr) : Prop := ∃ x f : Int, H b = some (.lst [.int x, .int f])
theorem BagAt.same {H H2 : Hp} {b : Addr} (h : BagAt H b) (s : Same H H2) : BagAt H2 b := let ⟨x, f, e⟩ := h; ⟨x, f, s _ _ e⟩
theorem SameB.free {b p : Addr} {H H2 : Hp} (s : SameB b H H2) (hb : BagAt H2 b) (hp : H2 p = none) : H p = none := by
  cases e : H p with
  | none => rfl
  | some o =>
    by_cases n : p = b
    · obtain ⟨x, f, q⟩ := hb
      rw [n, q] at hp
      cases hp
    · rw [s p o e n] at hp
      cases hp
end WC

set_option maxHeartbeats 4000000
namespace WC
open PySem PySem.Spec PyProof.Rows L2
/-! a def that lets nothing out, called wherever: also while an exception is handled -/
def cxQ (CX : CXT) (P : Program) (w : World) (K : PySem.W.Frag) (mg : Str → Option Value) (base : Heap) (N : List Str) (qual : Str) (sc : Scope) (f : Addr) (cd : Value) (A : Around) (outer : List Env) (s : Shared) (H : Hp) : Cx :=
  { cxOf CX P w K mg base N qual sc f cd A outer s H E0 with calm := false, xe := fun _ _ => False }
structure FnQ (P : Program) (w : World) (K : PySem.W.Frag) (mg : Str → Option Value) (base : Heap) (k : Nat) (f : Addr) (fd : FuncData) (ps : List Str) (sp : Sp) : Prop where
  len : ∀ vs H Q E, sp vs H Q E → vs.length = ps.length
  run : ∀ (A : Around) (outer : List Env) (s : Shared) (H : Hp) (args : Args) (us : List Value) (vs : List V) (Q : VK), L2H.RoomH k A → Env0 P w K mg base A outer s H → BindsTo s fd args (ps.zip us) → Vals vs us → sp vs H Q E0 →
    codeAny (model P w) A (.call (.ref f) args) (fun r s' => match r with | .ok (.ret u) => CE outer P w H s Q u s' | _ => False) s
theorem inv_startQ {CX : CXT} {P : Program} {w : World} {K : PySem.W.Frag} {mg : Str → Option Value} {base : Heap} {N ps : List Str} {qual : Str} {scope : Scope} {f : Addr} {cd : Value} {A : Around} {outer : List Env} {s s1 : Shared} {H : Hp} {us : List Value} {vs : List V}
    (S : FnScope N ps scope) (e0 : Env0 P w K mg base A outer s H) (hl : vs.length = ps.length) (r : Vals vs us)
    (x : InCallC s s.heap.objs.size (bindL (envOfC qual scope s.heap.objs.size f cd).kindOf (ps.zip us) fun _ => none) (cellsFrom (s.heap.objs.size + 1) scope.names []) (bindC (envOfC qual scope s.heap.objs.size f cd).kindOf (ps.zip us) fun _ => none) s1) :
    Inv (cxQ CX P w K mg base N qual scope f cd A outer s H) [] (L2.start N vs) H s1 := by
  have hpl : ps.length ≤ N.length := by have := congrArg List.length S.pre; rw [List.length_take] at this; omega
  obtain ⟨h1, tk, rfl, hk⟩ := x.done
  have noA : ∀ b : Addr, b ∉ (cxQ CX P w K mg base N qual scope f cd A outer s H).ex := fun b z => absurd (show b ∈ ([] : List Addr) from z) (by simp)
  refine ⟨⟨e0.mod, S.kind, rfl, rfl, Nat.le_refl _, fun y z c h1 h2 => ?_, fun y hy => ?_, fun y c _ h => ?_, (fun z => Bool.noConfusion (show false = true from z)), Around.frames_deeper e0.frames, .inr ⟨rfl, rfl⟩, fun b z => absurd z (noA b), e0.bs, e0.bsz, fun b _ _ => noA b, fun b z => absurd z (noA b), e0.funs, e0.frf⟩,
    rfl, e0.bare, Un.kept hk, ⟨_, x.toInCall.ns, fun i y v h1 h2 h3 => ?_⟩, fun y c h => ⟨_, x.cell y c h⟩, e0.hok.fresh (Nat.le_refl _), fun y c h => ?_, fun q hq => ?_, e0.hok.kept hk, ?_⟩
  · exact name_of_addr x.apart (PySem.mem_of_lookup h1) (PySem.mem_of_lookup h2)
  · have hy : scope.names.lookup y = some .cell ∨ scope.names.lookup y = some .free := hy
    rcases hy with hy | hy
    · exact cell_has hy
    · exact absurd rfl (S.nofree _ (PySem.mem_of_lookup hy))
  · exact Nat.le_of_lt (x.above y c (PySem.mem_of_lookup h))
  · have hi : i < vs.length := by
      unfold L2.start at h2
      by_cases hi : i < vs.length
      · exact hi
      · rw [List.getElem?_append_right (by simpa using hi)] at h2
        rw [List.getElem?_replicate] at h2
        split at h2 <;> cases h2
    have ha : vs[i]? = some v := by
      unfold L2.start at h2
      rw [List.getElem?_append_left (by simpa using hi), List.getElem?_map] at h2
      cases e : vs[i]? with
      | none => rw [e] at h2; cases h2
      | some a => rw [e] at h2; cases h2; rfl
    obtain ⟨u, hu, rv⟩ := r.get ha
    have hp : ps[i]? = some y := by
      rw [← S.pre, List.getElem?_take_of_lt (by omega)]; exact h1
    have ndP : ps.Nodup := by rw [← S.pre]; exact S.nd.sublist (List.take_sublist _ _)
    refine ⟨u, rv, ?_⟩
    rcases S.par y (List.mem_of_getElem? hp) with k | k
    · exact .inl ⟨k, bindL_get ndP hp hu k⟩
    · obtain ⟨c, e⟩ := cell_has (n := s.heap.objs.size + 1) k
      refine .inr ⟨.inl k, c, e, ?_⟩
      have q := x.cell y c e
      rw [bindC_get ndP hp hu (by show scope.names.lookup y ≠ _; rw [k]; decide)] at q
      exact q
  · exact e0.hok.fresh (Nat.le_of_lt (x.above y c (PySem.mem_of_lookup h)))
  · exact absurd (show q ∈ ([] : List (Addr × Obj)) from hq) (by simp)
  · unfold L2.start
    show _ = N.length
    rw [List.length_append, List.length_map, List.length_replicate]
    omega
theorem fn_ofQ {CX : CXT} {P : Program} {w : World} {K : PySem.W.Frag} {mg : Str → Option Value} {base : Heap} {k : Nat} {f : Addr} {name qual : Str} {params : Arguments} {body : List Stmt} {scope : Scope} {dV kV doc pm cdv ct oc : Value} {an od : Option Addr}
    {osl : Array (Option Value)} {N ps : List Str} {sp : Sp} (lk : K.lookup f = some ⟨oc, od, .func (PySem.W.fnOf name qual params body scope dV kV doc pm an cdv ct), osl⟩) (hcd : PySem.W.codeIn K cdv qual = true) (S : FnScope N ps scope)
    (len : ∀ vs H Q E, sp vs H Q E → vs.length = ps.length)
    (hbody : ∀ (A : Around) (outer : List Env) (s : Shared) (H : Hp) (vs : List V) (Q : VK), L2H.RoomH k (A.deeper (envOfC qual scope s.heap.objs.size f cdv)) → sp vs H Q E0 →
      ∃ t, PSs (cxQ CX P w K mg base N qual scope f cdv A outer s H) body t ∧ t { nx := fun _ H' => Q .non H', rt := Q } (L2.start N vs) H) :
    FnQ P w K mg base (k + 1) f (PySem.W.fnOf name qual params body scope dV kV doc pm an cdv ct) ps sp := by
  refine ⟨len, fun A outer s H args us vs Q hr e0 hb r hsp => ?_⟩
  have hl := len _ _ _ _ hsp
  have KX : K.In s.heap := e0.mod.kin.keeps fun b o e => (e0.bs b o e).1
  have lim : s.heap.NoLimit := e0.mod.nolimit.keeps fun b o e => (e0.bs b o e).1
  have hkind : ∀ y ∈ ps.zip us, scope.names.lookup y.1 = some .local ∨ (scope.names.lookup y.1 = some .cell ∧ ((cellsFrom (s.heap.objs.size + 1) scope.names []).lookup y.1).isSome = true) := fun ⟨n, v⟩ hy => by
    rcases S.par n (List.of_mem_zip hy).1 with q | q
    · exact .inl q
    · exact .inr ⟨q, PySem.W.cellsFrom_some _ _ _ (.inl q)⟩
  refine codeAny_call_function hr.depth (KX _ _ lk) rfl S.co S.gen rfl (PySem.W.codeRec_of KX hcd) (hb _ _ _ _ ?_)
  refine wpAny_newFunctionEnv_cells S.kind hkind fun env he s1 x => ?_
  subst he
  refine ⟨lim.keeps x.toInCall.keep, codeAny_func ?_⟩
  obtain ⟨t, ht, hq⟩ := hbody A outer s H vs Q (hr.deeper _) hsp
  have I : Inv (cxQ CX P w K mg base N qual scope f cdv A outer s H) [] (L2.start N vs) H s1 := inv_startQ S e0 hl r x
  refine wpAny_mono (ht.run [] s1 (L2.start N vs) H _ I hq) (fun fl s' hs => ?_) fun e s' hs => False.elim hs
  have fin : ∀ {σ' : L2.St} {H' : Hp} {v : V} {u : Value}, Inv (cxQ CX P w K mg base N qual scope f cdv A outer s H) [] σ' H' s' → RelV v u → Q v H' → CE outer P w H s Q u s' :=
    fun {σ' H' v u} J rv q => ⟨v, H', J.os, J.bare, J.base, J.hok, rv, q⟩
  cases fl with
  | ret u =>
    obtain ⟨v, σ', H', J, rv, q⟩ := hs
    exact fin J rv q
  | next =>
    obtain ⟨σ', H', J, q⟩ := hs
    exact fin (v := V.non) (u := Value.none) J rfl q
  | brk =>
    obtain ⟨_, _, _, q⟩ := hs
    exact False.elim q
  | cont =>
    obtain ⟨_, _, _, q⟩ := hs
    exact False.elim q
section
variable {X : Cx} {CX : CXT} {k : Nat} {f C : Addr} {fd : FuncData} {ps : List Str} {sp : Sp} {x m : Str} {q pos apos : Pos} {e o : Expr} {es : List Expr} {ta : TE} {t : TA}
theorem run_fnQ {pins : List (Addr × Obj)} {σ : L2.St} {H : Hp} {s : Shared} {Q : VK} {us : List Value} {vs : List V} (F : FnQ X.prog X.w X.K X.mg X.base k f fd ps sp) (hr : L2H.RoomH k X.A) (hb : Binds X.K fd ps [])
    (I : Inv X pins σ H s) (r : Vals vs us) (h : sp vs H Q E0) : wpAny (model X.prog X.w) X.A (call (.ref f) us) (EP X pins σ Q) X.xe s := by
  have hl : us.length = ps.length := by rw [← r.length]; exact F.len _ _ _ _ h
  have b := hb s us I.kIn (by rw [List.append_nil]; exact hl)
  rw [List.append_nil] at b
  refine wpAny_call (codeAny_mono (F.run X.A X.stack s H ⟨us, []⟩ us vs Q hr I.env0 b r h) fun r s' hq => ?_)
  cases r with
  | error e => exact False.elim hq
  | ok fl =>
    cases fl with
    | ret u => exact I.after hq
    | next => exact False.elim hq
    | brk => exact False.elim hq
    | cont => exact False.elim hq
end
/-- the def that the module's name x holds keeps sp, wherever it is called -/
structure DefQ (P : Program) (w : World) (K : PySem.W.Frag) (mg : Str → Option Value) (base : Heap) (x : Str) (k : Nat) (sp : Sp) : Prop where
  ex : ∃ f fd ps, mg x = some (.ref f) ∧ PySem.W.keepIn K (.ref f) = true ∧ Binds K fd ps [] ∧ FnQ P w K mg base k f fd ps sp
def tCallQ (sp : Sp) (t : TA) : TE := fun σ H Q => t σ H fun vs H1 => sp vs H1 Q E0
theorem pe_cq {X : Cx} {j k : Nat} {sp : Sp} {x : Str} {e : Expr} {es : List Expr} {t : TA} {p pos : Pos} (D : DefQ X.prog X.w X.K X.mg X.base x k sp) (hr : L2H.RoomH j X.A) (ha : PA X (e :: es) t) (hle : k ≤ j := by decide) (hg : Gl X x := by rfl) (hdb : (x == ("__debug__" : Str)) = false := by decide)
    (he : starEach (e :: es) X.env = (false, eval e X.env) :: starEach es X.env := by rfl) (hpl : (backTo pos (starEach es X.env)).any (·.1) = false := by rfl) : PE X (.Call (.Name x p) (e :: es) [] pos) (tCallQ sp t) := by
  obtain ⟨f, fd, ps, hm, hk, hb, F⟩ := D.ex
  refine ⟨fun pins s σ H Q I h => wpAny_Call_Name_kw (ld_glob I hg hm ?_ hdb)⟩
  exact PySem.W.callWith_K (h₀ := X.base) I.ok.mod.kin hk (thn (ha.run pos pins s σ H _ I h) fun us s1 ⟨vs, H1, I1, r, q⟩ => ⟨I1.kIn, run_fnQ F (hr.mono hle) hb I1 r q⟩) he hpl
end WC

set_option maxHeartbeats 4000000
namespace WC
open PySem PySem.Spec PyProof.Rows L2
/-! channels kept in a dict by their pair -/
abbrev pairOf2 (c : Tri) : Int × Int := (c.1, c.2.1)
def entK (c : Tri) : List Key := [Sum.inl c.1, Sum.inl c.2.1]
def ent (c : Tri) : List Key × V := (entK c, .int c.2.2)
theorem entK_inj {a c : Tri} : entK a = entK c ↔ pairOf2 a = pairOf2 c := by
  unfold entK pairOf2
  simp
theorem put_ent (ms : List Tri) (c : Tri) : ∃ ms2 : List Tri, putK (ms.map ent) (entK c) (.int c.2.2) = ms2.map ent ∧ (∀ p : Tri → Prop, (∀ m ∈ ms, p m) → p c → ∀ m ∈ ms2, p m) ∧ ((ms.map pairOf2).Nodup → (ms2.map pairOf2).Nodup) ∧ ms2.length ≤ ms.length + 1 := by
  unfold putK
  by_cases h : ((ms.map ent).any fun kv => decide (kv.1 = entK c)) = true
  · rw [if_pos h]
    refine ⟨ms.map fun m => if entK m = entK c then c else m, ?_, fun p h1 h2 m hm => ?_, fun nd => ?_, by rw [List.length_map]; omega⟩
    · rw [List.map_map, List.map_map]
      refine List.map_congr_left fun m _ => ?_
      show (if entK m = entK c then (entK m, V.int c.2.2) else ent m) = ent (if entK m = entK c then c else m)
      by_cases e : entK m = entK c
      · rw [if_pos e, if_pos e, e]
        rfl
      · rw [if_neg e, if_neg e]
    · obtain ⟨m0, hm0, e⟩ := List.mem_map.mp hm
      by_cases e2 : entK m0 = entK c
      · rw [if_pos e2] at e
        rw [← e]; exact h2
      · rw [if_neg e2] at e
        rw [← e]; exact h1 m0 hm0
    · have q : (ms.map fun m => if entK m = entK c then c else m).map pairOf2 = ms.map pairOf2 := by
        rw [List.map_map]
        refine List.map_congr_left fun m _ => ?_
        show pairOf2 (if entK m = entK c then c else m) = pairOf2 m
        by_cases e : entK m = entK c
        · rw [if_pos e]
          exact (entK_inj.mp e).symm
        · rw [if_neg e]
      rw [q]
      exact nd
  · rw [if_neg h]
    refine ⟨ms ++ [c], by rw [List.map_append]; rfl, fun p h1 h2 m hm => ?_, fun nd => ?_, by rw [List.length_append]; exact Nat.le_refl _⟩
    · rcases List.mem_append.mp hm with q | q
      · exact h1 m q
      · rw [List.mem_singleton.mp q]; exact h2
    · rw [List.map_append, List.nodup_append]
      refine ⟨nd, by simp, fun x hx y hy e => h ?_⟩
      obtain ⟨m, hm, e1⟩ := List.mem_map.mp hx
      have e2 : y = pairOf2 c := by simpa using hy
      rw [List.any_eq_true]
      exact ⟨ent m, List.mem_map_of_mem hm, decide_eq_true (entK_inj.mpr (e1.trans (e.trans e2)))⟩
theorem val_ent : ∀ {ms : List Tri} {c : Tri}, (ms.map pairOf2).Nodup → c ∈ ms → valV (ms.map ent) (entK c) = some (.int c.2.2)
  | [], _, _, h => by cases h
  | m :: ms, c, nd, h => by
    rw [List.map_cons, List.nodup_cons] at nd
    rw [List.map_cons]
    by_cases e : entK m = entK c
    · rw [valV_pos (p := ent m) e]
      rcases List.mem_cons.mp h with q | q
      · rw [q]; rfl
      · exact absurd (List.mem_map.mpr ⟨c, q, (entK_inj.mp e).symm⟩) nd.1
    · rw [valV_neg (p := ent m) e]
      rcases List.mem_cons.mp h with q | q
      · rw [q] at e; exact absurd rfl e
      · exact val_ent nd.2 q
theorem seq_mid {a b : TS} {D : Ends} {σ : L2.St} {H : Hp} (Pv : L2.St → Hp → Prop) (h1 : ∀ N : L2.St → Hp → Prop, (∀ σ H, Pv σ H → N σ H) → a { D with nx := N } σ H) (h2 : ∀ σ H, Pv σ H → b D σ H) : tSeq a b D σ H := h1 _ h2
/-- a channel from an earlier stage of ts to a later one -/
def LkOk (ts : List Int) (c : Tri) : Prop := (∃ i j : Nat, i < j ∧ ts[i]? = some c.1 ∧ ts[j]? = some c.2.1) ∧ 1 ≤ c.2.2 ∧ c.2.2 ≤ 999
theorem acyc_of {ts : List Int} {ms : List Tri} (nd : ts.Nodup) (h : ∀ c ∈ ms, LkOk ts c) : Acyc ms := by
  refine ⟨fun x => ts.idxOf x, fun c hc => ?_⟩
  obtain ⟨⟨i, j, hij, h1, h2⟩, _⟩ := h c hc
  have at_ : ∀ {k : Nat} {x : Int}, ts[k]? = some x → ts.idxOf x = k := fun {k x} e => by
    obtain ⟨hk, e2⟩ := List.getElem?_eq_some_iff.mp e
    have hx : ts.idxOf x < ts.length := List.idxOf_lt_length_of_mem (e2 ▸ List.getElem_mem hk)
    have e3 : ts[ts.idxOf x]? = some x := by rw [List.getElem?_eq_getElem hx, List.getElem_idxOf hx]
    exact (List.getElem?_inj hx nd).mp (e3.trans e.symm)
  show ts.idxOf c.1 < ts.idxOf c.2.1
  rw [at_ h1, at_ h2]
  exact hij
end WC

set_option maxHeartbeats 4000000
namespace WC
open PySem PySem.Spec PyProof.Rows L2
/-! all that lies behind a, by going over the links n times -/
abbrev On (bs : List Bool) (k : Int) : Prop := bs[k.toNat]? = some true
def Shut (ls : List Lk) (a : Int) (bs : List Bool) : Prop := ∀ y z, (y, z) ∈ ls → y = a ∨ On bs y → On bs z
structure Wlk (ls : List Lk) (a : Int) (n : Nat) (bs : List Bool) : Prop where
  len : bs.length = n
  snd : ∀ k : Nat, bs[k]? = some true → Reach ls a k
theorem set_same {bs : List Bool} {k : Nat} (h : bs[k]? = some true) : bs.set k true = bs := by
  apply List.ext_getElem?
  intro i
  rw [List.getElem?_set]
  by_cases e : k = i
  · subst e
    rw [if_pos rfl, if_pos (List.getElem?_eq_some_iff.mp h).1, h]
  · rw [if_neg e]
theorem count_set : ∀ {bs : List Bool} {k : Nat}, bs[k]? = some false → (bs.set k true).count true = bs.count true + 1
  | [], k, h => by simp at h
  | a :: bs, 0, h => by
    have e : a = false := by simpa using h
    subst e
    simp
  | a :: bs, k + 1, h => by
    have h : bs[k]? = some false := by simpa using h
    rw [List.set_cons_succ, List.count_cons, List.count_cons, count_set h]
    omega
structure WMid (ls : List Lk) (a : Int) (n : Nat) (m : Nat) (bs0 bs : List Bool) : Prop where
  w : Wlk ls a n bs
  up : ∀ k : Int, On bs0 k → On bs k
  dn : ∀ y z, (y, z) ∈ ls.take m → y = a ∨ On bs0 y → On bs z
  sh : Shut ls a bs0 → bs = bs0
  ct : bs = bs0 ∨ bs0.count true < bs.count true
theorem WMid.start {ls : List Lk} {a : Int} {n : Nat} {bs : List Bool} (w : Wlk ls a n bs) : WMid ls a n 0 bs bs := ⟨w, fun _ h => h, fun y z h => by simp at h, fun _ => rfl, .inl rfl⟩
theorem WMid.hit {ls : List Lk} {a : Int} {n m : Nat} {bs0 bs : List Bool} {y z : Int} (h : WMid ls a n m bs0 bs) (hc : ls[m]? = some (y, z)) (hy : 0 ≤ y) (hz : 0 ≤ z ∧ z < n) (c : y = a ∨ On bs y) : WMid ls a n (m + 1) bs0 (bs.set z.toNat true) := by
  have hm : (y, z) ∈ ls := List.mem_of_getElem? hc
  have zl : z.toNat < bs.length := by rw [h.w.len]; omega
  have at1 : ∀ {k : Int}, On bs k → On (bs.set z.toNat true) k := fun {k} e => by
    show (bs.set z.toNat true)[k.toNat]? = some true
    rw [List.getElem?_set]
    by_cases q : z.toNat = k.toNat
    · rw [if_pos q, if_pos zl]
    · rw [if_neg q]; exact e
  have atz : On (bs.set z.toNat true) z := by
    show (bs.set z.toNat true)[z.toNat]? = some true
    rw [List.getElem?_set, if_pos rfl, if_pos zl]
  refine ⟨⟨by rw [List.length_set]; exact h.w.len, fun k e => ?_⟩, fun k e => at1 (h.up k e), fun y2 z2 e c2 => ?_, fun s => ?_, ?_⟩
  · rw [List.getElem?_set] at e
    by_cases q : z.toNat = k
    · have ek : (k : Int) = z := by omega
      rw [ek]
      refine .step ?_ hm
      rcases c with c | c
      · rw [c]; exact .refl
      · have := h.w.snd y.toNat c
        have e3 : ((y.toNat : Nat) : Int) = y := by omega
        rw [e3] at this
        exact this
    · rw [if_neg q] at e
      exact h.w.snd k e
  · rw [take_snoc hc] at e
    rcases List.mem_append.mp e with e | e
    · exact at1 (h.dn y2 z2 e c2)
    · have e := List.mem_singleton.mp e
      cases e
      exact atz
  · have e0 := h.sh s
    rw [e0] at c
    have z0 : On bs0 z := s y z hm c
    rw [e0]
    exact set_same z0
  · cases hb : bs[z.toNat]? with
    | none => rw [List.getElem?_eq_none_iff] at hb; omega
    | some v =>
      cases v with
      | true => rw [set_same hb]; exact h.ct
      | false =>
        refine .inr ?_
        rw [count_set hb]
        rcases h.ct with e | e
        · rw [e]; omega
        · omega
theorem WMid.miss {ls : List Lk} {a : Int} {n m : Nat} {bs0 bs : List Bool} {y z : Int} (h : WMid ls a n m bs0 bs) (hc : ls[m]? = some (y, z)) (c : ¬ (y = a ∨ On bs y)) : WMid ls a n (m + 1) bs0 bs :=
  ⟨h.w, h.up, fun y2 z2 e c2 => by
    rw [take_snoc hc] at e
    rcases List.mem_append.mp e with e | e
    · exact h.dn y2 z2 e c2
    · have e := List.mem_singleton.mp e
      cases e
      exact absurd (c2.imp id (h.up _)) c, h.sh, h.ct⟩
theorem WMid.fin {ls : List Lk} {a : Int} {n t : Nat} {bs0 bs : List Bool} (h : WMid ls a n ls.length bs0 bs) (q : Shut ls a bs0 ∨ t ≤ bs0.count true) : Shut ls a bs ∨ t + 1 ≤ bs.count true := by
  rcases h.ct with e | e
  · refine .inl fun y z hm c => ?_
    rw [e] at c
    exact h.dn y z (by rw [List.take_length]; exact hm) c
  · rcases q with q | q
    · have := h.sh q
      rw [this] at e
      omega
    · exact .inr (by omega)
theorem all_on {bs : List Bool} {n : Nat} (hl : bs.length = n) (h : n ≤ bs.count true) {k : Nat} (hk : k < n) : bs[k]? = some true := by
  have e : bs.count true = bs.length := Nat.le_antisymm List.count_le_length (by omega)
  have q := List.count_eq_length.mp e
  have hk2 : k < bs.length := by omega
  have := q (bs[k]) (List.getElem_mem hk2)
  rw [List.getElem?_eq_getElem hk2, ← this]
theorem Wlk.shut {ls : List Lk} {a : Int} {n : Nat} {bs : List Bool} (h : Wlk ls a n bs) (r : ∀ y z, (y, z) ∈ ls → 0 ≤ z ∧ z < n) (q : Shut ls a bs ∨ n ≤ bs.count true) : Shut ls a bs := by
  rcases q with q | q
  · exact q
  · intro y z hm _
    obtain ⟨z0, z1⟩ := r y z hm
    exact all_on h.len q (by omega)
theorem Wlk.all {ls : List Lk} {a : Int} {n : Nat} {bs : List Bool} (h : Wlk ls a n bs) (r : ∀ y z, (y, z) ∈ ls → 0 ≤ z ∧ z < n) (q : Shut ls a bs ∨ n ≤ bs.count true) : ∀ z, Reach ls a z → z = a ∨ On bs z := by
  have s := h.shut r q
  intro z hr
  induction hr with
  | refl => exact .inl rfl
  | step r m ih => exact .inr (s _ _ m ih)
end WC

set_option maxHeartbeats 4000000
namespace WC
open PySem PySem.Spec PyProof.Rows L2
/-! a caught exception with fields: its classes; a method called in a try -/
theorem inst_x {X : Cx} {a D dd : Addr} {oe : Obj} {cls : Value} {d : Option Addr} {pn pins : List (Addr × Obj)} {σ : L2.St} {H : Hp} {s : Shared} {fs : List (Str × V)} (hz : Zc cls d oe) (hf : ∃ vs, oe.data = .fields vs) (I : Inv (X.suite a ((a, oe) :: pn)) pins σ H s) (ec : cls = .ref D) (ed : d = some dd) (ea : H dd = some (.xd fs)) :
    ∃ od, PySem.W.InstAt s.heap a oe D (some od) := by
  subst ec ed
  obtain ⟨ha, _⟩ := I.pin (a, oe) (List.mem_append_left _ List.mem_cons_self)
  obtain ⟨vs, hd⟩ := hf
  have hx : ObjOk X.prog X.w H s.heap dd (.xd fs) := I.hok dd _ ea
  obtain ⟨mA, hns, hr⟩ := hx
  obtain ⟨od, ho, hl⟩ := lookIn_ns hns
  exact ⟨od, ha, hz.1, by unfold PySem.W.notCls; rw [hd] <;> rfl, by rw [hz.2]; exact ho⟩
theorem exc_is {K : PySem.W.Frag} {D : Addr} (C : ExcC K D) : (PySem.W.clsIn K D).isSome = true := by
  obtain ⟨cd, hc, _⟩ := PySem.W.any_some C.hd
  rw [hc]
  rfl
def rIsX (K : PySem.W.Frag) (D a : Addr) (cls : Value) (d : Option Addr) : List V → Hp → VK → Prop := fun xs H Q => ∃ (c : V) (cv : Value) (b : Bool) (dd : Addr) (fs : List (Str × V)), xs = [.ref a, c] ∧ ClsV c cv ∧ PySem.W.kitOne K (.ref D) cv = some b ∧ cls = .ref D ∧ d = some dd ∧ H dd = some (.xd fs) ∧ Q (.bl b) H
def rIsXT (K : PySem.W.Frag) (D a : Addr) (cls : Value) (d : Option Addr) : List V → Hp → VK → Prop := fun xs H Q => ∃ (tp : Addr) (cs : List V) (cvs : List Value) (b : Bool) (dd : Addr) (fs : List (Str × V)), xs = [.ref a, .ref tp] ∧ H tp = some (.tup cs) ∧ Paired ClsV cs cvs ∧ PySem.W.kitAny K (.ref D) cvs = some b ∧ cls = .ref D ∧ d = some dd ∧ H dd = some (.xd fs) ∧ Q (.bl b) H
section
variable {X : Cx} {a D : Addr} {oe : Obj} {cls : Value} {d : Option Addr} {pn : List (Addr × Obj)}
theorem call_isX (C : ExcC X.K D) (hz : Zc cls d oe) (hf : ∃ vs, oe.data = .fields vs) : CallR (X.suite a ((a, oe) :: pn)) (.builtin "isinstance") (rIsX X.K D a cls d) := by
  intro pins s σ H xs us Q I r h
  obtain ⟨c, cv, b, dd, fs, rfl, hcv, e, ec, ed, ea, q⟩ := h
  obtain ⟨u1, u2, rfl, r1, r2⟩ := vals2 r
  have e2 := hcv.eq r2
  subst e2
  obtain rfl : u1 = Value.ref a := r1
  obtain ⟨od, J⟩ := inst_x hz hf I ec ed ea
  exact PySem.W.kia_one (PySem.W.kitx_exc (exc_is C) C.hg C.hk C.hs C.ha C.hn C.ht C.hm) I.kIn J e (fun z => nomatch z) fun tk => ⟨.bl b, H, I.kept (t' := tk) fun _ _ z => z, rfl, q⟩
theorem call_isXT (C : ExcC X.K D) (hz : Zc cls d oe) (hf : ∃ vs, oe.data = .fields vs) : CallR (X.suite a ((a, oe) :: pn)) (.builtin "isinstance") (rIsXT X.K D a cls d) := by
  intro pins s σ H xs us Q I r h
  obtain ⟨tp, cs, cvs, b, dd, fs, rfl, hT, k, e, ec, ed, ea, q⟩ := h
  obtain ⟨u1, u2, rfl, r1, r2⟩ := vals2 r
  obtain rfl : u1 = Value.ref a := r1
  cases (show u2 = Value.ref tp from r2)
  obtain ⟨od, J⟩ := inst_x hz hf I ec ed ea
  obtain ⟨_, its, rv, o, h1, h2, n, h3⟩ := (show ObjOk X.prog X.w H s.heap tp (.tup cs) from I.hok tp _ hT)
  have e3 := ClsV.all k rv
  subst e3
  obtain ⟨oc, od2, dt, sl⟩ := o
  simp only at h2 h3
  subst h2 h3
  exact PySem.W.kia_tup (PySem.W.kitx_exc (exc_is C) C.hg C.hk C.hs C.ha C.hn C.ht C.hm) I.kIn J h1 e (fun z => nomatch z) fun tk => ⟨.bl b, H, I.kept (t' := tk) fun _ _ z => z, rfl, q⟩
end
/-- the method m that is found at C keeps sp -/
structure MetR (P : Program) (w : World) (K : PySem.W.Frag) (mg : Str → Option Value) (base : Heap) (C : Addr) (m : Str) (k : Nat) (sp : Sp) : Prop where
  ex : ∃ f fd ps, Cls K C ∧ Meth K C m f ∧ Binds K fd ps [] ∧ FnOk P w K mg base (L2.CX P w) k f fd ps sp
def tMtS (C : Addr) (m : Str) (sp : Sp) (E : L2.St → XK) (ta : TE) (t : TA) : TE := fun σ H Q => ta σ H fun x H1 => ∃ a dx fs, x = .ref a ∧ H1 a = some (.ins C dx fs) ∧ fs.lookup m = none ∧ t σ H1 fun vs H2 => sp (x :: vs) H2 Q (E σ)
theorem pe_mtS {X : Cx} {C : Addr} {m : Str} {j k : Nat} {sp : Sp} {W : WX} {o e : Expr} {es : List Expr} {ta : TE} {t : TA} {pos apos : Pos} {pl : Sem Bool} (D : MetR X.prog X.w X.K X.mg X.base C m k sp) (ho : PE X o ta) (hr : Room j X.A) (tk : Takes X W) (ha : PA X (e :: es) t) (hle : k ≤ j := by decide)
    (hst : starEach (e :: es) X.env = (false, eval e X.env) :: starEach es X.env := by rfl) (hpl : (backTo pos (starEach es X.env)).any (·.1) = false := by rfl)
    (ht : eval (.Call (.Attribute o m apos) (e :: es) [] pos) X.env = (do
      let ov ← eval o X.env
      standAt apos.atName
      let (f, first) ← holding [ov] (getMethod ov m pl)
      callWith pos f first (backTo pos (starEach (e :: es) X.env)) (backToKw pos (keywordEach [] X.env))) := by rfl) : PE X (.Call (.Attribute o m apos) (e :: es) [] pos) (tMtS C m sp (WE W) ta t) := by
  obtain ⟨f, fd, ps, c, hm, hb, F⟩ := D.ex
  refine ⟨fun pins s σ H Q I h => ?_⟩
  refine PySem.W.methodCall_KW (pl := pl) (thn (ho.run pins s σ H _ I h) fun u s1 ⟨x, H1, I1, rx, a, dx, fs, ex, ea, l, q⟩ => ?_) ht
  subst ex
  obtain rfl : u = Value.ref a := rx
  refine getmeth_ok I1 ea c hm l ?_
  refine PySem.W.callWith_K (first := [.ref a]) (h₀ := X.base) I.ok.mod.kin hm.kp (thn (ha.run pos pins s1 σ H1 _ I1 q) fun us s2 ⟨vs, H2, I2, r, q2⟩ => ⟨I2.kIn, ?_⟩) hst hpl
  exact run_fnS (E := WE W) (us := .ref a :: us) (vs := .ref a :: vs) F (hr.mono hle) hb (passAt tk σ) I2 (.cons rfl r) q2
end WC

set_option maxHeartbeats 4000000
namespace WC
open PySem PySem.Spec PyProof.Rows L2 ClX
/-! a classmethod called with thirty arguments or more -/
section
variable {X : Cx} {CX : CXT} {k : Nat} {C p g : Addr} {mc : Value} {sp : Sp} {E : XK} {o e : Expr} {es : List Expr} {f m : Str} {pos apos : Pos} {ta : TE} {t : TA}
theorem pe_cmethL (he : PE X o ta) (r : CRead X.K C mc) (c : CMet X.K C mc m p g) (F : FnR X.prog X.w X.K X.mg X.base CX k g sp) (hr : Room k X.A) (hx : Passes CX X E) (ha : PA X (e :: es) t)
    (hst : starEach (e :: es) X.env = (false, eval e X.env) :: starEach es X.env := by rfl) (hpl : (backTo pos (starEach es X.env)).any (·.1) = false := by rfl)
    (ht : eval (.Call (.Attribute o m apos) (e :: es) [] pos) X.env = (do
      let ov ← eval o X.env
      standAt apos.atName
      let (f, first) ← holding [ov] (do pure (← getAttr ov m true, ([] : List Value)))
      callWith pos f first (backTo pos (starEach (e :: es) X.env)) (backToKw pos (keywordEach [] X.env))) := by rfl) :
    PE X (.Call (.Attribute o m apos) (e :: es) [] pos) (tCMeth C sp E ta t) := by
  refine ⟨fun pins s σ H Q I h => ?_⟩
  show wpAny _ _ (eval (.Call (.Attribute o m apos) (e :: es) [] pos) X.env) _ _ _
  rw [ht]
  refine wpAny_bind (thn (he.run pins s σ H _ I h) fun u s1 ⟨x, H1, I1, rx, ex, q⟩ => ?_)
  subst ex
  obtain rfl : u = Value.ref C := rx
  refine wpAny_bind (wpAny_standAt (wpAny_bind (wpAny_holding (wpAny_bind (getcmet_ok I1 r c fun s2 I2 => wpAny_pure ?_)))))
  show wpAny _ _ (callWith pos (.ref s1.heap.objs.size) [] (backTo pos (starEach (e :: es) X.env)) []) _ _ _
  refine callwith_cm I2 (base_none I1 (Nat.le_refl _)) c.fi (thn (ha.run pos _ s2 σ H1 _ I2 q) fun us s3 ⟨vs, H2, I3, rv, q2⟩ => ⟨⟨pin_at I3, I3.kIn⟩, ?_⟩) hst hpl
  exact run_cm F hr hx I3 rv q2
end
end WC

set_option maxHeartbeats 4000000
namespace WC
open PySem PySem.Spec PyProof.Rows L2
/-! an own exception made outside a raise, and its field -/
def tNewO (C : Addr) (sp : Sp) (ta : TA) : TE := fun σ H Q => ta σ H fun vs H1 => vs.length ≤ 1000 ∧ ∀ a, H1 a = none → sp (.ref a :: vs) (upd H1 a (exo a C none)) (fun v H2 => v = .non ∧ Q (.ref a) H2) (fun _ _ _ => False)
section
variable {X : Cx} {x : Str} {C : Addr} {k j n : Nat} {fl : List V → List (Str × V)} {e : Expr} {es : List Expr} {ta : TA} {p pos : Pos}
theorem pe_oex {CX : CXT} {fI : Addr} {fd : FuncData} {ps : List Str} {sp : Sp} (T : OexC X.K C) (iC : PySem.W.findIn X.K (.ref C) "__init__" = some (some (.ref fI))) (tI : PySem.W.typeIn X.K (.ref fI) = some (.type "function"))
    (F1 : FnOk X.prog X.w X.K X.mg X.base CX k fI fd ps sp) (hr : Room (k + 1) X.A) (hb : Binds X.K fd ps []) (hx : Passes CX X (fun _ _ _ => False)) (hg : Gl X x) (hm : X.mg x = some (.ref C)) (ha : PA X (e :: es) ta)
    (hdb : (x == ("__debug__" : Str)) = false := by decide) (he : starEach (e :: es) X.env = (false, eval e X.env) :: starEach es X.env := by rfl) (hpl : (backTo pos (starEach es X.env)).any (·.1) = false := by rfl) :
    PE X (.Call (.Name x p) (e :: es) [] pos) (tNewO C sp ta) := by
  refine ⟨fun pins s σ H Q I h => ?_⟩
  obtain ⟨nm, q, N, bs, bm, sn, sub, ab, col, dd, k0, k1, k2, k3, k5, hC, hbm⟩ := T.cls
  refine wpAny_Call_Name_kw (ld_glob I hg hm ?_ hdb)
  refine PySem.W.callWith_K (h₀ := X.base) I.ok.mod.kin T.kC (thn (ha.run pos pins s σ H _ I h) fun us s1 ⟨vs, H1, I1, r1, hz, q1⟩ => ⟨I1.kIn, ?_⟩) he hpl
  show wpAny _ _ (call (.ref C) us) _ _ _
  obtain ⟨hp, g, dr, tk, os⟩ := s1
  have hsz : hp.objs.size ≤ hp.objs.size + 1 := Nat.le_succ _
  have hn : H1 (hp.objs.size + 1) = none := I1.hok.fresh hsz
  have hq := q1 (hp.objs.size + 1) hn
  have kk : ∀ b o, hp.get? b = some o → ((hp.push (PySem.W.kdv_tup us)).push (PySem.HandSPX.excO C hp.objs.size)).get? b = some o := fun b o e => Heap.get?_push_of_some _ (Heap.get?_push_of_some _ e)
  have hget : ((hp.push (PySem.W.kdv_tup us)).push (PySem.HandSPX.excO C hp.objs.size)).get? (hp.objs.size + 1) = some (PySem.HandSPX.excO C hp.objs.size) := by heap_get
  have I2 : Inv X pins σ (upd H1 (hp.objs.size + 1) (exo (hp.objs.size + 1) C none)) ⟨(hp.push (PySem.W.kdv_tup us)).push (PySem.HandSPX.excO C hp.objs.size), g, dr, tk, os⟩ :=
    I1.laid (t' := tk) (a := hp.objs.size + 1) (o := exo (hp.objs.size + 1) C none) (h' := (hp.push (PySem.W.kdv_tup us)).push (PySem.HandSPX.excO C hp.objs.size)) kk hsz (exo_ok hget)
  have r2 : Vals (V.ref (hp.objs.size + 1) :: vs) (Value.ref (hp.objs.size + 1) :: us) := .cons rfl r1
  have hl : (Value.ref (hp.objs.size + 1) :: us).length = ps.length := by
    have e := r2.length
    rw [F1.len _ _ _ _ hq] at e
    exact e.symm
  have hus : us.length ≤ sizeLine := by
    rw [← Paired.length r1, sizeLine_eq]
    omega
  have bnd := hb _ (Value.ref (hp.objs.size + 1) :: us) I2.kIn (by rw [List.append_nil]; exact hl)
  rw [List.append_nil] at bnd
  refine wpAny_call (PySem.HandSPX.call_own F.excBase_ValueError (fun Y => PySem.HandSPX.refsVE_contains Y bm hbm) (I1.kIn _ _ hC) (PySem.W.looks_findIn I1.kIn iC) (fun self => PySem.W.bind_fn I1.kIn self tI) hus
    (codeAny_mono (F1.run _ X.stack _ _ ⟨Value.ref (hp.objs.size + 1) :: us, []⟩ (Value.ref (hp.objs.size + 1) :: us) _ _ (fun _ _ _ => False) (hr.make C us []) (I2.env0.make C us []) bnd r2 hq) fun r s' hq' => ?_))
  cases r with
  | error er => exact hx pins σ _ _ er s' I2 hq'
  | ok fl =>
    cases fl with
    | ret u =>
      obtain ⟨v, H2, J, rv, ev, q2⟩ := I2.after hq'
      subst ev
      exact ⟨rv, .ref (hp.objs.size + 1), H2, J, rfl, q2⟩
    | next => exact False.elim hq'
    | brk => exact False.elim hq'
    | cont => exact False.elim hq'
theorem pe_newx (T : ExcR X.prog X.w X.K X.mg X.base x C k n fl) (hr : Room j X.A) (ha : PA X (e :: es) ta) (hle : k + 1 ≤ j := by decide) (hg : Gl X x := by rfl) (hdb : (x == ("__debug__" : Str)) = false := by decide)
    (he : starEach (e :: es) X.env = (false, eval e X.env) :: starEach es X.env := by rfl) (hpl : (backTo pos (starEach es X.env)).any (·.1) = false := by rfl) : PE X (.Call (.Name x p) (e :: es) [] pos) (tNewO C (spX C n fl) ta) := by
  obtain ⟨f, fd, ps, i1, i2, i3, F⟩ := T.ini
  exact pe_oex T.txt i1 i2 F (hr.mono hle) i3 passL hg T.gC ha hdb he hpl
def tXo (C : Addr) (f : Str) (te : TE) : TE := fun σ H Q => te σ H fun x H1 => ∃ (a d : Addr) (fs : List (Str × V)) (v : V), x = .ref a ∧ H1 a = some (exo a C (some d)) ∧ H1 d = some (exd d fs) ∧ fs.lookup f = some v ∧ Q v H1
theorem pe_xo {te : TE} {f : Str} (T : XfC X.K C) (hno : PySem.W.findIn X.K (.ref C) f = some none) (he : PE X e te) (hb : attributeBase e f X.env (eval e X.env) = eval e X.env := by rfl) : PE X (.Attribute e f pos) (tXo C f te) := by
  refine ⟨fun pins s σ H Q I h => ?_⟩
  refine attr_of hb (thn (he.run pins s σ H _ I h) fun u s1 hh => ?_)
  obtain ⟨x, H1, I1, rx, a, d, fs, v, ex, ea, ed, l, q⟩ := hh
  subst ex
  obtain rfl : u = Value.ref a := rx
  obtain ⟨⟨t1, ho⟩, _⟩ := (show ObjOk X.prog X.w H1 s1.heap a (exo a C (some d)) from I1.hok a _ ea)
  obtain ⟨⟨mA, hns, hr⟩, _⟩ := (show ObjOk X.prog X.w H1 s1.heap d (exd d fs) from I1.hok d _ ed)
  obtain ⟨od, hd, hl⟩ := lookIn_ns hns
  obtain ⟨u, hu, ru⟩ := RelO.some_of (v := v) (o := mA f) (by rw [← l]; exact hr f)
  have J : PySem.W.InstAt s1.heap a _ C (some od) := ⟨ho, rfl, rfl, hd⟩
  exact PySem.HandSPX.exc_get I1.kIn J T.ga T.gg T.exC (PySem.W.findObj_own T.hdC hno rfl (by rw [hl, hu])) (handed_of ru) ⟨v, H1, I1.tok _, ru, q⟩
end
end WC

set_option maxHeartbeats 4000000
namespace WC
open PySem PySem.Spec PyProof.Rows L2
/-! zip(x, y), each a list or a tuple -/
def SqX (K : PySem.W.Frag) (H : Hp) (k : Bool) (a : Addr) (xs : List V) : Prop := match k with
  | true => SqT K H a xs
  | false => SqL K H a xs
def IsX (h : Heap) (k : Bool) (l : Addr) (items : Array Value) : Prop := match k with
  | true => h.IsTuple l items
  | false => h.IsList l items
def ItX (h : Heap) (k : Bool) (it l : Addr) (i : Nat) : Prop := match k with
  | true => h.IsTupleIter it l i
  | false => h.IsListIter it l i
theorem begX (k : Bool) (l : Addr) (items : Array Value) : ∃ o, Begins (.ref l) o (fun h => IsX h k l items) ∧ ∀ h it, h.get? it = some o → ItX h k it l 0 := by
  cases k with
  | true => exact ⟨_, begins_tuple l items, fun h it e => ⟨_, e, rfl, rfl⟩⟩
  | false => exact ⟨_, begins_list l items, fun h it e => ⟨_, e, rfl, rfl⟩⟩
theorem drX {prog : Program} {w : World} {A : Around} (hh : A.handled = none) (k : Bool) (it l : Addr) (hne : l ≠ it) (items : Array Value) : Draws prog w A it [it, l] items.size (fun i v => items[i]? = some v) (fun i h => ItX h k it l i ∧ IsX h k l items) := by
  cases k with
  | true => exact Draws.tuple hh it l hne items
  | false => exact Draws.list hh it l hne items
theorem itx_at {h h2 : Heap} {k : Bool} {it l : Addr} {i : Nat} (x : ItX h k it l i) (e : ∀ o, h.get? it = some o → h2.get? it = some o) : ItX h2 k it l i := by
  cases k with
  | true => exact Heap.IsTupleIter.at x e
  | false => exact Heap.IsListIter.at x e
theorem itx_obj {h : Heap} {k : Bool} {it l : Addr} {i : Nat} (x : ItX h k it l i) : ∃ o, h.get? it = some o ∧ (∀ v, o.data ≠ .cell v) ∧ ∃ vs, o.data = .fields vs := by
  cases k with
  | true =>
    obtain ⟨o, e, _, d⟩ := x
    refine ⟨o, e, ?_, _, d⟩
    intro v q
    rw [d] at q
    cases q
  | false =>
    obtain ⟨o, e, _, d⟩ := x
    refine ⟨o, e, ?_, _, d⟩
    intro v q
    rw [d] at q
    cases q
theorem isx_ne {h : Heap} {k k2 : Bool} {a b it : Addr} {i : Nat} {items : Array Value} (x : IsX h k a items) (y : ItX h k2 it b i) : a ≠ it := fun z => by
  obtain ⟨o2, e2, _, vs, d2⟩ := itx_obj y
  cases k with
  | true =>
    obtain ⟨o1, q1, c1, _, d1⟩ := x
    rw [z, e2] at q1
    cases q1
    rw [d1] at d2
    cases d2
  | false =>
    obtain ⟨o1, q1, c1, _, d1⟩ := x
    rw [z, e2] at q1
    cases q1
    rw [d1] at d2
    cases d2
theorem sqx_is {X : Cx} {pins : List (Addr × Obj)} {σ : L2.St} {H : Hp} {s : Shared} {k : Bool} {a : Addr} {xs : List V} (I : Inv X pins σ H s) (q : SqX X.K H k a xs) : ∃ its : List Value, Vals xs its ∧ IsX s.heap k a its.toArray := by
  cases k with
  | true =>
    obtain ⟨its, rv, p, _⟩ := I.tuple q
    exact ⟨its, rv, p⟩
  | false =>
    obtain ⟨its, rv, p, _⟩ := I.list q
    exact ⟨its, rv, p.isList⟩
theorem sqx_inj {X : Cx} {pins : List (Addr × Obj)} {σ : L2.St} {H : Hp} {s : Shared} {k : Bool} {a : Addr} {xs ys : List V} (I : Inv X pins σ H s) (q : SqX X.K H k a xs) (r : SqX X.K H k a ys) : xs = ys := by
  cases k with
  | true => exact I.tuple_inj q r
  | false => exact I.list_inj q r
def ItzM (K : PySem.W.Frag) (k1 k2 : Bool) (a b : Addr) : It :=
  ⟨fun i H => ∃ (xs ys : List V) (x y : V), SqX K H k1 a xs ∧ SqX K H k2 b ys ∧ xs[i]? = some x ∧ ys[i]? = some y,
    fun i H v H' => ∃ T x y, v = .ref T ∧ H T = none ∧ H' = upd H T (.tup [x, y]) ∧ (∀ xs, SqX K H k1 a xs → xs[i]? = some x) ∧ ∀ ys, SqX K H k2 b ys → ys[i]? = some y,
    fun i H => ∃ xs ys : List V, SqX K H k1 a xs ∧ SqX K H k2 b ys ∧ i ≤ xs.length ∧ i ≤ ys.length ∧ (xs.length = i ∨ ys.length = i)⟩
structure ZpM (z TI TO i1 i2 a b : Addr) : Prop where
  s : ZipSep2 z TI TO i1 i2 [i1, a] [i2, b]
  n1 : a ≠ i1
  n2 : b ≠ i2
theorem turn_zipM {P : Program} {w : World} {K : PySem.W.Frag} {elts : List Expr} {kk : Nat} {tpos : Pos} {k1 k2 : Bool} {a b z TI TO i1 i2 : Addr} (D : ZpM z TI TO i1 i2 a b) :
    Turn P w K (.Tuple elts kk tpos) (ItzM K k1 k2 a b) [z, TI, TO, i1, i2] z (fun i h => IsZip h z TI TO .none ∧ IsTupOf2 h TI (.ref i1) (.ref i2) ∧ (∃ x y, IsTupOf2 h TO x y) ∧ ItX h k1 i1 a i ∧ ItX h k2 i2 b i) where
  mem := by simp
  obj := fun i h st c hc => by
    obtain ⟨hz, hTI, ⟨x, y, hTO⟩, h1, h2⟩ := st
    obtain ⟨o1, e1, d1, _⟩ := itx_obj h1
    obtain ⟨o2, e2, d2, _⟩ := itx_obj h2
    have e' : c = z ∨ c = TI ∨ c = TO ∨ c = i1 ∨ c = i2 := by simpa using hc
    rcases e' with q | q | q | q | q
    · rw [q]; exact ⟨_, hz, fun v q => nomatch q⟩
    · rw [q]; exact ⟨_, hTI, fun v q => nomatch q⟩
    · rw [q]; exact ⟨_, hTO, fun v q => nomatch q⟩
    · rw [q]; exact ⟨o1, e1, d1⟩
    · rw [q]; exact ⟨o2, e2, d2⟩
  keep := fun i h h' st k => by
    obtain ⟨hz, hTI, ⟨x, y, hTO⟩, h1, h2⟩ := st
    exact ⟨k z (by simp) _ hz, k TI (by simp) _ hTI, ⟨x, y, k TO (by simp) _ hTO⟩, itx_at h1 fun o q => k i1 (by simp) o q, itx_at h2 fun o q => k i2 (by simp) o q⟩
  item := by
    intro X hP hw hK hc i pins s σ H E I hf st hg
    subst hP hw hK
    obtain ⟨hz, hTI, ⟨x0, y0, hTO⟩, h1, h2⟩ := st
    obtain ⟨xs, ys, x, y, hqx, hqy, hx, hy⟩ := hg
    obtain ⟨its, rv, p⟩ := sqx_is I hqx
    obtain ⟨its2, rv2, p2⟩ := sqx_is I hqy
    obtain ⟨u, hu, ru⟩ := rv.get hx
    obtain ⟨u2, hu2, ru2⟩ := rv2.get hy
    have hzl : z < s.heap.objs.size := Heap.lt_size hz
    have S := D.s
    have hl1 : i < its.toArray.size := by have := (List.getElem?_eq_some_iff.mp hu).1; simpa using this
    have hl2 : i < its2.toArray.size := by have := (List.getElem?_eq_some_iff.mp hu2).1; simpa using this
    refine wpAny_pyNext_zipD2_item S (drX (A := X.A.in1) (I.ok.hd hc) k1 i1 a D.n1 its.toArray) (drX (A := X.A.in1) (I.ok.hd hc) k2 i2 b D.n2 its2.toArray) hz hTI hTO ⟨h1, p⟩ ⟨h2, p2⟩ hl1 hl2 fun v1 v2 h' tk e1 e2 z' TO' h1' h2' hT hsz hk => ?_
    have e1 : its[i]? = some v1 := by simpa using e1
    have e2 : its2[i]? = some v2 := by simpa using e2
    rw [hu] at e1
    rw [hu2] at e2
    cases e1
    cases e2
    refine ⟨_, rfl, wpAny_letOwnedTupleGo_zip (s := { s with heap := h', toks := tk }) z' fun h'' z'' sb => ?_⟩
    have hT2 : h''.get? s.heap.objs.size = some { cls := .type "tuple", data := .seq #[u, u2] } := (sb.2 _ (Nat.ne_of_gt hzl)).trans hT
    have new : ObjOk X.prog X.w (upd H s.heap.objs.size (.tup [x, y])) h'' s.heap.objs.size (.tup [x, y]) :=
      ⟨by show 2 ≤ sizeLine; decide, [u, u2], .cons ru (.cons ru2 .nil), ⟨_, hT2, rfl, _, rfl⟩⟩
    have I1 : Inv X pins σ (upd H s.heap.objs.size (.tup [x, y])) { s with heap := h'', toks := tk } :=
      I.turnedNew (t' := tk) (ch := [z, TI, TO, i1, i2]) (fun c o hb q => (sb.2 c (fun q' => hb (by simp [q']))).trans (hk c o (fun q' => hb (by simp [q'])) (fun q' => hb (by simp [q'])) (fun q' => hb (by simp [q'])) (fun q' => hb (by simp [q'])) q)) hf (Nat.le_refl _) new
    refine ⟨.ref s.heap.objs.size, _, I1, rfl, ⟨_, x, y, rfl, I.hok.fresh (Nat.le_refl _), rfl, fun l hl => by rw [sqx_inj I hl hqx]; exact hx, fun l hl => by rw [sqx_inj I hl hqy]; exact hy⟩, ⟨z'', ?_, ⟨u, u2, ?_⟩, ?_, ?_⟩, fun c hcm => ?_⟩
    · exact (sb.2 _ S.TIz).trans (hk _ _ S.TIz S.TITO S.TIi1 S.TIi2 hTI)
    · exact (sb.2 _ S.TOz).trans TO'
    · exact itx_at h1'.1 fun o q => (sb.2 _ (Ne.symm S.zi1)).trans q
    · exact itx_at h2'.1 fun o q => (sb.2 _ (Ne.symm S.zi2)).trans q
    · have hlt : c < s.heap.objs.size := by
        have e' : c = z ∨ c = TI ∨ c = TO ∨ c = i1 ∨ c = i2 := by simpa using hcm
        rcases e' with q | q | q | q | q
        · rw [q]; exact hzl
        · rw [q]; exact Heap.lt_size hTI
        · rw [q]; exact Heap.lt_size hTO
        · rw [q]; obtain ⟨_, e1, _⟩ := itx_obj h1; exact Heap.lt_size e1
        · rw [q]; obtain ⟨_, e2, _⟩ := itx_obj h2; exact Heap.lt_size e2
      rw [upd_ne (Nat.ne_of_lt hlt)]
      exact (hf c hcm).1
  done := by
    intro X hP hw hK hc i pins s σ H E I hf st hg
    subst hP hw hK
    obtain ⟨hz, hTI, ⟨x0, y0, hTO⟩, h1, h2⟩ := st
    obtain ⟨xs, ys, hqx, hqy, g1, g2, hend⟩ := hg
    obtain ⟨its, rv, p⟩ := sqx_is I hqx
    obtain ⟨its2, rv2, p2⟩ := sqx_is I hqy
    have l1 := rv.length
    have l2 := rv2.length
    refine wpAny_pyNext_zipD2_end D.s (drX (A := X.A.in1) (I.ok.hd hc) k1 i1 a D.n1 its.toArray) (drX (A := X.A.in1) (I.ok.hd hc) k2 i2 b D.n2 its2.toArray) hz hTI hTO ⟨h1, p⟩ ⟨h2, p2⟩ (by simp; omega) (by simp; omega) (by simp; omega) fun h' tk hk => ⟨rfl, I.turnedL (t' := tk) (ch := [z, TI, TO, i1, i2]) (fun c o hb q =>
      hk c o (fun q' => hb (by simp [q'])) (fun q' => hb (by simp [q'])) (fun q' => hb (by simp [q'])) (fun q' => hb (by simp [q'])) q) hf⟩
  self := fun A i s Q E st h => wpAny_pyIter_zip st.1 h
def iZipM (K : PySem.W.Frag) (ta : TA) : TI := fun σ H R => ta σ H fun vs H1 => ∃ a b xs ys k1 k2, vs = [.ref a, .ref b] ∧ SqX K H1 k1 a xs ∧ SqX K H1 k2 b ys ∧ R (ItzM K k1 k2 a b) H1
theorem isx_lt {h : Heap} {k : Bool} {a : Addr} {items : Array Value} (x : IsX h k a items) : a < h.objs.size := by
  cases k with
  | true => obtain ⟨o, e, _⟩ := x; exact Heap.lt_size e
  | false => obtain ⟨o, e, _⟩ := x; exact Heap.lt_size e
theorem pi_zipM {X : Cx} {e e2 : Expr} {ta : TA} {p pos tpos : Pos} {elts : List Expr} {kk : Nat} (hm : X.mg "zip" = none) (ha : PA X [e, e2] ta) (hg : Gl X "zip" := by rfl)
    (hs : starEach [e, e2] X.env = (false, eval e X.env) :: starEach [e2] X.env := by rfl) (hpl : (backTo pos (starEach [e2] X.env)).any (·.1) = false := by rfl) :
    PI X (.Tuple elts kk tpos) (.Call (.Name "zip" p) [e, e2] [] pos) (iZipM X.K ta) := by
  refine ⟨fun pins s σ H R I h => ?_⟩
  refine Call_ (ld_blt I hg hm PyProof.Rows.boot_zip (PyProof.Rows.callWith_type1 (thn (ha.run pos pins s σ H _ I h) fun us s1 ⟨vs, H1, I1, r1, q1⟩ => ?_) hs hpl))
  obtain ⟨a, b, xs, ys, k1, k2, ex, hqx, hqy, q⟩ := q1
  subst ex
  cases r1 with
  | cons r rr =>
    cases rr with
    | cons r' rr =>
      cases rr
      cases r
      cases r'
      obtain ⟨its, rv, p1⟩ := sqx_is I1 hqx
      obtain ⟨its2, rv2, p2⟩ := sqx_is I1 hqy
      obtain ⟨o1, B1, g1⟩ := begX k1 a its.toArray
      obtain ⟨o2, B2, g2⟩ := begX k2 b its2.toArray
      have l1 := isx_lt p1
      have l2 := isx_lt p2
      refine zip_begins2 B1 B2 p1 p2 fun h' hz hTI hTO ho1 ho2 hsz hk => wpAny_pyIter_zip hz ?_
      have I2 : Inv X pins σ H1 { s1 with heap := h' } := I1.kept (t' := s1.toks) hk
      have D : ZpM (s1.heap.objs.size + 4) (s1.heap.objs.size + 2) (s1.heap.objs.size + 3) s1.heap.objs.size (s1.heap.objs.size + 1) a b :=
        ⟨zip_sep2 (fun c hc => by rw [List.mem_singleton.mp hc]; exact l1) (fun c hc => by rw [List.mem_singleton.mp hc]; exact l2), Nat.ne_of_lt l1, Nat.ne_of_lt (Nat.lt_succ_of_lt l2)⟩
      refine ⟨s1.heap.objs.size + 4, [s1.heap.objs.size + 4, s1.heap.objs.size + 2, s1.heap.objs.size + 3, s1.heap.objs.size, s1.heap.objs.size + 1], _, _, H1, rfl, I2, turn_zipM D, ⟨hz, hTI, ⟨_, _, hTO⟩, g1 _ _ ho1, g2 _ _ ho2⟩, fun c hcm => ?_, q⟩
      have e' : c = s1.heap.objs.size + 4 ∨ c = s1.heap.objs.size + 2 ∨ c = s1.heap.objs.size + 3 ∨ c = s1.heap.objs.size ∨ c = s1.heap.objs.size + 1 := by simpa using hcm
      have hle : s1.heap.objs.size ≤ c := by
        rcases e' with z | z | z | z | z
        · rw [z]; exact Nat.le_add_right _ _
        · rw [z]; exact Nat.le_add_right _ _
        · rw [z]; exact Nat.le_add_right _ _
        · rw [z]; exact Nat.le_refl _
        · rw [z]; exact Nat.le_add_right _ _
      exact I1.fpOk hle (I1.hok.fresh hle)
theorem walk_zipM {K : PySem.W.Frag} {k1 k2 : Bool} {a b : Addr} {xs ys : List V} (hl : xs.length = ys.length) : Walk (ItzM K k1 k2 a b) xs.length (fun H => SqX K H k1 a xs ∧ SqX K H k2 b ys) (YPair (fun i => xs[i]?) (fun i => ys[i]?)) := by
  refine ⟨fun i _ hi q => ⟨xs, ys, xs[i], ys[i], q.1, q.2, by simp [hi], by simp [hl ▸ hi]⟩, fun _ q => ⟨xs, ys, q.1, q.2, Nat.le_refl _, by omega, .inl rfl⟩, fun i H v H2 _ q y => ?_⟩
  obtain ⟨T, x, z, h1, h2, h3, h4, h5⟩ := y
  exact ⟨T, x, z, h1, h2, h3, h4 xs q.1, h5 ys q.2⟩
/-- readings that name the written part -/
theorem c_isi {X : Cx} {K : PySem.W.Frag} (h : X.K = K := by rfl) : CallR X (.builtin "isinstance") (rIsi K) := by
  subst h
  exact call_isi
theorem c_lenS {X : Cx} {K : PySem.W.Frag} (h : X.K = K := by rfl) : CallR X (.builtin "len") (fun xs H Q => ∃ p ys, xs = [.ref p] ∧ (SqL K H p ys ∨ SqT K H p ys) ∧ Q (.int ys.length) H) := by
  subst h
  exact call_len_seq
end WC

set_option maxHeartbeats 4000000
namespace WC
open PySem PySem.Spec PyProof.Rows L2
/-! small rules -/
theorem pe_mtr {X : Cx} {C : Addr} {m : Str} {j k : Nat} {sp : Sp} {E : XK} {o e : Expr} {es : List Expr} {ta : TE} {t : TA} {pos apos : Pos} {pl : Sem Bool} (D : MetR X.prog X.w X.K X.mg X.base C m k sp) (ho : PE X o ta) (hr : Room j X.A) (hx : Passes (L2.CX X.prog X.w) X E) (ha : PA X (e :: es) t) (hle : k ≤ j := by decide)
    (hst : starEach (e :: es) X.env = (false, eval e X.env) :: starEach es X.env := by rfl) (hpl : (backTo pos (starEach es X.env)).any (·.1) = false := by rfl)
    (ht : eval (.Call (.Attribute o m apos) (e :: es) [] pos) X.env = (do
      let ov ← eval o X.env
      standAt apos.atName
      let (f, first) ← holding [ov] (getMethod ov m pl)
      callWith pos f first (backTo pos (starEach (e :: es) X.env)) (backToKw pos (keywordEach [] X.env))) := by rfl) : PE X (.Call (.Attribute o m apos) (e :: es) [] pos) (tMeth C m sp [] E ta t) := by
  obtain ⟨f, fd, ps, c, hm, hb, F⟩ := D.ex
  exact pe_meth (pl := pl) ho c hm F (hr.mono hle) hb .nil hx ha hst hpl ht
theorem pe_mtr0 {X : Cx} {C : Addr} {m : Str} {j k : Nat} {sp : Sp} {E : XK} {o : Expr} {ta : TE} {pos apos : Pos} {pl : Sem Bool} (D : MetR X.prog X.w X.K X.mg X.base C m k sp) (ho : PE X o ta) (hr : Room j X.A) (hx : Passes (L2.CX X.prog X.w) X E) (hle : k ≤ j := by decide)
    (ht : eval (.Call (.Attribute o m apos) [] [] pos) X.env = (do
      let ov ← eval o X.env
      standAt apos.atName
      let (f, first) ← holding [ov] (getMethod ov m pl)
      callWith pos f first (backTo pos (starEach [] X.env)) (backToKw pos (keywordEach [] X.env))) := by rfl) : PE X (.Call (.Attribute o m apos) [] [] pos) (tMeth C m sp [] E ta tNil) := by
  obtain ⟨f, fd, ps, c, hm, hb, F⟩ := D.ex
  exact pe_meth0 (pl := pl) ho c hm F (hr.mono hle) hb .nil hx ht
/-- C(*e) -/
def tMake1 (K : PySem.W.Frag) (C : Addr) (sp : Sp) (E : XK) (te : TE) : TE := fun σ H Q => te σ H fun y H1 => ∃ a xs, y = V.ref a ∧ (SqT K H1 a xs ∨ SqL K H1 a xs) ∧ ∀ x dx, H1 x = none → H1 dx = none → dx ≠ x →
  sp (V.ref x :: xs) (upd (upd H1 dx (.own x)) x (.ins C dx [])) (fun v H2 => v = .non ∧ Q (.ref x) H2) E
theorem pe_ccs1 {X : Cx} {j k : Nat} {C : Addr} {sp : Sp} {E : XK} {x : Str} {e : Expr} {te : TE} {p sp_ pos : Pos} (D : ClsR X.prog X.w X.K X.mg X.base C k sp) (hm : X.mg x = some (.ref C)) (hr : Room j X.A) (hx : Passes (L2.CX X.prog X.w) X E) (he : PE X e te) (hle : k + 1 ≤ j := by decide) (hg : Gl X x := by rfl) (hdb : (x == ("__debug__" : Str)) = false := by decide)
    (hst : starEach [.Starred e sp_] X.env = [(true, eval e X.env)] := by rfl) : PE X (.Call (.Name x p) [.Starred e sp_] [] pos) (tMake1 X.K C sp E te) := by
  obtain ⟨f, M, F⟩ := D.ex
  refine ⟨fun pins s σ H Q I h => ?_⟩
  refine wpAny_Call_Name_kw (ld_glob I hg hm ?_ hdb)
  refine PySem.W.callWith_S (h₀ := X.base) I.ok.mod.kin M.kp (thn (he.run pins s σ H _ I h) fun v s1 ⟨y, H1, I1, ry, a, xs, ey, hxs, q⟩ => ?_) hst
  subst ey
  obtain rfl : v = Value.ref a := ry
  exact StX.star_any I1 hxs fun us s2 I2 rv => ⟨I2.kIn, StX.run_makeR M F (hr.mono hle) hx I2 rv q⟩
theorem pe_cvalK {X : Cx} {K : PySem.W.Frag} {e : Expr} {ta : TE} {f : Str} {pos : Pos} (he : PE X e ta) (hb : attributeBase e f X.env (eval e X.env) = eval e X.env := by rfl) (h : X.K = K := by rfl) : PE X (.Attribute e f pos) (ClX.tCVal K ta f) := by
  subst h
  exact ClX.pe_cval he hb
theorem pi_revK {X : Cx} {K : PySem.W.Frag} {tg e : Expr} {te : TE} {p pos : Pos} (hm : X.mg "reversed" = none) (he : PE X e te) (hg : Gl X "reversed" := by rfl) (hs : starEach [e] X.env = (false, eval e X.env) :: starEach [] X.env := by rfl) (h : X.K = K := by rfl) : PI X tg (.Call (.Name "reversed" p) [e] [] pos) (RT.iRevA K te) := by
  subst h
  exact RT.pi_revA hg hm he hs
theorem i_seq {X : Cx} {K : PySem.W.Frag} (h : X.K = K := by rfl) : IxR X (rIx K) := by
  subst h
  exact ix_seq
theorem walk_revT {K : PySem.W.Frag} {a : Addr} {xs : List V} : Walk (RT.ItvT K a xs.length) xs.length (fun H => SqT K H a xs) (fun i H x H' => H' = H ∧ xs[xs.length - 1 - i]? = some x) := by
  refine ⟨fun i _ hi q => ⟨hi, xs, xs[xs.length - 1 - i]'(by omega), q, by rw [List.getElem?_eq_getElem]⟩, fun _ q => Nat.le_refl _, fun i H v H2 _ q y => ⟨y.1, y.2 xs q⟩⟩
/-- an own error leaves: its dict is new, all else stands -/
def ErrX (E : XK) (C : Addr) (H : Hp) (fs : List (Str × V)) : Prop := ∀ H2 d, Same H H2 → H d = none → H2 d = some (.xd fs) → E (.ref C) (some d) H2
theorem ErrX.on {E : XK} {C : Addr} {H H1 : Hp} {fs : List (Str × V)} (h : ErrX E C H fs) (s : Same H H1) : ErrX E C H1 fs := fun H2 d s2 hd e => h H2 d (s.trans s2) (s.free hd) e
theorem ErrX.new {E : XK} {C : Addr} {H : Hp} {fs : List (Str × V)} (h : ErrX E C H fs) : ∀ d, H d = none → E (.ref C) (some d) (upd H d (.xd fs)) := fun d hd => h _ d (Same.new hd) hd upd_same
theorem fld4_none {m : Str} {a b c d : V} (h1 : m ≠ "stages") (h2 : m ≠ "channels") (h3 : m ≠ "_incoming") (h4 : m ≠ "_outgoing") : List.lookup m [(("stages" : Str), a), (("channels" : Str), b), (("_incoming" : Str), c), (("_outgoing" : Str), d)] = none := by
  simp only [List.lookup_cons, beq_eq_false_iff_ne.mpr h1, beq_eq_false_iff_ne.mpr h2, beq_eq_false_iff_ne.mpr h3, beq_eq_false_iff_ne.mpr h4, List.lookup_nil]
theorem bt_bool : bootBuiltins "bool" = some (.type "bool") := by decide +kernel
theorem bt_reversed : bootBuiltins "reversed" = some (.type "reversed") := by decide +kernel
end WC

set_option maxHeartbeats 4000000
namespace WC
open PySem PySem.Spec PyProof.Rows L2
/-! an own exception without fields: X(), and isinstance of it -/
structure ExcN (K : PySem.W.Frag) (mg : Str → Option Value) (x : Str) (C : Addr) : Prop where
  ex : ∃ B newId initId bmB, ExcBaseFacts B newId initId bmB ∧ PySem.W.excIn K C bmB newId = true
  gC : mg x = some (.ref C)
  kC : PySem.W.keepIn K (.ref C) = true
  sub : PySem.W.subIn K (.ref C) (.type "BaseException") = some true
  ty : PySem.W.typeIn K (.ref C) = some (.type "type")
def ErrN (E : XK) (C : Addr) (H : Hp) : Prop := ∀ H2, Same H H2 → E (.ref C) none H2
theorem ErrN.on {E : XK} {C : Addr} {H H1 : Hp} (h : ErrN E C H) (s : Same H H1) : ErrN E C H1 := fun H2 s2 => h H2 (s.trans s2)
section
variable {X : Cx} {x : Str} {C : Addr} {p pos : Pos}
theorem pmk_n (T : ExcN X.K X.mg x C) (hg : Gl X x := by rfl) (hdb : (x == ("__debug__" : Str)) = false := by decide) : PMk X (.Call (.Name x p) [] [] pos) (fun _ H Q => Q (.ref C) none H) := by
  obtain ⟨B, newId, initId, bmB, F, q⟩ := T.ex
  intro pins s σ H Q I h
  refine wpAny_Call_Name_kw (ld_glob I hg T.gC ?_ hdb)
  refine PySem.W.callWith_K0 I.kIn T.kC ?_
  show wpAny _ _ (call (.ref C) []) _ _ _
  obtain ⟨bm, N, nm, qn, bs, hdct, sn, sub, ab, col, dd, k0, k1, k2, k3, k5, mN, hC, hN, hni, Z⟩ := exc_obj I.kIn q
  refine wpAny_call_exc_subT F Z hC hN hni (fun h' e hm => ?_) (Nat.zero_le _)
  exact mk_of I hm (raises_own T.sub T.ty) h (I.hok.gone hm.new)
end
def rIsN (K : PySem.W.Frag) (D a : Addr) (cls : Value) (d : Option Addr) : List V → Hp → VK → Prop := fun xs H Q => ∃ (c : V) (cv : Value) (b : Bool), xs = [.ref a, c] ∧ ClsV c cv ∧ PySem.W.kitOne K (.ref D) cv = some b ∧ cls = .ref D ∧ d = none ∧ Q (.bl b) H
def rIsNT (K : PySem.W.Frag) (D a : Addr) (cls : Value) (d : Option Addr) : List V → Hp → VK → Prop := fun xs H Q => ∃ (tp : Addr) (cs : List V) (cvs : List Value) (b : Bool), xs = [.ref a, .ref tp] ∧ H tp = some (.tup cs) ∧ Paired ClsV cs cvs ∧ PySem.W.kitAny K (.ref D) cvs = some b ∧ cls = .ref D ∧ d = none ∧ Q (.bl b) H
section
variable {X : Cx} {a D : Addr} {oe : Obj} {cls : Value} {d : Option Addr} {pn : List (Addr × Obj)}
theorem inst_n {pins : List (Addr × Obj)} {σ : L2.St} {H : Hp} {s : Shared} (hz : Zc cls d oe) (hf : ∃ vs, oe.data = .fields vs) (I : Inv (X.suite a ((a, oe) :: pn)) pins σ H s) (ec : cls = .ref D) (ed : d = none) : PySem.W.InstAt s.heap a oe D none := by
  subst ec ed
  obtain ⟨hget, _⟩ := I.pin (a, oe) (List.mem_append_left _ List.mem_cons_self)
  obtain ⟨vs, hv⟩ := hf
  obtain ⟨oc, od, oda, osl⟩ := oe
  obtain ⟨h1, h2⟩ := hz
  dsimp only at h1 h2 hv
  subst h1 h2 hv
  exact ⟨hget, rfl, rfl, trivial⟩
theorem call_isN (C : ExcC X.K D) (hz : Zc cls d oe) (hf : ∃ vs, oe.data = .fields vs) : CallR (X.suite a ((a, oe) :: pn)) (.builtin "isinstance") (rIsN X.K D a cls d) := by
  intro pins s σ H xs us Q I r h
  obtain ⟨c, cv, b, rfl, hcv, e, ec, ed, q⟩ := h
  obtain ⟨u1, u2, rfl, r1, r2⟩ := vals2 r
  have e2 := hcv.eq r2
  subst e2
  obtain rfl : u1 = Value.ref a := r1
  exact PySem.W.kia_one (PySem.W.kitx_exc (exc_is C) C.hg C.hk C.hs C.ha C.hn C.ht C.hm) I.kIn (inst_n hz hf I ec ed) e (fun z => nomatch z) fun tk => ⟨.bl b, H, I.kept (t' := tk) fun _ _ z => z, rfl, q⟩
theorem call_isNT (C : ExcC X.K D) (hz : Zc cls d oe) (hf : ∃ vs, oe.data = .fields vs) : CallR (X.suite a ((a, oe) :: pn)) (.builtin "isinstance") (rIsNT X.K D a cls d) := by
  intro pins s σ H xs us Q I r h
  obtain ⟨tp, cs, cvs, b, rfl, hT, k, e, ec, ed, q⟩ := h
  obtain ⟨u1, u2, rfl, r1, r2⟩ := vals2 r
  obtain rfl : u1 = Value.ref a := r1
  cases (show u2 = Value.ref tp from r2)
  obtain ⟨_, its, rv, o, h1, h2, n, h3⟩ := (show ObjOk X.prog X.w H s.heap tp (.tup cs) from I.hok tp _ hT)
  have e3 := ClsV.all k rv
  subst e3
  obtain ⟨oc, od2, dt, sl⟩ := o
  simp only at h2 h3
  subst h2 h3
  exact PySem.W.kia_tup (PySem.W.kitx_exc (exc_is C) C.hg C.hk C.hs C.ha C.hn C.ht C.hm) I.kIn (inst_n hz hf I ec ed) h1 e (fun z => nomatch z) fun tk => ⟨.bl b, H, I.kept (t' := tk) fun _ _ z => z, rfl, q⟩
end
/-- a tuple of texts at the top -/
structure TupG (K : PySem.W.Frag) (mg : Str → Option Value) (x : Str) (xs : List V) : Prop where
  ex : ∃ a, mg x = some (.ref a) ∧ ∀ H : Hp, SqT K H a xs
end WC

set_option maxHeartbeats 4000000
namespace WC
open PySem PySem.Spec PyProof.Rows L2 L2H HotX
/-! lists gone over, and comprehensions, while an exception is handled -/
section
variable {prog : Program} {w : World} {A : Around} {E : Value → Shared → Prop} {s : Shared}
/-- a list iterator's end there: its StopIteration gets the handled one as its context -/
theorem list_out_hot {it l x1 : Addr} {i : Nat} {items : Array Value} {Q : Option Value → Shared → Prop} (hot : HotAt A x1 s.heap) (hi : s.heap.IsListIter it l i) (hl : s.heap.IsList l items) (ho : items[i]? = none)
    (q : ∀ g : Heap, (∀ b o, b ≠ it → s.heap.get? b = some o → g.get? b = some o) → Q none { s with heap := g }) : wpAny (model prog w) A (pyNext (.ref it)) Q E s := by
  obtain ⟨hh, oH, vH, gH, dH, cH⟩ := hot
  obtain ⟨oi, gi_, ci, di⟩ := id hi
  obtain ⟨ol, gl, _, nl, dl⟩ := hl
  have x1it : x1 ≠ it := fun z => by
    rw [z, gi_] at gH
    cases gH
    rw [di] at dH
    cases dH
    cases cH
  unfold pyNext
  refine wpAny_bind (wpAny_attempt (wpAny_callSpecial?_slot (name := Str.ofString "__next__") hi.typeIs slot_listiter_next (wpAny_call_entry slot_listiter_next hi.typeIs entry_listiter_next ?_ (args_listiter_next _))))
  show wpAny _ _ (field (.ref it) 0 >>= _) _ _ _
  refine wpAny_bind (wpAny_field gi_ di (x := .ref l) rfl ?_)
  show wpAny _ _ (if (Value.ref l == Value.none) = true then _ else _) _ _ _
  rw [if_neg (by simp : ¬ (Value.ref l == Value.none) = true)]
  show wpAny _ _ (field (.ref it) 1 >>= _) _ _ _
  refine wpAny_bind (wpAny_field gi_ di (x := .int i 0) rfl ?_)
  show wpAny _ _ (seqItems? (.ref l) >>= _) _ _ _
  refine wpAny_bind (wpAny_seqItems gl dl ?_)
  simp only [Int.toNat_natCast, ho]
  refine wpAny_bind (wpAny_rule (wpAny_bind (wpAny_setField gi_ di (by simp) ?_)))
  show wpAny _ _ (newExc (.type "StopIteration") [] >>= _) _ _ _
  simp only [newExc, newTuple]
  refine wpAny_bind (wpAny_bind (wpAny_newObj_type ?_ (by size_fits)))
  refine wpAny_bind (m := firstArgMember _ _) (wpAny_of_eq (a := Value.none) (by first | rfl | (simp only [firstArgMember]; rfl)) ?_)
  refine wpAny_newObj_type ?_ (by size_fits)
  have st : ∀ {b : Addr} {o : Obj} {f : Obj → Obj} {u1 u2 : Obj}, b ≠ it → s.heap.get? b = some o → (((s.heap.update it f).push u1).push u2).get? b = some o := fun {b o f u1 u2} n e => Heap.get?_push_of_some _ (Heap.get?_push_of_some _ (by rw [Heap.get?_update_other _ _ (Ne.symm n)]; exact e))
  refine raiseNew_hot ⟨hh, oH, vH, st x1it gH, dH, cH⟩ (Nat.ne_of_lt (Heap.lt_size (Heap.get?_push_of_some _ (by rw [Heap.get?_update_other _ _ (Ne.symm x1it)]; exact gH)))) (Heap.get?_push_size _ rfl) rfl (by first | (simp; done) | (simp; omega)) ?_
  refine wpAny_bind (wpAny_isInstance (T := "StopIteration") (b := true) ⟨_, Heap.get?_update_self _ (Heap.get?_push_size _ rfl) rfl, rfl⟩ isSubtype_stop ?_)
  refine wpAny_pure (q _ fun b o n e => ?_)
  rw [Heap.get?_update_other _ _ (Nat.ne_of_gt (Heap.lt_size (Heap.get?_push_of_some _ (by rw [Heap.get?_update_other _ _ (Ne.symm n)]; exact e))))]
  exact st n e
end
theorem turn_listH {P : Program} {w : World} {K : PySem.W.Frag} {tg : Expr} (a it : Addr) : TurnH P w K tg (Itl K a) [it] it (fun i h => h.IsListIter it a i) where
  mem := (turn_list (P := P) (w := w) (K := K) (tg := tg) a it).mem
  obj := (turn_list (P := P) (w := w) (K := K) (tg := tg) a it).obj
  keep := (turn_list (P := P) (w := w) (K := K) (tg := tg) a it).keep
  item := by
    rintro X rfl rfl rfl hc i pins s σ H E I hf st ⟨xs, x, hq, hx⟩
    obtain ⟨its, rv, p, _⟩ := I.list hq
    obtain ⟨u, hu, ru⟩ := rv.get hx
    obtain ⟨f0, f1, f2, f3, f4, f5⟩ := hf it (List.mem_singleton.mpr rfl)
    refine wpAny_pyNext_list_item st p.isList (x := u) (by simpa using hu) fun g sg sb => ?_
    have J : Inv X pins σ H { s with heap := g } := I.turned (t' := s.toks) (fun b o nb eb => (sb.2 b nb).trans eb) f0 f1 f3 f4 f5
    obtain ⟨o, e, c, d⟩ := id sg
    exact ⟨u, rfl, go_of (s := { s with heap := g }) e c d (by decide) ⟨x, H, J, ru, ⟨rfl, fun ys hy => by rw [I.list_inj hy hq]; exact hx⟩, sg, fun b hb => (hf b hb).1⟩⟩
  done := by
    rintro X rfl rfl rfl hc i pins s σ H E I hf st ⟨xs, hq, hx⟩
    obtain ⟨its, rv, p, _⟩ := I.list hq
    obtain ⟨f0, f1, f2, f3, f4, f5⟩ := hf it (List.mem_singleton.mpr rfl)
    have hl := rv.length
    obtain ⟨x1, hot⟩ := hc.at I
    exact list_out_hot hot st p.isList (by simp; omega) fun g eg => ⟨rfl, I.turned (t' := s.toks) (fun b o nb eb => eg b o nb eb) f0 f1 f3 f4 f5⟩
  self := (turn_list (P := P) (w := w) (K := K) (tg := tg) a it).self
theorem pi_listH {X : Cx} {tg l : Expr} {tl : TE} (hl : PE X l tl) : PIH X tg l (iList X.K tl) := by
  refine ⟨fun pins s σ H R I h => thn (hl.run pins s σ H _ I h) fun v s1 ⟨x, H1, I1, r1, a, ex, ⟨xs, hq⟩, q⟩ => ?_⟩
  subst ex
  cases r1
  obtain ⟨its, rv, p, _⟩ := I1.list hq
  refine wpAny_pyIter_list p.isList ⟨s1.heap.objs.size, [s1.heap.objs.size], _, _, H1, rfl, I1.kept (t' := s1.toks) fun b o e => Heap.get?_push_of_some _ e, turn_listH a _, ⟨_, Heap.get?_push_size _ rfl, rfl, rfl⟩, fun b hb => ?_, q⟩
  rw [List.mem_singleton.mp hb]
  exact I1.fpOk (Nat.le_refl _) (I1.hok.fresh (Nat.le_refl _))
end WC

set_option maxHeartbeats 4000000
namespace WC
open PySem PySem.Spec PyProof.Rows L2 L2H HotX
/-- a comprehension while an exception is handled: its block keeps the handled one among the pins -/
theorem pe_lcH {X : Cx} {elt tg iter : Expr} {ifs : List Expr} {scope : Scope} {own : List (Str × Nat)} {pos : Pos} {wi : TI} {g : TG} {tt : TT} {te : TE} (hc : HotC X) (hN : X.N.Nodup) (hi : PIH X tg iter wi) (ok : BlkOk X.N X.env.scope scope own)
    (hg : ∀ (s0 : Shared) (G : Hp) (C : Addr) (cl : List (Str × Addr)) (ip : List Addr), PG (X.blk s0 G scope (compEnvC scope cl C X.env) ip) tg g) (ht : ∀ (s0 : Shared) (G : Hp) (C : Addr) (cl : List (Str × Addr)) (ip : List Addr), PTs (X.blk s0 G scope (compEnvC scope cl C X.env) ip) ifs tt)
    (he : ∀ (s0 : Shared) (G : Hp) (C : Addr) (cl : List (Str × Addr)) (ip : List Addr), PE (X.blk s0 G scope (compEnvC scope cl C X.env) ip) elt te) (hs : ∀ x, foldedSetIterable iter X.env x = pure x := by intro _; rfl) :
    PE X (.ListComp elt [⟨tg, iter, ifs, 0⟩] scope pos) (tLc wi g tt te (own.map (·.2))) := by
  refine ⟨fun pins s σ H Q I h => ?_⟩
  rw [eval_ListComp]
  obtain ⟨p, hot, hp⟩ := hc
  have fr : ∀ y ∈ scope.names, y.2 = .free → ∃ c, X.env.cells.lookup y.1 = some c := fun y hy e => (ok.free y hy e).elim (fun k => I.ok.has _ (.inl k)) (fun k => I.ok.has _ (.inr k))
  refine wpAny_comprehension_free (use := none) rfl hs (closure_ok fr) ok.kind (fun y hy e => by rw [ok.uniq y hy, e]) (thn (hi.run pins s σ H _ I h) fun _ sA hx => thn hx fun _ sB hB => ?_)
  obtain ⟨it, ip, tn, J, HB, rfl, IB, T, tB, fB, q⟩ := hB
  refine wpAny_newObj_type (newEnv_comp ?_) (Nat.zero_le _)
  obtain ⟨D, eD⟩ : ∃ D, D = sB.heap.objs.size := ⟨_, rfl⟩
  rw [← eD]
  obtain ⟨W, ⟨m0, w0⟩, turn⟩ := q D (IB.hok.fresh (Nat.le_of_eq eD.symm))
  obtain ⟨sC, eC⟩ : ∃ sC : Shared, sC = { sB with heap := sB.heap.push { cls := .type "list", data := .seq ([] : List Value).toArray } } := ⟨_, rfl⟩
  have pC : sC.heap = sB.heap.push { cls := .type "list", data := .seq ([] : List Value).toArray } := by rw [eC]
  have IC : Inv X pins σ (upd HB D (.lst [])) sC := by
    rw [eC]
    exact IB.laid (t' := sB.toks) (fun b o e => Heap.get?_push_of_some _ e) (Nat.le_of_eq eD.symm) ⟨Nat.zero_le _, [], 0, .nil, by rw [eD]; exact Heap.get?_push_size _ rfl⟩
  have low : ∀ b ∈ ip, b < D := fun b hb => by
    obtain ⟨o, e, _⟩ := T.obj _ _ tB b hb
    rw [eD]
    exact Heap.lt_size e
  have fC : ∀ b ∈ ip, FpOk X pins (upd HB D (.lst [])) b ∧ b < sC.heap.objs.size := fun b hb => by
    refine ⟨⟨by rw [upd_ne (Nat.ne_of_lt (low b hb))]; exact (fB b hb).1, (fB b hb).2⟩, ?_⟩
    rw [pC, Heap.size_push, ← eD]
    exact Nat.lt_succ_of_lt (low b hb)
  have tC : tn 0 sC.heap := T.keep _ _ _ tB fun b _ o e => by rw [pC]; exact Heap.get?_push_of_some _ e
  have ID := block_start IC ok hN fC
  have kg := hg sC (upd HB D (.lst [])) sC.heap.objs.size (cellsFrom (sC.heap.objs.size + 1) scope.names (cloFrom X.env.cells scope.names [])) ip
  have kt := ht sC (upd HB D (.lst [])) sC.heap.objs.size (cellsFrom (sC.heap.objs.size + 1) scope.names (cloFrom X.env.cells scope.names [])) ip
  have ke := he sC (upd HB D (.lst [])) sC.heap.objs.size (cellsFrom (sC.heap.objs.size + 1) scope.names (cloFrom X.env.cells scope.names [])) ip
  -- the handled exception's object
  have hpC := IC.pin p (List.mem_append_left _ hp)
  have pFs : p.1 ∉ frs X.stack := fun hm => (List.mem_cons.mp (IC.stkSub p.1 hm)).elim hpC.2.2.1 hpC.2.2.2.1
  have pIp : ∀ b ∈ ip, p.1 ≠ b := fun b hb => (fC b hb).1.2.2.2.2.2 p (List.mem_append_left _ hp)
  rw [← eC]
  show codeAny _ _ (.compStart (.ListComp elt [⟨tg, iter, ifs, 0⟩] scope pos) 0 (.ref it) (.ref D) (compEnvC scope (cellsFrom (sC.heap.objs.size + 1) scope.names (cloFrom X.env.cells scope.names [])) sC.heap.objs.size X.env)) (compPost (model X.prog X.w) X.A X.xe none (EP X pins σ Q) (.ref D) sC.heap.objs.size) { sC with heap := pushCells (sC.heap.push { cls := .type "dict", data := .dict #[] }) scope.names }
  obtain ⟨ce, ece⟩ : ∃ ce, ce = compEnvC scope (cellsFrom (sC.heap.objs.size + 1) scope.names (cloFrom X.env.cells scope.names [])) sC.heap.objs.size X.env := ⟨_, rfl⟩
  have ceL : ce.locals = sC.heap.objs.size := by rw [ece]; rfl
  obtain ⟨HC, eHC⟩ : ∃ HC, HC = upd HB D (.lst []) := ⟨_, rfl⟩
  obtain ⟨sD, eSD⟩ : ∃ sD : Shared, sD = { sC with heap := pushCells (sC.heap.push { cls := .type "dict", data := .dict #[] }) scope.names } := ⟨_, rfl⟩
  rw [← ece, ← eHC] at kg kt ke
  rw [← ece, ← eHC, ← eSD] at ID
  rw [← eHC] at IC fC w0 hpC
  rw [← ece, ← eSD]
  have kp : ∀ {b : Addr} {o : Obj}, sC.heap.get? b = some o → sD.heap.get? b = some o := fun {b o} e => by rw [eSD]; exact pushCells_keeps _ _ _ _ (Heap.get?_push_of_some _ e)
  have tD : tn 0 sD.heap := T.keep _ _ _ tC fun b _ o e => kp e
  -- the block with the handled exception among its own pins
  obtain ⟨Y, eY⟩ : ∃ Y : Cx, Y = { X.blk sC HC scope ce ip with pn := [p] } := ⟨_, rfl⟩
  have toY : ∀ {ps : List (Addr × Obj)} {τ : L2.St} {G : Hp} {s' : Shared}, Inv (X.blk sC HC scope ce ip) (p :: ps) τ G s' → Inv Y ps τ G s' := fun {ps τ G s'} Z => by
    rw [eY]
    exact ⟨⟨Z.ok.mod, Z.ok.kind, Z.ok.glob, Z.ok.blt, Z.ok.above, Z.ok.inj, Z.ok.has, Z.ok.cab, Z.ok.hd, Z.ok.frames, Z.ok.stk, Z.ok.exf, Z.ok.bs, Z.ok.bsz, Z.ok.noex, Z.ok.exfs, Z.ok.funs, Z.ok.frf⟩, Z.os, Z.bare, Z.base, Z.loc, Z.cell, Z.free, Z.freeC, Z.pin, Z.hok, Z.len⟩
  have ofY : ∀ {ps : List (Addr × Obj)} {τ : L2.St} {G : Hp} {s' : Shared}, Inv Y ps τ G s' → Inv (X.blk sC HC scope ce ip) (p :: ps) τ G s' := fun {ps τ G s'} Z => by
    rw [eY] at Z
    exact ⟨⟨Z.ok.mod, Z.ok.kind, Z.ok.glob, Z.ok.blt, Z.ok.above, Z.ok.inj, Z.ok.has, Z.ok.cab, Z.ok.hd, Z.ok.frames, Z.ok.stk, Z.ok.exf, Z.ok.bs, Z.ok.bsz, Z.ok.noex, Z.ok.exfs, Z.ok.funs, Z.ok.frf⟩, Z.os, Z.bare, Z.base, Z.loc, Z.cell, Z.free, Z.freeC, Z.pin, Z.hok, Z.len⟩
  have hotY : HotC Y := by
    rw [eY]
    exact ⟨p, hot, List.mem_singleton.mpr rfl⟩
  have I0 : Inv (X.blk sC HC scope ce ip) [p] (wipe σ (own.map (·.2))) HC sD := ⟨ID.ok, ID.os, ID.bare, ID.base, ID.loc, ID.cell, ID.free, ID.freeC, fun z hz => by
    have ez : z = p := by
      rcases List.mem_append.mp hz with m | m
      · cases m
      · exact List.mem_singleton.mp m
    subst ez
    refine ⟨kp hpC.1, hpC.2.1, ?_, pFs, hpC.2.2.2.2⟩
    show z.1 ≠ ce.locals
    rw [ceL]
    exact Nat.ne_of_lt (Heap.lt_size hpC.1), ID.hok, ID.len⟩
  have okF : ∀ {τ : L2.St} {G : Hp} {s' : Shared}, Inv (X.blk sC HC scope ce ip) [p] τ G s' → (∀ b ∈ ip, G b = none) → ∀ b ∈ ip, FpOk Y [] G b := fun {τ G s'} Z zn b hb => by
    rw [eY]
    exact ⟨zn b hb, (Z.ok.exf b hb).1, Z.ok.exfs b hb, .inl hb, fun x c e => (Z.ok.exf b hb).2 x c e, fun z hz => by
      rcases List.mem_append.mp hz with m | m
      · rw [List.mem_singleton.mp m]; exact pIp b hb
      · cases m⟩
  have TY : TurnH Y.prog Y.w Y.K tg J ip it tn := by
    rw [eY]
    exact T
  have YA : Y.A = X.A := by rw [eY]
  have Ym : Y.prog = X.prog ∧ Y.w = X.w ∧ Y.K = X.K := by rw [eY]; exact ⟨rfl, rfl, rfl⟩
  have loop : codeAny (model X.prog X.w) X.A (.compLoop (.ListComp elt [⟨tg, iter, ifs, 0⟩] scope pos) 0 (.ref it) (.ref D) ce) (compPost (model X.prog X.w) X.A X.xe none (EP X pins σ Q) (.ref D) sC.heap.objs.size) sD := by
    refine compLoop_any (fun m s' => ∃ i G, Inv (X.blk sC HC scope ce ip) [p] (wipe σ (own.map (·.2))) G s' ∧ tn i s'.heap ∧ (∀ b ∈ ip, G b = none) ∧ W i m G) ?_ m0 ⟨0, HC, I0, tD, fun b hb => (fC b hb).1.1, w0⟩
    rintro m s5 ⟨i, G5, I5, t5, n5, w5⟩
    rcases turn i m G5 w5 with ⟨stop, qq⟩ | ⟨go, Nx, hNx, step⟩
    · have td := T.done Y Ym.1 Ym.2.1 Ym.2.2 hotY i [] s5 _ G5 (fun _ _ => False) (toY I5) (okF I5 n5) t5 stop
      rw [YA] at td
      refine thnF td fun r s6 ⟨er, J6⟩ => ?_
      subst er
      have I6 := ofY J6
      have I7 : Inv X pins σ G5 s6 := IC.call' (ch := ip) I6.os I6.base I6.hok I6.bare fun b hb => ⟨(fC b hb).1.2.2.2.1, (fC b hb).1.2.1, (fC b hb).1.2.2.2.2.1, (fC b hb).1.2.2.2.2.2⟩
      have nC : G5 sC.heap.objs.size = none := by
        rw [← ceL]
        exact I6.free
      obtain ⟨mm, hn, _⟩ := I6.loc
      have hn : s6.heap.Ns sC.heap.objs.size mm := by rw [← ceL]; exact hn
      obtain ⟨f0, f1, f2, f3, f4, f5⟩ := IC.fpOk (Nat.le_refl _) nC
      exact ⟨mm, hn, fun h'' sb => ⟨.ref D, G5, I7.turned (t' := s6.toks) (fun b o hb e => (sb.2 b hb).trans e) f0 f1 f3 f4 f5, rfl, qq⟩⟩
    · have tv := T.item Y Ym.1 Ym.2.1 Ym.2.2 hotY i [] s5 _ G5 (fun _ _ => False) (toY I5) (okF I5 n5) t5 go
      rw [YA] at tv
      refine thnF tv fun r s6 ⟨u, er, h6⟩ => ?_
      subst er
      refine thnF h6 fun _ s7 ⟨x, G7, J7, r7, y7, t7, n7⟩ => ?_
      have I7 := ofY ((J7).pinned (okF (ofY J7) n7) (T.obj _ _ t7))
      refine thnF (kg.run _ s7 _ G7 x u _ I7 r7 (step x G7 y7)) fun _ s8 ⟨τ8, G8, I8, hw8, q8⟩ => ?_
      refine thnF (kt.run _ s8 τ8 G8 _ I8 q8) fun b s9 ⟨G9, I9, q9⟩ => ?_
      have close : ∀ {s' : Shared} {G' : Hp}, Inv (X.blk sC HC scope ce ip) (p :: ([] ++ pinsAt ip s7.heap)) τ8 G' s' → Nx G' → ∃ m', m' < m ∧ ∃ i G, Inv (X.blk sC HC scope ce ip) [p] (wipe σ (own.map (·.2))) G s' ∧ tn i s'.heap ∧ (∀ b ∈ ip, G b = none) ∧ W i m' G := fun {s' G'} Z nx => by
        obtain ⟨m', lt, w'⟩ := hNx G' nx
        have at_ : ∀ b ∈ ip, ∀ o, s7.heap.get? b = some o → s'.heap.get? b = some o ∧ G' b = none := fun b hb o e =>
          ⟨(Z.pin (b, o) (List.mem_append_right _ (List.mem_cons_of_mem _ (List.mem_append_right _ (mem_pinsAt hb e))))).1, (Z.pin (b, o) (List.mem_append_right _ (List.mem_cons_of_mem _ (List.mem_append_right _ (mem_pinsAt hb e))))).2.1⟩
        have Z1 : Inv (X.blk sC HC scope ce ip) ([p] ++ pinsAt ip s7.heap) τ8 G' s' := Z
        refine ⟨m', lt, i + 1, G', (Z1.unpinned (pins := [p])).weak (by rw [← hw8, wipe_length]) (fun j v e => ?_), T.keep _ _ _ t7 fun b hb o e => (at_ b hb o e).1, fun b hb => ?_, w'⟩
        · rw [← hw8] at e
          exact (wipe_some e).1
        · obtain ⟨o, e, _⟩ := T.obj _ _ t7 b hb
          exact (at_ b hb o e).2
      cases b with
      | false => exact close I9 q9
      | true =>
        simp only [if_true] at q9 ⊢
        refine thnF (ke.run _ s9 τ8 G9 _ I9 q9) fun z sX ⟨yv, GX, IX, rX, acc, dX, lX, nx⟩ => ?_
        exact app_ok (X := X.blk sC HC scope ce ip) IX dX lX rX fun sY IY => close IY nx
  exact codeAny_compStart_list loop (T.self X.A 0 _ _ _ tD loop)
end WC

set_option maxHeartbeats 4000000
namespace WC
open PySem PySem.Spec PyProof.Rows L2 L2H HotX
/-! errors that are known to have no context (L2N), and defs called while one of them is handled -/
theorem okN {P : Program} {w : World} {K : PySem.W.Frag} {mg : Str → Option Value} {base : Heap} {x qual : Str} {st : Stmt} {f : Addr} {fd : FuncData} {N ps : List Str} {k : Nat} {sp : Sp} (F : Fun K x qual st f fd) (S : FnScope N ps (defScope st)) (len : ∀ vs H Q E, sp vs H Q E → vs.length = ps.length)
    (body : ∀ (cdv : Value) (A : Around) (outer : List Env) (s : Shared) (H : Hp) (vs : List V) (Q : VK) (E : XK), Room k (A.deeper (envOfC qual (defScope st) s.heap.objs.size f cdv)) → sp vs H Q E →
      ∃ t, PSs (cxOf (L2N.CX P w) P w K mg base N qual (defScope st) f cdv A outer s H E) (defBody st) t ∧ t { nx := fun _ H' => Q .non H', rt := Q } (start N vs) H) : FnOk P w K mg base (L2N.CX P w) (k + 1) f fd ps sp := by
  obtain ⟨oc, od, kV, doc, pm, an, cdv, ct, osl, rfl, lk, hcd⟩ := F.ex
  exact fn_of lk hcd S len fun A outer s H vs Q E hr hsp => body cdv A outer s H vs Q E hr hsp
theorem okH {P : Program} {w : World} {K : PySem.W.Frag} {mg : Str → Option Value} {base : Heap} {x qual : Str} {st : Stmt} {f : Addr} {fd : FuncData} {N ps : List Str} {k : Nat} {sp : Sp} (F : Fun K x qual st f fd) (S : FnScope N ps (defScope st)) (len : ∀ vs H Q E, sp vs H Q E → vs.length = ps.length)
    (body : ∀ (cdv : Value) (A : Around) (outer : List Env) (s : Shared) (H : Hp) (vs : List V) (Q : VK) (E : XK) (p : Addr × Obj), RoomH k (A.deeper (envOfC qual (defScope st) s.heap.objs.size f cdv)) → HotC (cxH (L2.CX P w) P w K mg base N qual (defScope st) f cdv A outer s H E p) → sp vs H Q E →
      ∃ t, PSs (cxH (L2.CX P w) P w K mg base N qual (defScope st) f cdv A outer s H E p) (defBody st) t ∧ t { nx := fun _ H' => Q .non H', rt := Q } (start N vs) H) : FnH P w K mg base (L2.CX P w) (k + 1) f fd ps sp := by
  obtain ⟨oc, od, kV, doc, pm, an, cdv, ct, osl, rfl, lk, hcd⟩ := F.ex
  exact fn_ofH lk hcd S len fun A outer s H vs Q E p hot hr hsp => body cdv A outer s H vs Q E p hr ⟨p, hot, List.mem_singleton.mpr rfl⟩ hsp
/-- a def of the module that lets out errors without context -/
structure DefN (P : Program) (w : World) (K : PySem.W.Frag) (mg : Str → Option Value) (base : Heap) (x : Str) (k : Nat) (sp : Sp) : Prop where
  ex : ∃ f, mg x = some (.ref f) ∧ PySem.W.keepIn K (.ref f) = true ∧ FnR P w K mg base (L2N.CX P w) k f sp
/-- a def of the module as it runs while an error is handled -/
structure DefH (P : Program) (w : World) (K : PySem.W.Frag) (mg : Str → Option Value) (base : Heap) (x : Str) (k : Nat) (sp : Sp) : Prop where
  ex : ∃ f fd ps, mg x = some (.ref f) ∧ PySem.W.keepIn K (.ref f) = true ∧ Binds K fd ps [] ∧ FnH P w K mg base (L2.CX P w) k f fd ps sp
section
variable {X : Cx} {j k n : Nat} {sp : Sp} {W : WX} {C : Addr} {x : Str} {e : Expr} {es : List Expr} {t ta : TA} {p pos : Pos} {fl : List V → List (Str × V)}
theorem pe_cdN (D : DefN X.prog X.w X.K X.mg X.base x k sp) (hr : Room j X.A) (tk : L2N.Takes X W) (ha : PA X (e :: es) t) (hle : k ≤ j := by decide) (hg : Gl X x := by rfl) (hdb : (x == ("__debug__" : Str)) = false := by decide)
    (he : starEach (e :: es) X.env = (false, eval e X.env) :: starEach es X.env := by rfl) (hpl : (backTo pos (starEach es X.env)).any (·.1) = false := by rfl) : PE X (.Call (.Name x p) (e :: es) [] pos) (fun σ H Q => t σ H fun vs H1 => sp vs H1 Q (WE W σ)) := by
  obtain ⟨f, hm, hk, F⟩ := D.ex
  refine ⟨fun pins s σ H Q I h => wpAny_Call_Name_kw (ld_glob I hg hm ?_ hdb)⟩
  refine PySem.W.callWith_K (h₀ := X.base) I.ok.mod.kin hk (thn (ha.run pos pins s σ H _ I h) fun us s1 ⟨vs, H1, I1, r, q⟩ => ⟨I1.kIn, wpAny_call ?_⟩) he hpl
  refine codeAny_mono (F X.A X.stack s1 H1 us vs Q (WE W σ) (hr.mono hle) I1.env0 r q) fun rr s' hq => ?_
  match rr, hq with
  | .error er, hq => exact tk er s' (L2N.XE.of_call I1 (fun _ _ _ z => z) hq)
  | .ok (.ret u), hq => exact I1.after hq
  | .ok .next, hq => exact False.elim hq
  | .ok .brk, hq => exact False.elim hq
  | .ok .cont, hq => exact False.elim hq
theorem pe_cdH (D : DefH X.prog X.w X.K X.mg X.base x k sp) (hr : RoomH j X.A) (hc : HotC X) (ha : PA X (e :: es) t) (hle : k ≤ j := by decide) (hg : Gl X x := by rfl) (hdb : (x == ("__debug__" : Str)) = false := by decide)
    (he : starEach (e :: es) X.env = (false, eval e X.env) :: starEach es X.env := by rfl) (hpl : (backTo pos (starEach es X.env)).any (·.1) = false := by rfl) : PE X (.Call (.Name x p) (e :: es) [] pos) (tCallS sp (fun _ => E0) t) := by
  obtain ⟨f, fd, ps, hm, hk, hb, F⟩ := D.ex
  exact pe_callH F (hr.mono hle) hc hg hm hk hb (fun σ pins H s er s' I c => passL pins σ H s er s' I c) ha hdb he hpl
/-- an own exception with fields, raised where none is handled: it has no context -/
theorem pmk_xN (T : ExcR X.prog X.w X.K X.mg X.base x C k n fl) (hr : Room j X.A) (ha : PA X (e :: es) ta) (hle : k + 1 ≤ j := by decide) (hg : Gl X x := by rfl) (hdb : (x == ("__debug__" : Str)) = false := by decide)
    (he : starEach (e :: es) X.env = (false, eval e X.env) :: starEach es X.env := by rfl) (hpl : (backTo pos (starEach es X.env)).any (·.1) = false := by rfl) : L2N.PMk X (.Call (.Name x p) (e :: es) [] pos) (tMkO C (spX C n fl) [] ta) := by
  obtain ⟨fI, fd, ps, iC, tI, hb, F1⟩ := T.ini
  have Z := T.txt
  have hr := hr.mono hle
  intro pins s σ H Q I h
  obtain ⟨nm, qn, N, bs, bm, sn, sub, ab, col, dd, k0, k1, k2, k3, k5, hC, hbm⟩ := Z.cls
  refine wpAny_Call_Name_kw (ld_glob I hg T.gC ?_ hdb)
  refine PySem.W.callWith_K (h₀ := X.base) I.ok.mod.kin Z.kC (thn (ha.run pos pins s σ H _ I h) fun us ⟨hp, g, dr, tk, os⟩ ⟨vs, H1, I1, r1, hz, q1⟩ => ⟨I1.kIn, ?_⟩) he hpl
  show wpAny _ _ (call (.ref C) us) _ _ _
  have up : hp.objs.size ≤ hp.objs.size + 1 := Nat.le_succ _
  have hn : H1 (hp.objs.size + 1) = none := I1.hok.fresh up
  have hq := q1 (hp.objs.size + 1) hn
  rw [List.append_nil] at hq
  obtain ⟨g2, eg2⟩ : ∃ g2 : Heap, g2 = (hp.push (PySem.W.kdv_tup us)).push (PySem.HandSPX.excO C hp.objs.size) := ⟨_, rfl⟩
  have kk : ∀ b o, hp.get? b = some o → g2.get? b = some o := fun b o e => by rw [eg2]; exact Heap.get?_push_of_some _ (Heap.get?_push_of_some _ e)
  have at_ : g2.get? (hp.objs.size + 1) = some (PySem.HandSPX.excO C hp.objs.size) := by
    rw [eg2]
    heap_get
  have I2 : Inv X pins σ (upd H1 (hp.objs.size + 1) (exo (hp.objs.size + 1) C none)) ⟨g2, g, dr, tk, os⟩ := I1.laid (t' := tk) (a := hp.objs.size + 1) (o := exo (hp.objs.size + 1) C none) (h' := g2) kk up (exo_ok at_)
  have r2 : Vals (V.ref (hp.objs.size + 1) :: vs) (Value.ref (hp.objs.size + 1) :: us) := .cons rfl r1
  have hl : ((Value.ref (hp.objs.size + 1) :: us) ++ []).length = ps.length := by
    rw [List.append_nil, ← F1.len _ _ _ _ hq]
    exact r2.length.symm
  have hus : us.length ≤ sizeLine := by
    rw [← Paired.length r1, sizeLine_eq]
    omega
  have bnd := hb _ (Value.ref (hp.objs.size + 1) :: us) I2.kIn hl
  rw [List.append_nil] at bnd
  rw [eg2] at I2 bnd
  refine wpAny_call (PySem.HandSPX.call_own F.excBase_ValueError (fun Y => PySem.HandSPX.refsVE_contains Y bm hbm) (I1.kIn _ _ hC) (PySem.W.looks_findIn I1.kIn iC) (fun self => PySem.W.bind_fn I1.kIn self tI) hus
    (codeAny_mono (F1.run _ X.stack _ _ ⟨Value.ref (hp.objs.size + 1) :: us, []⟩ (Value.ref (hp.objs.size + 1) :: us) _ _ (fun _ _ _ => False) (hr.make C us []) (I2.env0.make C us []) bnd r2 hq) fun rr s' hq' => ?_))
  match rr, s', hq' with
  | .error er, s', hq' => exact passL pins σ _ _ er s' I2 hq'
  | .ok (.ret u), ⟨h2, gg, d2, t2, os2⟩, hq' =>
    obtain ⟨v, H2, osE, bare, un, hok, rv, ev, d, fs, ea, ed, hd1, q2⟩ := hq'
    subst ev
    obtain ⟨t0, G, J, kG, ge, hoe, na⟩ := mk_end0 (d2 := d2) (t2 := t2) I1 up (by rw [← eg2]; exact kk) un hok osE bare ea ed hd1
    exact ⟨rv, hp.objs.size + 1, _, _, ⟨G, gg, d2, t2, os2⟩, _, .ref C, some d, rfl, J, kG, ge, hoe, ⟨rfl, rfl, fun ws e => by cases e; rfl⟩, rfl, rfl, na, rfl, bare, raises_own Z.exC Z.tyC, q2⟩
  | .ok .next, s', hq' => exact False.elim hq'
  | .ok .brk, s', hq' => exact False.elim hq'
  | .ok .cont, s', hq' => exact False.elim hq'
end
/-- what never raises may stand in either book -/
theorem off_N {P : Program} {w : World} {K : PySem.W.Frag} {mg : Str → Option Value} {base : Heap} {k : Nat} {f : Addr} {fd : FuncData} {ps : List Str} {sp : Sp} (F : FnOk P w K mg base (L2N.CX P w) k f fd ps sp) (h : ∀ vs H Q E, sp vs H Q E → sp vs H Q E0) : FnOk P w K mg base (L2.CX P w) k f fd ps sp := by
  refine ⟨F.len, fun A outer s H args us vs Q E hr e0 hb r q => codeAny_mono (F.run A outer s H args us vs Q E0 hr e0 hb r (h _ _ _ _ q)) fun rr s' hq => ?_⟩
  match rr, hq with
  | .error er, hq =>
    obtain ⟨_, _, _, _, _, _, _, _, _, _, _, _, z⟩ := hq
    exact z.elim
  | .ok (.ret u), hq => exact hq
  | .ok .next, hq => exact False.elim hq
  | .ok .brk, hq => exact False.elim hq
  | .ok .cont, hq => exact False.elim hq
/-- the handled error of a suite -/
theorem hot_suite {X : Cx} {a : Addr} {oe : Obj} {cls : Value} {d : Option Addr} {pn : List (Addr × Obj)} (hz : L2N.Zn cls d oe) (hf : ∃ vs, oe.data = .fields vs) : HotC (X.suite a ((a, oe) :: pn)) := by
  obtain ⟨vs, e⟩ := hf
  exact ⟨(a, oe), ⟨rfl, vs, e, hz.2.2 vs e⟩, List.mem_cons_self⟩
end WC

set_option maxHeartbeats 4000000
namespace WC
open PySem PySem.Spec PyProof.Rows L2 L2H HotX
/-! a tuple unpacked while an error is handled -/
section
variable {prog : Program} {w : World} {A : Around} {E : Value → Shared → Prop} {s : Shared}
theorem tup_out_hot {it t x1 : Addr} {i : Nat} {items : Array Value} {Q : Option Value → Shared → Prop} (hot : HotAt A x1 s.heap) (hi : IsTupIter s.heap it t i) (ht : IsTup s.heap t items) (ho : items[i]? = none)
    (q : ∀ g : Heap, (∀ b o, b ≠ it → s.heap.get? b = some o → g.get? b = some o) → Q none { s with heap := g }) : wpAny (model prog w) A (pyNext (.ref it)) Q E s := by
  obtain ⟨hh, oH, vH, gH, dH, cH⟩ := hot
  obtain ⟨oi, gi_, ci, di⟩ := id hi
  obtain ⟨ol, gl, _, nl, dl⟩ := ht
  have x1it : x1 ≠ it := fun z => by
    rw [z, gi_] at gH
    cases gH
    rw [di] at dH
    cases dH
    cases cH
  unfold pyNext
  refine wpAny_bind (wpAny_attempt (wpAny_callSpecial?_slot (name := Str.ofString "__next__") hi.typeIs slot_tupleiter_next (wpAny_call_entry slot_tupleiter_next hi.typeIs entry_tupleiter_next ?_ (args_tupleiter_next _))))
  show wpAny _ _ (field (.ref it) 0 >>= _) _ _ _
  refine wpAny_bind (wpAny_field gi_ di (x := .ref t) rfl ?_)
  show wpAny _ _ (if (Value.ref t == Value.none) = true then _ else _) _ _ _
  rw [if_neg (by simp : ¬ (Value.ref t == Value.none) = true)]
  show wpAny _ _ (field (.ref it) 1 >>= _) _ _ _
  refine wpAny_bind (wpAny_field gi_ di (x := .int i 0) rfl ?_)
  show wpAny _ _ (seqItems? (.ref t) >>= _) _ _ _
  refine wpAny_bind (wpAny_seqItems gl dl ?_)
  simp only [Int.toNat_natCast, ho]
  refine wpAny_bind (wpAny_rule (wpAny_bind (wpAny_setField gi_ di (by simp) ?_)))
  show wpAny _ _ (newExc (.type "StopIteration") [] >>= _) _ _ _
  simp only [newExc, newTuple]
  refine wpAny_bind (wpAny_bind (wpAny_newObj_type ?_ (by size_fits)))
  refine wpAny_bind (m := firstArgMember _ _) (wpAny_of_eq (a := Value.none) (by first | rfl | (simp only [firstArgMember]; rfl)) ?_)
  refine wpAny_newObj_type ?_ (by size_fits)
  have st : ∀ {b : Addr} {o : Obj} {f : Obj → Obj} {u1 u2 : Obj}, b ≠ it → s.heap.get? b = some o → (((s.heap.update it f).push u1).push u2).get? b = some o := fun {b o f u1 u2} n e => Heap.get?_push_of_some _ (Heap.get?_push_of_some _ (by rw [Heap.get?_update_other _ _ (Ne.symm n)]; exact e))
  refine raiseNew_hot ⟨hh, oH, vH, st x1it gH, dH, cH⟩ (Nat.ne_of_lt (Heap.lt_size (Heap.get?_push_of_some _ (by rw [Heap.get?_update_other _ _ (Ne.symm x1it)]; exact gH)))) (Heap.get?_push_size _ rfl) rfl (by first | (simp; done) | (simp; omega)) ?_
  refine wpAny_bind (wpAny_isInstance (T := "StopIteration") (b := true) ⟨_, Heap.get?_update_self _ (Heap.get?_push_size _ rfl) rfl, rfl⟩ isSubtype_stop ?_)
  refine wpAny_pure (q _ fun b o n e => ?_)
  rw [Heap.get?_update_other _ _ (Nat.ne_of_gt (Heap.lt_size (Heap.get?_push_of_some _ (by rw [Heap.get?_update_other _ _ (Ne.symm n)]; exact e))))]
  exact st n e
theorem unpack_hot {t x1 : Addr} {items : Array Value} {targets : List (Bool × (Value → Sem Unit))} {Q : Unit → Shared → Prop} (hot : HotAt A x1 s.heap) (ht : IsTup s.heap t items) (hn : targets.length = items.size) (hs : targets.findIdx? (·.1) = none)
    (h : ∀ g : Heap, (∀ b o, s.heap.get? b = some o → g.get? b = some o) → wpAny (model prog w) A (assignInOrder (targets.map (·.2)) items.toList) Q E { s with heap := g }) : wpAny (model prog w) A (unpack (.ref t) targets) Q E s := by
  have low : t ≠ s.heap.objs.size := by
    obtain ⟨o, e, _⟩ := ht
    exact Nat.ne_of_lt (Heap.lt_size e)
  unfold unpack
  rw [hn, hs]
  refine wpAny_bind (wpAny_holding ?_)
  unfold unpackItems notIterableAtAll
  refine wpAny_bind (wpAny_bind (wpAny_specialOf ht.typeIs slot_tuple_iter.lookup (wpAny_pure ?_)))
  simp only [Bool.false_eq_true, if_false]
  refine wpAny_bind (wpAny_holding (iter_tuple ht (wpAny_bind (wpAny_holding (draw_tuple low items.size 0 _ _ ⟨_, Heap.get?_push_size _ rfl, rfl, rfl⟩ (ht.push _) (by omega) fun g1 i1 b1 => ?_)))))
  rw [List.drop_zero, List.take_of_length_le (by simp), if_neg (by simp)]
  have keep1 : ∀ b o, s.heap.get? b = some o → g1.get? b = some o := fun b o e => b1.extBut b o (Nat.ne_of_lt (Heap.lt_size e)) (Heap.get?_push_of_some _ e)
  obtain ⟨hh, oH, vH, gH, dH, cH⟩ := hot
  refine wpAny_bind (wpAny_holding (tup_out_hot (x1 := x1) ⟨hh, oH, vH, keep1 _ _ gH, dH, cH⟩ i1 ((ht.push _).extBut b1.extBut low) (by simp) fun g2 e2 => ?_))
  simp only [Option.isSome_none, Bool.false_eq_true, if_false]
  exact wpAny_pure (h g2 fun b o e => e2 b o (Nat.ne_of_lt (Heap.lt_size e)) (keep1 b o e))
end
theorem pg_tupH {X : Cx} {es : List Expr} {k n : Nat} {t : TGs} {pos : Pos} (hc : HotC X) (h : PGs X es t) (hn : (assignEach es X.env).length = n := by rfl) (hs : (assignEach es X.env).findIdx? (·.1) = none := by rfl) : PG X (.Tuple es k pos) (gTup X.K n t) := by
  refine ⟨fun pins s σ H v u Q I r ⟨a, xs, e1, hq, hl, hw⟩ => ?_⟩
  subst e1
  cases r
  obtain ⟨its, rv, ht, _⟩ := I.tuple hq
  obtain ⟨x1, hot⟩ := hc.at I
  rw [assign_Tuple]
  refine wpAny_bind (wpAny_standAt (unpack_hot hot ht (by simp [hn, ← hl, rv.length]) hs fun g kg => ?_))
  exact h.run pins _ σ H xs _ Q (I.kept (t' := s.toks) fun b o e => kg b o e) (by simpa using rv) hw
end WC

set_option maxHeartbeats 4000000
namespace WC
open PySem PySem.Spec PyProof.Rows L2
/-! return e + super().m(); == by an own __eq__; a method kept raw -/
def tSup0 (C : Addr) (i : Nat) (sp : Sp) (E : XK) : TE := fun σ H Q => ∃ x dx fs, σ[i]? = some (some (.ref x)) ∧ H x = some (.ins C dx fs) ∧ sp [.ref x] H Q E
section
variable {X : Cx} {CX : CXT} {k i : Nat} {C D g : Addr} {sp : Sp} {E : XK} {e : Expr} {es : List Expr} {m slf : Str} {p0 p1 p2 p3 p4 p5 : Pos} {ta : TA} {te : TE} {body : List Stmt} {pl : Sem Bool}
theorem at_sup0 {pins : List (Addr × Obj)} {s : Shared} {σ : L2.St} {H : Hp} {Q : VK} (T : SupTxt X.prog X.K X.mg D C g m) (Z : SelfTxt X.prog X.K X.env D slf) (F : FnR X.prog X.w X.K X.mg X.base CX k g sp) (hr : Room k X.A) (hx : Passes CX X E) (hN : X.N[i]? = some slf) 
    (he : eval (.Call (.Attribute (.Call (.Name "super" p0) [] [] p1) m p2) [] [] p3) X.env = (do
      let ov ← attributeBase (.Call (.Name "super" p0) [] [] p1) m X.env (eval (.Call (.Name "super" p0) [] [] p1) X.env)
      standAt p2.atName
      let (f, first) ← holding [ov] (getMethod ov m pl)
      callWith p3 f first (backTo p3 (starEach [] X.env)) [])) 
    (I : Inv X pins σ H s) (h : tSup0 C i sp E σ H Q) : PySem.wpAt (model X.prog X.w) X.A (.func body X.env) (eval (.Call (.Attribute (.Call (.Name "super" p0) [] [] p1) m p2) [] [] p3) X.env) (EP X pins σ Q) X.xe s := by
  obtain ⟨x, dx, fs, hs, hH, ht⟩ := h
  obtain ⟨f, of1, of2, fd, of3, ar, ef, kf, hd, har⟩ := Z.fn
  obtain ⟨c, oc1, oc2, vs, oc3, file, tf, ec, kc, hvs, hfile⟩ := Z.cod
  obtain ⟨cc, k1, k2, k3, lcc, kcc⟩ := Z.lc
  obtain ⟨cdD, hD⟩ := T.dCls
  have K1 := I.kIn
  obtain ⟨oD, hD1, hD2⟩ : ∃ oD, s.heap.get? D = some oD ∧ oD.data = .cls cdD := by
    unfold PySem.W.clsIn at hD
    split at hD
    · rename_i a b cd' d ho
      cases hD
      exact ⟨_, K1 _ _ ho, rfl⟩
    · cases hD
  obtain ⟨_, O, _, _, _⟩ := ins_get I.hok hH
  have hob := O.1
  refine ks_wpAt_MethodCall ?_ he
  refine ks_wpAt_super_base Z.kS Z.kC T.nat ef (K1 _ _ kf) rfl hd ec (K1 _ _ kc) rfl hvs hfile T.top ?_
  obtain ⟨mb, hb1, hb2⟩ := I.mod.blt
  refine PySem.W.ks_loadName_global I.ok.kind Z.kS (Calls.loadGlobal_builtin (by rw [I.ok.glob]; exact I.mod.glob.keeps I.bk) T.sup (by rw [I.ok.blt]; exact hb1.keeps I.bk) ((hb2 _ (by decide)).trans (show bootBuiltins "super" = some (.type "super") by decide +kernel)) ⟨rfl, ?_⟩)
  refine wpAny_loadName_free I.ok.kind Z.kC lcc ⟨_, K1 _ _ kcc, rfl⟩ ?_
  obtain ⟨mL, hn, hl⟩ := id I.loc
  obtain ⟨u, ru, lu⟩ := hl i slf _ hN hs (.inl Z.kL)
  obtain rfl : u = Value.ref x := ru
  have hm : mL slf = some (.ref x) := by
    rcases lu with ⟨_, q⟩ | ⟨q, _⟩
    · exact q
    · rw [Z.kL] at q
      rcases q with q | q <;> cases q
  rw [har]
  refine wpAny_loadName_local I.ok.kind Z.kL hn hm ?_
  refine ks_wpAny_isType_cls hD1 hD2 ⟨rfl, ?_⟩
  refine ks_wpAny_call_super hD1 hD2 hob rfl (fun c e => by cases e) (PySem.W.looks_mroIn K1 T.sub) fun h1 e1 k1 => ?_
  have I1 : Inv X pins σ H { s with heap := h1, toks := s.toks } := I.kept (t' := s.toks) k1
  have K2 := I1.kIn
  have K2 : X.K.In h1 := K2
  cases hC : PySem.W.clsIn X.K C with
  | none =>
    have z := T.met
    unfold PySem.W.ks_superIn at z
    rw [hC] at z
    cases z
  | some cd =>
    have z := T.met
    unfold PySem.W.ks_superIn at z
    rw [hC] at z
    obtain ⟨og, hog, hogc⟩ : ∃ og, h1.get? g = some og ∧ og.cls = .type "function" := by
      have y : (X.K.lookup g).map (·.cls) = some (.type "function") := T.typ
      cases q : X.K.lookup g with
      | none => rw [q] at y; cases y
      | some og =>
        rw [q] at y
        exact ⟨og, K2 _ _ q, Option.some.inj y⟩
    have hxC : x ≠ C := by
      rintro rfl
      unfold PySem.W.clsIn at hC
      split at hC
      · rename_i a b cd' d ho
        have e := K1 _ _ ho
        rw [hob] at e
        cases e
      · cases hC
    refine ks_wpAny_getMethod_super e1 (PySem.W.looks_opaque K2 T.opq) (l₀ := cd.mro) (fun A Q E s k q => wpAny_bind ((PySem.W.looks_clsIn K2 hC) A _ E s k (wpAny_pure q))) rfl K2 z hog hogc hxC T.nat ?_
    have I2 := ClX.met_new (C := x) (g := g) I1
    exact PySem.W.callWith_M0 (K := X.K) (first := []) ⟨ClX.pin_at I2, I2.kIn⟩ T.fni (ClX.run_cm F hr hx I2 .nil ht)
/-- return e + super().m() -/
theorem px_retSup {op : Operator} {r : R2} (T : SupTxt X.prog X.K X.mg D C g m) (Z : SelfTxt X.prog X.K X.env D slf) (F : FnR X.prog X.w X.K X.mg X.base CX k g sp) (hr : Room k X.A) (hx : Passes CX X E) (hN : X.N[i]? = some slf) (he1 : PE X e te) (ho : OpR X (binaryOp op) r)
    (he : eval (.Call (.Attribute (.Call (.Name "super" p0) [] [] p1) m p2) [] [] p3) X.env = (do
      let ov ← attributeBase (.Call (.Name "super" p0) [] [] p1) m X.env (eval (.Call (.Name "super" p0) [] [] p1) X.env)
      standAt p2.atName
      let (f, first) ← holding [ov] (getMethod ov m pl)
      callWith p3 f first (backTo p3 (starEach [] X.env)) []) := by rfl) :
    PX X (.func body X.env) [.Return (some (.BinOp e op (.Call (.Attribute (.Call (.Name "super" p0) [] [] p1) m p2) [] [] p3) p4)) p5] (fun D0 σ H => te σ H fun x H1 => tSup0 C i sp E σ H1 fun y H2 => r x y H2 D0.rt) := by
  refine ⟨fun pins s σ H D0 I h => ks_wpAt_execs_cons (ks_wpAt_Return_some (ks_wpAt_BinOp2 (wpAt_of_wpAny (thn (he1.run pins s σ H _ I h) fun u s1 ⟨x, H1, I1, r1, q1⟩ => ?_))))⟩
  refine PySem.wpAt_mono (at_sup0 T Z F hr hx hN he I1 q1) (fun v s2 ⟨y, H2, I2, r2, q2⟩ => ?_) fun _ _ z => z
  refine thn (ho pins s2 σ H2 x y u v _ I2 r1 r2 q2) fun z s3 ⟨z1, H3, I3, r3, q3⟩ => ?_
  exact ⟨z1, σ, H3, I3, r3, q3⟩
end
end WC

set_option maxHeartbeats 4000000
namespace WC
open PySem PySem.Spec PyProof.Rows L2
/-- the classes CS have their == from the def at f -/
structure EqF (K : PySem.W.Frag) (CS : List Addr) (f : Addr) : Prop where
  at_ : ∀ C ∈ CS, PySem.W.findIn K (.ref C) "__eq__" = some (some (.ref f))
  fn : PySem.W.isFn K (.ref f) = true
  nf : ∀ C ∈ CS, ∀ D ∈ CS, PySem.W.notFirst K C (.ref D) = true
def rOwn (CS : List Addr) (sp : Sp) : R2 := fun x y H Q => ∃ (a b C D dx dy : Addr) (fs gs : List (Str × V)), C ∈ CS ∧ D ∈ CS ∧ x = .ref a ∧ y = .ref b ∧ H a = some (.ins C dx fs) ∧ H b = some (.ins D dy gs) ∧ sp [.ref a, .ref b] H (fun v H' => ∃ c, v = .bl c ∧ Q (.bl c) H') E0
theorem op_own {X : Cx} {n : Nat} {CS : List Addr} {f : Addr} {fd : FuncData} {ps : List Str} {sp : Sp} (T : EqF X.K CS f) (F : FnOk X.prog X.w X.K X.mg X.base (L2.CX X.prog X.w) n f fd ps sp) (hb : Binds X.K fd ps []) (hr : Room n X.A) : OpR X (compareOp .Eq) (rOwn CS sp) := by
  intro pins s σ H x y u v Q I rx ry ⟨a, b, C, D, dx, dy, fs, gs, hC, hD, ex, ey, ha, hb', q⟩
  subst ex ey
  cases rx
  cases ry
  show wpAny (model X.prog X.w) X.A (richCompare .Eq (.ref a) (.ref b)) (EP X pins σ Q) X.xe s
  obtain ⟨_, Ja, _⟩ := ins_get I.hok ha
  obtain ⟨_, Jb, _⟩ := ins_get I.hok hb'
  obtain ⟨oa, Ja, _⟩ := Ja.look
  obtain ⟨ob, Jb, _⟩ := Jb.look
  obtain ⟨m, fr⟩ := I.fr
  refine PySem.W.cmp_K (op := .Eq) (tb := .ref D) hr.units0 fr I.ok.mod.kin Ja Jb.type (T.nf C hC D hD) (T.at_ C hC) T.fn ?_
  have z := run_fn (ds := []) (dvs := []) (us := [.ref a, .ref b]) (vs := [.ref a, .ref b]) (E := E0) F hr hb .nil passL I (.cons rfl (.cons rfl .nil)) q
  refine wpAny_mono z (fun r s' ⟨w1, H1, I1, r1, c, ec, qc⟩ => ?_) fun _ _ e => e
  subst ec
  cases r1
  exact ⟨.bl c, H1, I1, rfl, qc⟩
/-- a method that is known raw (it may take *args) -/
structure MetV (P : Program) (w : World) (K : PySem.W.Frag) (mg : Str → Option Value) (base : Heap) (C : Addr) (m : Str) (k : Nat) (sp : Sp) : Prop where
  ex : ∃ f, Cls K C ∧ Meth K C m f ∧ FnR P w K mg base (L2.CX P w) k f sp
section
variable {X : Cx} {C : Addr} {m : Str} {j k : Nat} {sp : Sp} {E : XK} {W : WX} {o e : Expr} {es : List Expr} {ta : TE} {t : TA} {pos apos : Pos} {pl : Sem Bool}
theorem pe_mtv (D : MetV X.prog X.w X.K X.mg X.base C m k sp) (ho : PE X o ta) (hr : Room j X.A) (hx : Passes (L2.CX X.prog X.w) X E) (ha : PA X (e :: es) t) (hle : k ≤ j := by decide)
    (hst : starEach (e :: es) X.env = (false, eval e X.env) :: starEach es X.env := by rfl) (hpl : (backTo pos (starEach es X.env)).any (·.1) = false := by rfl)
    (ht : eval (.Call (.Attribute o m apos) (e :: es) [] pos) X.env = (do
      let ov ← eval o X.env
      standAt apos.atName
      let (f, first) ← holding [ov] (getMethod ov m pl)
      callWith pos f first (backTo pos (starEach (e :: es) X.env)) (backToKw pos (keywordEach [] X.env))) := by rfl) : PE X (.Call (.Attribute o m apos) (e :: es) [] pos) (tMeth C m sp [] E ta t) := by
  obtain ⟨f, c, hm, F⟩ := D.ex
  refine ⟨fun pins s σ H Q I h => ?_⟩
  refine PySem.W.methodCall_KW (pl := pl) (thn (ho.run pins s σ H _ I h) fun u s1 ⟨x, H1, I1, rx, a, dx, fs, ex, ea, l, q⟩ => ?_) ht
  subst ex
  obtain rfl : u = Value.ref a := rx
  refine getmeth_ok I1 ea c hm l ?_
  refine PySem.W.callWith_K (first := [.ref a]) (h₀ := X.base) I.ok.mod.kin hm.kp (thn (ha.run pos pins s1 σ H1 _ I1 q) fun us s2 ⟨vs, H2, I2, r, q2⟩ => ⟨I2.kIn, ?_⟩) hst hpl
  have q2 : sp (.ref a :: (vs ++ [])) H2 Q E := q2
  rw [List.append_nil] at q2
  exact wpAny_call (run_fnR (us := .ref a :: us) (vs := .ref a :: vs) F (hr.mono hle) hx I2 (.cons rfl r) q2)
end
end WC

set_option maxHeartbeats 4000000
/-! sorted of triples of ints, any number of them -/
namespace WC
open PySem PySem.Spec PyProof.Rows L2 SrtO Srt
abbrev I3 := Int × Int × Int
/-- by the first, then the second, then the third -/
def lex3 (p q : I3) : Bool := if p.1 = q.1 then (if p.2.1 = q.2.1 then decide (p.2.2 < q.2.2) else decide (p.2.1 < q.2.1)) else decide (p.1 < q.1)
theorem lex3_iff {p q : I3} : lex3 p q = true ↔ p.1 < q.1 ∨ (p.1 = q.1 ∧ (p.2.1 < q.2.1 ∨ (p.2.1 = q.2.1 ∧ p.2.2 < q.2.2))) := by
  unfold lex3
  by_cases e : p.1 = q.1
  · rw [if_pos e]
    by_cases e2 : p.2.1 = q.2.1
    · rw [if_pos e2, decide_eq_true_eq]; omega
    · rw [if_neg e2, decide_eq_true_eq]; omega
  · rw [if_neg e, decide_eq_true_eq]; omega
theorem lex3_no {p q : I3} : lex3 p q = false ↔ ¬ (p.1 < q.1 ∨ (p.1 = q.1 ∧ (p.2.1 < q.2.1 ∨ (p.2.1 = q.2.1 ∧ p.2.2 < q.2.2)))) := by
  rw [← lex3_iff]
  cases lex3 p q <;> simp
theorem swo3 {α : Type} (k : α → I3) : Swo fun v u => lex3 (k v) (k u) := by
  refine ⟨fun x y h => ?_, fun x y z h1 h2 => ?_⟩
  · have a := lex3_iff.mp h
    exact lex3_no.mpr (by omega)
  · have a := lex3_no.mp h1
    have b := lex3_no.mp h2
    exact lex3_no.mpr (by omega)
/-- v is a tuple of the three ints c -/
def IsTri (h : Heap) (v : Value) (c : I3) : Prop := ∃ a o t u r n, v = Value.ref a ∧ h.get? a = some o ∧ o.cls = .type "tuple" ∧ o.data = .seq #[.int c.1 t, .int c.2.1 u, .int c.2.2 r] n
theorem IsTri.keeps {h h' : Heap} {v : Value} {c : I3} (x : IsTri h v c) (k : ∀ b o, h.get? b = some o → o.cls = .type "tuple" → h'.get? b = some o) : IsTri h' v c := by
  obtain ⟨a, o, t, u, r, n, e, ho, hc, hd⟩ := x
  exact ⟨a, o, t, u, r, n, e, k a o ho hc, hc, hd⟩
section
variable {prog : Program} {w : World} {A : Around} {E : Value → Shared → Prop} {s : Shared}
theorem tri_cmp {vs : List Value} {k : Value → I3} (hp : ∀ v ∈ vs, IsTri s.heap v (k v)) : Cmp prog w A s (tuples' true) (fun p => p.1 ∈ vs) (lt2 fun v u => lex3 (k v) (k u)) := by
  intro p q hm hm'
  have h1 := hp _ hm
  have h2 := hp _ hm'
  show wpAny (model prog w) A (keyLt' (tuples' true) p.1 q.1) (fun r s' => s' = s ∧ r = lex3 (k p.1) (k q.1)) (fun _ _ => False) s
  unfold lex3
  generalize k p.1 = kp at h1 ⊢
  generalize k q.1 = kq at h2 ⊢
  obtain ⟨x, y, z⟩ := kp
  obtain ⟨x', y', z'⟩ := kq
  obtain ⟨a, o, t, u, r, n, e, ho, hc, hd⟩ := h1
  obtain ⟨a', o', t', u', r', n', e', ho', hc', hd'⟩ := h2
  rw [e, e']
  refine PySem.W.kat_lt ho hd ho' hd' ?_
  show PySem.W.KatLex prog w A true (decide (3 < 3)) _ [(.int x t, .int x' t'), (.int y u, .int y' u'), (.int z r, .int z' r')] 0 s
  dsimp only
  refine PySem.W.kat_cons (SeqAt.EqAt.int_int x t x' t' prog w _ _ ?_)
  refine PySem.W.kat_go (fun e1 => ?_) (fun e1 => ?_)
  · have ex : x = x' := by simpa using e1
    rw [if_pos ex]
    refine PySem.W.kat_yes (PySem.W.kat_cons (SeqAt.EqAt.int_int y u y' u' prog w _ _ ?_))
    refine PySem.W.kat_go (fun e2 => ?_) (fun e2 => ?_)
    · have ey : y = y' := by simpa using e2
      rw [if_pos ey]
      refine PySem.W.kat_yes (PySem.W.kat_cons (SeqAt.EqAt.int_int z r z' r' prog w _ _ ?_))
      refine PySem.W.kat_go (fun e3 => ?_) (fun e3 => ?_)
      · have ez : z = z' := by simpa using e3
        exact PySem.W.kat_yes (PySem.W.kat_nil ⟨rfl, (decide_eq_false (by omega)).symm⟩)
      · exact PySem.W.kat_no (PySem.W.kat_one _ _ (PyProof.Rows.lt_int ⟨rfl, rfl⟩))
    · have ey : ¬ y = y' := by simpa using e2
      rw [if_neg ey]
      exact PySem.W.kat_no (PySem.W.kat_one _ _ (PyProof.Rows.lt_int ⟨rfl, rfl⟩))
  · have ex : ¬ x = x' := by simpa using e1
    rw [if_neg ex]
    exact PySem.W.kat_no (oneLt_int ⟨rfl, rfl⟩)
theorem tri_firsts {h : Heap} : ∀ {vs : List Value}, (∀ v ∈ vs, ∃ c, IsTri h v c) → ∃ fs, PySem.W.KatTups h vs fs ∧ fs.length = vs.length ∧ ∀ f ∈ fs, ∃ x t, f = Value.int x t
  | [], _ => ⟨[], .nil, rfl, fun f hf => by cases hf⟩
  | v :: vs, hv => by
    obtain ⟨fs, h1, h2, h3⟩ := tri_firsts (vs := vs) fun u hu => hv u (List.mem_cons_of_mem _ hu)
    obtain ⟨c, a, o, t, u, r, n, e, ho, hc, hd⟩ := hv v List.mem_cons_self
    subst e
    refine ⟨.int c.1 t :: fs, .cons ho hc hd rfl h1, by rw [List.length_cons, List.length_cons, h2], fun f hf => ?_⟩
    rcases List.mem_cons.mp hf with e | hf
    · exact ⟨_, _, e⟩
    · exact h3 f hf
theorem tris_sortable {a : Addr} {vs : List Value} {k : Value → I3} (h0 : 0 < vs.length) (hp : ∀ v ∈ vs, IsTri s.heap v (k v)) (ha : ∀ o, s.heap.get? a = some o → o.cls ≠ .type "tuple") : SortableO prog w A s a vs fun v u => lex3 (k v) (k u) := by
  intro h' keep
  have hp' : ∀ v ∈ vs, IsTri h' v (k v) := fun v hm => (hp v hm).keeps fun b o e c => keep b o (fun z => by subst z; exact ha o e c) e
  obtain ⟨fs, h1, h2, h3⟩ := tri_firsts fun v hm => ⟨_, hp' v hm⟩
  refine ⟨tuples' true, fun Q E hq => ?_, tri_cmp hp'⟩
  refine PySem.W.kat_kind (T := .type "int") h1 (by omega) (fun f hm => ?_) (by rfl) ?_
  · obtain ⟨x, t, rfl⟩ := h3 f hm
    exact PySem.W.Looks.now
  · rw [show (Value.type "int" != Value.type "tuple") = true from by first | rfl | decide]
    exact hq
theorem sorted_tris {l : Addr} {vs : List Value} {k : Value → I3} {Q : Value → Shared → Prop} (hl : s.heap.IsList l vs.toArray) (hz : vs.length ≤ sizeLine) (hp : ∀ v ∈ vs, IsTri s.heap v (k v))
    (h : ∀ (h' : Heap) (d : Addr) (out : List Value), Srtd (fun v u => lex3 (k v) (k u)) out → Stb (fun v u => lex3 (k v) (k u)) out vs → (∀ b o, s.heap.get? b = some o → h'.get? b = some o) → s.heap.objs.size ≤ d → (∃ n, h'.get? d = some (seqObj "list" out.toArray n)) → Q (.ref d) { s with heap := h' }) :
    wpAny (model prog w) A (call (.builtin "sorted") [.ref l]) Q E s := by
  refine sorted_ord (swo3 k) hl hz (fun h2 h₁ a ha kk => ?_) fun out hs hb => ?_
  · refine tris_sortable (s := { s with heap := h₁ }) (by omega) (fun v hm => (hp v hm).keeps fun b o e _ => (kk b o e).2) fun o e => ?_
    rw [ha] at e
    cases e
    exact fun hcls => (by decide : ¬ ("list" : String) = "tuple") (Value.type.inj hcls)
  · exact h _ _ out hs hb (fun _ _ eu => sortedAll_old eu) (Nat.le_succ s.heap.objs.size) (sortedAll_at s.heap vs out.toArray)
end
/-- sorted(xs), xs a list of triples of ints (k says which): a new list of the same, none before a smaller one -/
def rSort3 (K : PySem.W.Frag) : List V → Hp → VK → Prop := fun vs H Q => ∃ (a : Addr) (xs : List V) (k : V → I3), vs = [V.ref a] ∧ SqL K H a xs ∧ (∀ x ∈ xs, ∃ t, x = V.ref t ∧ H t = some (.tup [.int (k x).1, .int (k x).2.1, .int (k x).2.2])) ∧
  ∀ (ys : List V) (p : Addr), ys.Perm xs → ys.Pairwise (fun x y => lex3 (k y) (k x) = false) → H p = none → Q (.ref p) (upd H p (.lst ys))
theorem cr_sort3 {X : Cx} {K : PySem.W.Frag} (hK : X.K = K := by rfl) : CallR X (.builtin "sorted") (rSort3 K) := by
  subst hK
  intro pins s σ H vs us Q I r h
  obtain ⟨a, xs, k, rfl, hs, hx, q⟩ := h
  obtain ⟨its, rv, hl, hz⟩ := I.list hs
  rw [Vals.ref1 r]
  obtain ⟨e1, e2⟩ := bkV_refs rv fun x m => by
    obtain ⟨t, e, _⟩ := hx x m
    exact ⟨t, e⟩
  refine sorted_tris (k := fun u => k (bkV u)) hl.isList (by rw [← rv.length]; exact hz) (fun v hv => ?_) fun h' d out h1 h2 kp hd hn => ?_
  · obtain ⟨t, rfl⟩ := e2 v hv
    have hm : V.ref t ∈ xs := by rw [e1]; exact List.mem_map.mpr ⟨_, hv, rfl⟩
    obtain ⟨t', e, ht⟩ := hx _ hm
    cases e
    obtain ⟨_, its2, r2, o, ho, hc, n, hd⟩ := (show ObjOk X.prog X.w H s.heap t (.tup _) from I.hok _ _ ht)
    cases r2 with
    | cons a1 r3 =>
      cases r3 with
      | cons a2 r4 =>
        cases r4 with
        | cons a3 r5 =>
          cases r5
          obtain ⟨t1, rfl⟩ := a1
          obtain ⟨t2, rfl⟩ := a2
          obtain ⟨t3, rfl⟩ := a3
          exact ⟨t, o, t1, t2, t3, n, rfl, ho, hc, hd⟩
  · have rf : ∀ u ∈ out, ∃ r, u = Value.ref r := fun u hu => e2 u ((h2.perm.mem_iff).mp hu)
    obtain ⟨n, hn⟩ := hn
    have hp : (out.map bkV).Perm xs := by
      rw [e1]
      exact h2.perm.map bkV
    refine ⟨.ref d, upd H d (.lst (out.map bkV)), I.laid (t' := s.toks) kp hd ⟨by rw [hp.length_eq]; exact hz, out, n, bkV_vals rf, hn⟩, rfl, q _ d hp ?_ (I.hok.fresh hd)⟩
    rw [List.pairwise_map]
    exact h1
end WC

set_option maxHeartbeats 4000000
namespace WC
open PySem PySem.Spec PyProof.Rows L2
def top (i : Nat) : Stmt := PySem.Challenge.pw_withincall_k00_pipelines_checked.main.body.getD i (.Pass ⟨0, 0, 0, 0⟩)
abbrev s_InvalidNet_init : Stmt := inClass (top 3) 0
-- InvalidNet.__init__: slots 0 self, 1 reason, 2 position
abbrev nn_InvalidNet_init : List Str := ["self", "reason", "position"]
theorem sc_InvalidNet_init : FnScope ["self", "reason", "position"] ["self", "reason", "position"] (defScope s_InvalidNet_init) := ⟨rfl, rfl, rfl, by decide +kernel, rfl, by decide +kernel, by decide +kernel⟩
abbrev s_InvalidState_init : Stmt := inClass (top 4) 0
-- InvalidState.__init__: slots 0 self, 1 position
abbrev nn_InvalidState_init : List Str := ["self", "position"]
theorem sc_InvalidState_init : FnScope ["self", "position"] ["self", "position"] (defScope s_InvalidState_init) := ⟨rfl, rfl, rfl, by decide +kernel, rfl, by decide +kernel, by decide +kernel⟩
abbrev s_InvalidText_init : Stmt := inClass (top 6) 0
-- InvalidText.__init__: slots 0 self, 1 line
abbrev nn_InvalidText_init : List Str := ["self", "line"]
theorem sc_InvalidText_init : FnScope ["self", "line"] ["self", "line"] (defScope s_InvalidText_init) := ⟨rfl, rfl, rfl, by decide +kernel, rfl, by decide +kernel, by decide +kernel⟩
abbrev s_NotFound_init : Stmt := inClass (top 7) 0
-- NotFound.__init__: slots 0 self, 1 number
abbrev nn_NotFound_init : List Str := ["self", "number"]
theorem sc_NotFound_init : FnScope ["self", "number"] ["self", "number"] (defScope s_NotFound_init) := ⟨rfl, rfl, rfl, by decide +kernel, rfl, by decide +kernel, by decide +kernel⟩
abbrev s_Blocked_init : Stmt := inClass (top 8) 0
-- Blocked.__init__: slots 0 self, 1 move, 2 channels, 3 at
abbrev nn_Blocked_init : List Str := ["self", "move", "channels", "at"]
theorem sc_Blocked_init : FnScope ["self", "move", "channels", "at"] ["self", "move", "channels", "at"] (defScope s_Blocked_init) := ⟨rfl, rfl, rfl, by decide +kernel, rfl, by decide +kernel, by decide +kernel⟩
abbrev s_is_between : Stmt := top 10
-- is_between: slots 0 value, 1 low, 2 high
abbrev nn_is_between : List Str := ["value", "low", "high"]
theorem sc_is_between : FnScope ["value", "low", "high"] ["value", "low", "high"] (defScope s_is_between) := ⟨rfl, rfl, rfl, by decide +kernel, rfl, by decide +kernel, by decide +kernel⟩
abbrev s_check_number : Stmt := top 11
-- check_number: slots 0 value, 1 many
abbrev nn_check_number : List Str := ["value", "many"]
theorem sc_check_number : FnScope ["value", "many"] ["value", "many"] (defScope s_check_number) := ⟨rfl, rfl, rfl, by decide +kernel, rfl, by decide +kernel, by decide +kernel⟩
abbrev s_Net_init : Stmt := inClass (top 13) 4
-- Net.__init__: slots 0 self, 1 stages, 2 channels, 3 channel
abbrev nn_Net_init : List Str := ["self", "stages", "channels", "channel"]
theorem sc_Net_init : FnScope ["self", "stages", "channels", "channel"] ["self", "stages", "channels"] (defScope s_Net_init) := ⟨rfl, rfl, rfl, by decide +kernel, rfl, by decide +kernel, by decide +kernel⟩
abbrev s_Net_is_capacity : Stmt := inClass (top 13) 5
-- Net.is_capacity: slots 0 value
abbrev nn_Net_is_capacity : List Str := ["value"]
theorem sc_Net_is_capacity : FnScope ["value"] ["value"] (defScope s_Net_is_capacity) := ⟨rfl, rfl, rfl, by decide +kernel, rfl, by decide +kernel, by decide +kernel⟩
abbrev s_Net_slots : Stmt := inClass (top 13) 6
-- Net.slots: slots 0 self, 1 _, 2 capacity
abbrev nn_Net_slots : List Str := ["self", "_", "capacity"]
theorem sc_Net_slots : FnScope ["self", "_", "capacity"] ["self"] (defScope s_Net_slots) := ⟨rfl, rfl, rfl, by decide +kernel, rfl, by decide +kernel, by decide +kernel⟩
abbrev s_Net_without : Stmt := inClass (top 13) 11
-- Net.without: slots 0 self, 1 channel, 2 others
abbrev nn_Net_without : List Str := ["self", "channel", "others"]
theorem sc_Net_without : FnScope ["self", "channel", "others"] ["self", "channel"] (defScope s_Net_without) := ⟨rfl, rfl, rfl, by decide +kernel, rfl, by decide +kernel, by decide +kernel⟩
abbrev s_Net_eq : Stmt := inClass (top 13) 13
-- Net.__eq__: slots 0 self, 1 other
abbrev nn_Net_eq : List Str := ["self", "other"]
theorem sc_Net_eq : FnScope ["self", "other"] ["self", "other"] (defScope s_Net_eq) := ⟨rfl, rfl, rfl, by decide +kernel, rfl, by decide +kernel, by decide +kernel⟩
abbrev s_Pipeline_init : Stmt := inClass (top 14) 0
-- Pipeline.__init__: slots 0 self, 1 stages, 2 capacity, 3 channels, 4 triples, 5 channel
abbrev nn_Pipeline_init : List Str := ["self", "stages", "capacity", "channels", "triples", "channel"]
theorem sc_Pipeline_init : CScope ["self", "stages", "capacity", "channels", "triples", "channel"] ["self", "stages", "capacity", "channels"] (defScope s_Pipeline_init) := ⟨rfl, rfl, rfl, by decide +kernel, rfl, by decide +kernel, by decide +kernel, by decide +kernel, by decide +kernel, by decide +kernel⟩
abbrev s_Pipeline_row : Stmt := inClass (top 14) 1
-- Pipeline.row: slots 0 cls, 1 capacities, 2 stages, 3 channels, 4 stage, 5 capacity
abbrev nn_Pipeline_row : List Str := ["cls", "capacities", "stages", "channels", "stage", "capacity"]
theorem sc_Pipeline_row : FnScope ["cls", "capacities", "stages", "channels", "stage", "capacity"] ["cls", "capacities"] (defScope s_Pipeline_row) := ⟨rfl, rfl, rfl, by decide +kernel, rfl, by decide +kernel, by decide +kernel⟩
abbrev s_has_circle : Stmt := top 15
-- has_circle: slots 0 channels, 1 left, 2 fed, 3 _, 4 consumer, 5 kept, 6 channel
abbrev nn_has_circle : List Str := ["channels", "left", "fed", "_", "consumer", "kept", "channel"]
theorem sc_has_circle : FnScope ["channels", "left", "fed", "_", "consumer", "kept", "channel"] ["channels"] (defScope s_has_circle) := ⟨rfl, rfl, rfl, by decide +kernel, rfl, by decide +kernel, by decide +kernel⟩
abbrev s_numbers_at : Stmt := top 16
-- _numbers_at: slots 0 stages, 1 ends, 2 numbers, 3 _, 4 number, 5 stage, 6 row
abbrev nn_numbers_at : List Str := ["stages", "ends", "numbers", "_", "number", "stage", "row"]
theorem sc_numbers_at : FnScope ["stages", "ends", "numbers", "_", "number", "stage", "row"] ["stages", "ends"] (defScope s_numbers_at) := ⟨rfl, rfl, rfl, by decide +kernel, rfl, by decide +kernel, by decide +kernel⟩
abbrev s_joins_two_stages : Stmt := top 17
-- _joins_two_stages: slots 0 stages, 1 channel, 2 ends, 3 end
abbrev nn_joins_two_stages : List Str := ["stages", "channel", "ends", "end"]
theorem sc_joins_two_stages : FnScope ["stages", "channel", "ends", "end"] ["stages", "channel"] (defScope s_joins_two_stages) := ⟨rfl, rfl, rfl, by decide +kernel, rfl, by decide +kernel, by decide +kernel⟩
abbrev s_check_channels : Stmt := top 18
-- _check_channels: slots 0 stages, 1 channels, 2 earlier, 3 position, 4 channel
abbrev nn_check_channels : List Str := ["stages", "channels", "earlier", "position", "channel"]
theorem sc_check_channels : FnScope ["stages", "channels", "earlier", "position", "channel"] ["stages", "channels"] (defScope s_check_channels) := ⟨rfl, rfl, rfl, by decide +kernel, rfl, by decide +kernel, by decide +kernel⟩
abbrev s_with_capacity : Stmt := top 19
-- _with_capacity: slots 0 channel, 1 capacity, 2 own
abbrev nn_with_capacity : List Str := ["channel", "capacity", "own"]
theorem sc_with_capacity : FnScope ["channel", "capacity", "own"] ["channel", "capacity"] (defScope s_with_capacity) := ⟨rfl, rfl, rfl, by decide +kernel, rfl, by decide +kernel, by decide +kernel⟩
abbrev s_law_cell : Stmt := top 21
-- _law_cell: slots 0 script, 1 k
abbrev nn_law_cell : List Str := ["script", "k"]
theorem sc_law_cell : FnScope ["script", "k"] ["script", "k"] (defScope s_law_cell) := ⟨rfl, rfl, rfl, by decide +kernel, rfl, by decide +kernel, by decide +kernel⟩
abbrev s_law_bag : Stmt := top 22
-- _law_bag: slots 0 script, 1 k, 2 cell
abbrev nn_law_bag : List Str := ["script", "k", "cell"]
theorem sc_law_bag : FnScope ["script", "k", "cell"] ["script", "k"] (defScope s_law_bag) := ⟨rfl, rfl, rfl, by decide +kernel, rfl, by decide +kernel, by decide +kernel⟩
abbrev s_law_draw : Stmt := top 23
-- _law_draw: slots 0 bag, 1 many, 2 digit, 3 mixed
abbrev nn_law_draw : List Str := ["bag", "many", "digit", "mixed"]
theorem sc_law_draw : FnScope ["bag", "many", "digit", "mixed"] ["bag", "many"] (defScope s_law_draw) := ⟨rfl, rfl, rfl, by decide +kernel, rfl, by decide +kernel, by decide +kernel⟩
abbrev s_law_same : Stmt := top 24
-- _law_same: slots 0 told, 1 due
abbrev nn_law_same : List Str := ["told", "due"]
theorem sc_law_same : FnScope ["told", "due"] ["told", "due"] (defScope s_law_same) := ⟨rfl, rfl, rfl, by decide +kernel, rfl, by decide +kernel, by decide +kernel⟩
abbrev s_law_same_row : Stmt := top 25
-- _law_same_row: slots 0 told, 1 due, 2 k
abbrev nn_law_same_row : List Str := ["told", "due", "k"]
theorem sc_law_same_row : FnScope ["told", "due", "k"] ["told", "due"] (defScope s_law_same_row) := ⟨rfl, rfl, rfl, by decide +kernel, rfl, by decide +kernel, by decide +kernel⟩
abbrev s_law_same_rows : Stmt := top 26
-- _law_same_rows: slots 0 told, 1 due, 2 k
abbrev nn_law_same_rows : List Str := ["told", "due", "k"]
theorem sc_law_same_rows : FnScope ["told", "due", "k"] ["told", "due"] (defScope s_law_same_rows) := ⟨rfl, rfl, rfl, by decide +kernel, rfl, by decide +kernel, by decide +kernel⟩
abbrev s_law_order : Stmt := top 27
-- _law_order: slots 0 bag, 1 many, 2 left, 3 k, 4 row
abbrev nn_law_order : List Str := ["bag", "many", "left", "k", "row"]
theorem sc_law_order : FnScope ["bag", "many", "left", "k", "row"] ["bag", "many"] (defScope s_law_order) := ⟨rfl, rfl, rfl, by decide +kernel, rfl, by decide +kernel, by decide +kernel⟩
abbrev s_law_number : Stmt := top 28
-- _law_number: slots 0 thing, 1 least, 2 most
abbrev nn_law_number : List Str := ["thing", "least", "most"]
theorem sc_law_number : FnScope ["thing", "least", "most"] ["thing", "least", "most"] (defScope s_law_number) := ⟨rfl, rfl, rfl, by decide +kernel, rfl, by decide +kernel, by decide +kernel⟩
abbrev s_law_channel_fault : Stmt := top 29
-- _law_channel_fault: slots 0 count, 1 given, 2 place, 3 one, 4 k
abbrev nn_law_channel_fault : List Str := ["count", "given", "place", "one", "k"]
theorem sc_law_channel_fault : FnScope ["count", "given", "place", "one", "k"] ["count", "given", "place"] (defScope s_law_channel_fault) := ⟨rfl, rfl, rfl, by decide +kernel, rfl, by decide +kernel, by decide +kernel⟩
abbrev s_law_circle : Stmt := top 30
-- _law_circle: slots 0 count, 1 given, 2 left, 3 k, 4 turn, 5 ends, 6 one, 7 kept
abbrev nn_law_circle : List Str := ["count", "given", "left", "k", "turn", "ends", "one", "kept"]
theorem sc_law_circle : FnScope ["count", "given", "left", "k", "turn", "ends", "one", "kept"] ["count", "given"] (defScope s_law_circle) := ⟨rfl, rfl, rfl, by decide +kernel, rfl, by decide +kernel, by decide +kernel⟩
abbrev s_law_fault : Stmt := top 31
-- _law_fault: slots 0 count, 1 given, 2 extra, 3 place, 4 word
abbrev nn_law_fault : List Str := ["count", "given", "extra", "place", "word"]
theorem sc_law_fault : FnScope ["count", "given", "extra", "place", "word"] ["count", "given", "extra"] (defScope s_law_fault) := ⟨rfl, rfl, rfl, by decide +kernel, rfl, by decide +kernel, by decide +kernel⟩
abbrev s_law_full : Stmt := top 32
-- _law_full: slots 0 count, 1 c
abbrev nn_law_full : List Str := ["count", "c"]
theorem sc_law_full : FnScope ["count", "c"] ["count", "c"] (defScope s_law_full) := ⟨rfl, rfl, rfl, by decide +kernel, rfl, by decide +kernel, by decide +kernel⟩
abbrev s_law_over : Stmt := top 33
-- _law_over: slots 0 count, 1 c
abbrev nn_law_over : List Str := ["count", "c"]
theorem sc_law_over : FnScope ["count", "c"] ["count", "c"] (defScope s_law_over) := ⟨rfl, rfl, rfl, by decide +kernel, rfl, by decide +kernel, by decide +kernel⟩
abbrev s_law_forty : Stmt := top 34
-- _law_forty: slots 0 count, 1 c
abbrev nn_law_forty : List Str := ["count", "c"]
theorem sc_law_forty : FnScope ["count", "c"] ["count", "c"] (defScope s_law_forty) := ⟨rfl, rfl, rfl, by decide +kernel, rfl, by decide +kernel, by decide +kernel⟩
abbrev s_law_left_out : Stmt := top 35
-- _law_left_out: slots 0 count, 1 c
abbrev nn_law_left_out : List Str := ["count", "c"]
theorem sc_law_left_out : FnScope ["count", "c"] ["count", "c"] (defScope s_law_left_out) := ⟨rfl, rfl, rfl, by decide +kernel, rfl, by decide +kernel, by decide +kernel⟩
abbrev s_law_keyed : Stmt := top 36
-- _law_keyed: slots 0 count, 1 c, 2 extra
abbrev nn_law_keyed : List Str := ["count", "c", "extra"]
theorem sc_law_keyed : FnScope ["count", "c", "extra"] ["count", "c", "extra"] (defScope s_law_keyed) := ⟨rfl, rfl, rfl, by decide +kernel, rfl, by decide +kernel, by decide +kernel⟩
abbrev s_law_good : Stmt := top 37
-- _law_good: slots 0 net, 1 count, 2 given, 3 extra, 4 due, 5 one
abbrev nn_law_good : List Str := ["net", "count", "given", "extra", "due", "one"]
theorem sc_law_good : FnScope ["net", "count", "given", "extra", "due", "one"] ["net", "count", "given", "extra"] (defScope s_law_good) := ⟨rfl, rfl, rfl, by decide +kernel, rfl, by decide +kernel, by decide +kernel⟩
abbrev s_law_answered : Stmt := top 38
-- _law_answered: slots 0 count, 1 given, 2 extra, 3 keyed, 4 due, 5 net, 6 refusal
abbrev nn_law_answered : List Str := ["count", "given", "extra", "keyed", "due", "net", "refusal"]
theorem sc_law_answered : FnScope ["count", "given", "extra", "keyed", "due", "net", "refusal"] ["count", "given", "extra", "keyed", "due"] (defScope s_law_answered) := ⟨rfl, rfl, rfl, by decide +kernel, rfl, by decide +kernel, by decide +kernel⟩
abbrev s_law_count : Stmt := top 39
-- _law_count: slots 0 bag, 1 way
abbrev nn_law_count : List Str := ["bag", "way"]
theorem sc_law_count : FnScope ["bag", "way"] ["bag"] (defScope s_law_count) := ⟨rfl, rfl, rfl, by decide +kernel, rfl, by decide +kernel, by decide +kernel⟩
abbrev s_law_extra : Stmt := top 40
-- _law_extra: slots 0 bag, 1 way
abbrev nn_law_extra : List Str := ["bag", "way"]
theorem sc_law_extra : FnScope ["bag", "way"] ["bag"] (defScope s_law_extra) := ⟨rfl, rfl, rfl, by decide +kernel, rfl, by decide +kernel, by decide +kernel⟩
abbrev s_law_bent : Stmt := top 41
-- _law_bent: slots 0 bag, 1 count, 2 a, 3 b, 4 way, 5 size, 6 end
abbrev nn_law_bent : List Str := ["bag", "count", "a", "b", "way", "size", "end"]
theorem sc_law_bent : FnScope ["bag", "count", "a", "b", "way", "size", "end"] ["bag", "count", "a", "b"] (defScope s_law_bent) := ⟨rfl, rfl, rfl, by decide +kernel, rfl, by decide +kernel, by decide +kernel⟩
abbrev s_law_size : Stmt := top 42
-- _law_size: slots 0 bag, 1 way
abbrev nn_law_size : List Str := ["bag", "way"]
theorem sc_law_size : FnScope ["bag", "way"] ["bag"] (defScope s_law_size) := ⟨rfl, rfl, rfl, by decide +kernel, rfl, by decide +kernel, by decide +kernel⟩
abbrev s_law_given : Stmt := top 43
-- _law_given: slots 0 bag, 1 count, 2 style, 3 turned, 4 given, 5 seen, 6 k, 7 a, 8 b, 9 first, 10 one
abbrev nn_law_given : List Str := ["bag", "count", "style", "turned", "given", "seen", "k", "a", "b", "first", "one"]
theorem sc_law_given : FnScope ["bag", "count", "style", "turned", "given", "seen", "k", "a", "b", "first", "one"] ["bag", "count"] (defScope s_law_given) := ⟨rfl, rfl, rfl, by decide +kernel, rfl, by decide +kernel, by decide +kernel⟩
abbrev s_law_small : Stmt := top 44
-- _law_small: slots 0 bag, 1 count, 2 usual, 3 given, 4 keyed, 5 extra, 6 turn, 7 due
abbrev nn_law_small : List Str := ["bag", "count", "usual", "given", "keyed", "extra", "turn", "due"]
theorem sc_law_small : FnScope ["bag", "count", "usual", "given", "keyed", "extra", "turn", "due"] ["bag"] (defScope s_law_small) := ⟨rfl, rfl, rfl, by decide +kernel, rfl, by decide +kernel, by decide +kernel⟩
abbrev s_law_pairs : Stmt := top 45
-- _law_pairs: slots 0 count, 1 pairs, 2 a, 3 b
abbrev nn_law_pairs : List Str := ["count", "pairs", "a", "b"]
theorem sc_law_pairs : FnScope ["count", "pairs", "a", "b"] ["count"] (defScope s_law_pairs) := ⟨rfl, rfl, rfl, by decide +kernel, rfl, by decide +kernel, by decide +kernel⟩
abbrev s_law_large : Stmt := top 46
-- _law_large: slots 0 bag, 1 count, 2 step, 3 short, 4 given, 5 a, 6 b, 7 few, 8 place, 9 way
abbrev nn_law_large : List Str := ["bag", "count", "step", "short", "given", "a", "b", "few", "place", "way"]
theorem sc_law_large : FnScope ["bag", "count", "step", "short", "given", "a", "b", "few", "place", "way"] ["bag"] (defScope s_law_large) := ⟨rfl, rfl, rfl, by decide +kernel, rfl, by decide +kernel, by decide +kernel⟩
abbrev s_law_round_trip : Stmt := top 47
-- _law_round_trip: slots 0 bag, 1 turned, 2 step, 3 given, 4 k, 5 place, 6 ends, 7 last, 8 row
abbrev nn_law_round_trip : List Str := ["bag", "turned", "step", "given", "k", "place", "ends", "last", "row"]
theorem sc_law_round_trip : FnScope ["bag", "turned", "step", "given", "k", "place", "ends", "last", "row"] ["bag"] (defScope s_law_round_trip) := ⟨rfl, rfl, rfl, by decide +kernel, rfl, by decide +kernel, by decide +kernel⟩
abbrev s_law : Stmt := top 48
-- law: slots 0 script, 1 made, 2 k, 3 bag, 4 way, 5 good
abbrev nn_law : List Str := ["script", "made", "k", "bag", "way", "good"]
theorem sc_law : FnScope ["script", "made", "k", "bag", "way", "good"] ["script"] (defScope s_law) := ⟨rfl, rfl, rfl, by decide +kernel, rfl, by decide +kernel, by decide +kernel⟩
end WC

set_option maxHeartbeats 4000000
namespace WC
open PySem PySem.Spec PyProof.Rows L2
/-- built-ins' names that the module leaves alone -/
structure Blt (mg : Str → Option Value) : Prop where
  isi : mg "isinstance" = none
  int : mg "int" = none
  bool : mg "bool" = none
  tuple : mg "tuple" = none
  list : mg "list" = none
  str : mg "str" = none
  len : mg "len" = none
  range : mg "range" = none
  sorted : mg "sorted" = none
  enum : mg "enumerate" = none
  sum : mg "sum" = none
  all : mg "all" = none
  max : mg "max" = none
  min : mg "min" = none
  verr : mg "ValueError" = none
/-- a value that the laws hand about: its type is known -/
def Known (K : PySem.W.Frag) (H : Hp) : V → Prop
  | .int _ => True
  | .bl _ => True
  | .non => True
  | .str _ => True
  | .ref a => (∃ xs, H a = some (.tup xs)) ∨ ∃ xs, H a = some (.lst xs)
  | _ => False
/-- the value's type -/
def tyN (H : Hp) : V → String
  | .int _ => "int"
  | .bl _ => "bool"
  | .non => "NoneType"
  | .str _ => "str"
  | .ref a => match H a with
    | some (.tup _) => "tuple"
    | _ => "list"
  | _ => "list"
theorem Known.ty {K : PySem.W.Frag} {H : Hp} {x : V} (k : Known K H x) : TyX K H x (.type (tyN H x)) := by
  cases x with
  | int i => exact .base (.int i)
  | bl b => exact .base (.bl b)
  | non => exact .base .non
  | str z => exact .base (.str z)
  | ref a =>
    rcases k with ⟨xs, e⟩ | ⟨xs, e⟩
    · have q : tyN H (.ref a) = "tuple" := by simp only [tyN, e]
      rw [q]
      exact .base (.tup e)
    · have q : tyN H (.ref a) = "list" := by simp only [tyN, e]
      rw [q]
      exact .base (.lst e)
  | byt b => exact k.elim
  | flt b => exact k.elim
  | ty n => exact k.elim
theorem tyN_ref {H : Hp} {a : Addr} : tyN H (.ref a) = "tuple" ∨ tyN H (.ref a) = "list" := by
  simp only [tyN]
  split
  · exact .inl rfl
  · exact .inr rfl
/-- an int within the bounds -/
def btw (x : V) (lo hi : Int) : Bool := match x with
  | .int i => decide (lo ≤ i) && decide (i ≤ hi)
  | _ => false
def isIV : V → Bool
  | .int _ => true
  | _ => false
def isBV : V → Bool
  | .bl _ => true
  | _ => false
theorem kb (a b : String) (r : Bool) (h : kitB a b = some r) {K : PySem.W.Frag} {t : String} (e : t = a) : PySem.W.kitOne K (.type t) (.type b) = some r := by
  rw [e]
  exact kit_ty h
theorem kit_int {K : PySem.W.Frag} {H : Hp} {x : V} (k : Known K H x) : PySem.W.kitOne K (.type (tyN H x)) (.type "int") = some (isIV x || isBV x) := by
  cases x with
  | int i => exact kb "int" "int" true (by decide +kernel) rfl
  | bl b => exact kb "bool" "int" true (by decide +kernel) rfl
  | non  => exact kb "NoneType" "int" false (by decide +kernel) rfl
  | str z => exact kb "str" "int" false (by decide +kernel) rfl
  | ref a =>
    rcases @tyN_ref H a with q | q
    · exact kb "tuple" "int" false (by decide +kernel) q
    · exact kb "list" "int" false (by decide +kernel) q
  | byt b => exact k.elim
  | flt b => exact k.elim
  | ty n => exact k.elim
theorem kit_bool {K : PySem.W.Frag} {H : Hp} {x : V} (k : Known K H x) : PySem.W.kitOne K (.type (tyN H x)) (.type "bool") = some (isBV x) := by
  cases x with
  | int i => exact kb "int" "bool" false (by decide +kernel) rfl
  | bl b => exact kb "bool" "bool" true (by decide +kernel) rfl
  | non  => exact kb "NoneType" "bool" false (by decide +kernel) rfl
  | str z => exact kb "str" "bool" false (by decide +kernel) rfl
  | ref a =>
    rcases @tyN_ref H a with q | q
    · exact kb "tuple" "bool" false (by decide +kernel) q
    · exact kb "list" "bool" false (by decide +kernel) q
  | byt b => exact k.elim
  | flt b => exact k.elim
  | ty n => exact k.elim
def spBtw (K : PySem.W.Frag) : Sp := fun vs H Q _ => ∃ (x : V) (lo hi : Int), vs = [x, .int lo, .int hi] ∧ Known K H x ∧ Q (.bl (btw x lo hi)) H
section
variable {P : Program} {w : World} {K : PySem.W.Frag} {mg : Str → Option Value} {base : Heap}
theorem ok_is_between {f : Addr} {fd : FuncData} (F : Fun K "is_between" "is_between" s_is_between f fd) (B : Blt mg) : FnOk P w K mg base (L2.CX P w) 1 f fd ["value", "low", "high"] (spBtw K) := by
  refine F.okX sc_is_between (fun vs H Q E h => ?_) (fun cdv A outer s H vs Q E hr h => ?_)
  · obtain ⟨x, lo, hi, rfl, _⟩ := h
    rfl
  · obtain ⟨x, lo, hi, rfl, hk, k⟩ := h
    refine ⟨_, pss_one (ps_ret (pe_and (pe_callB call_isi (by rfl) B.isi (by decide +kernel) (pa_cons (pv 0) (pa_cons (pe_bltn (v := .ty "int") (by rfl) B.int (by decide +kernel) rfl) pa_nil)))
      (pe_and (pe_not (pe_callB call_isi (by rfl) B.isi (by decide +kernel) (pa_cons (pv 0) (pa_cons (pe_bltn (v := .ty "bool") (by rfl) B.bool (by decide +kernel) rfl) pa_nil))))
        (pe_one (pe_chain op_le op_le (pv 1) (pv 0) (pv 2)))))), ?_⟩
    refine ⟨_, rfl, _, _, _, _, _, rfl, .ty _, hk.ty, kit_int hk, _, rfl, ?_⟩
    cases x with
    | int i =>
      refine iteT ⟨_, rfl, _, _, _, _, _, rfl, .ty _, hk.ty, kit_bool hk, _, rfl, _, rfl, ?_⟩
      refine iteT ⟨_, rfl, _, rfl, _, _, rfl, rfl, _, rfl, ?_⟩
      refine ite2 (fun e => ⟨_, rfl, _, _, rfl, rfl, ?_⟩) (fun e => ?_)
      · have q : btw (.int i) lo hi = decide (i ≤ hi) := by unfold btw; simp [e]
        rw [q] at k
        exact k
      · have q : btw (.int i) lo hi = false := by unfold btw; simp; intro z; simp [z] at e
        rw [q] at k
        exact k
    | bl b => exact iteT ⟨_, rfl, _, _, _, _, _, rfl, .ty _, hk.ty, kit_bool hk, _, rfl, _, rfl, iteF k⟩
    | non => exact iteF k
    | str z => exact iteF k
    | ref a => exact iteF k
    | byt b => exact hk.elim
    | flt b => exact hk.elim
    | ty n => exact hk.elim
end
end WC

set_option maxHeartbeats 4000000
namespace WC
open PySem PySem.Spec PyProof.Rows L2
def flN : List V → List (Str × V)
  | [v] => [("number", v)]
  | _ => []
section
variable {P : Program} {w : World} {K : PySem.W.Frag} {mg : Str → Option Value} {base : Heap}
theorem ok_NotFound_init {f C : Addr} {fd : FuncData} (F : Fun K "__init__" "NotFound.__init__" s_NotFound_init f fd) (T : OexC K C) (hno : PySem.W.findIn K (.ref C) "number" = some none) : FnOk P w K mg base (L2.CX P w) 1 f fd ["self", "number"] (spX C 1 flN) := by
  refine F.okX sc_NotFound_init (fun vs H Q E h => ?_) (fun cdv A outer s H vs Q E hr h => ?_)
  · obtain ⟨a, ws, rfl, hl, _⟩ := h
    simp [hl]
  · obtain ⟨a, ws, rfl, hl, ha, k⟩ := h
    match ws, hl with
    | [v], _ =>
      refine ⟨_, pss_one (ps_ost (pv 0) (pv 1)), ?_⟩
      exact ⟨_, rfl, _, rfl, a, C, rfl, T, hno, .inl ⟨ha, fun d hd hne => k d hd hne⟩⟩
/-- check_number(value, many): nothing, or NotFound(value) -/
def spCheckNumber (K : PySem.W.Frag) (CN : Addr) : Sp := fun vs H Q E => ∃ (x : V) (n : Int), vs = [x, .int n] ∧ Known K H x ∧
  (btw x 0 (n - 1) = true → Q .non H) ∧ (btw x 0 (n - 1) = false → ∀ d, H d = none → E (.ref CN) (some d) (upd H d (.xd [("number", x)])))
theorem ok_check_number {f CN : Addr} {fd : FuncData} {k : Nat} (F : Fun K "check_number" "check_number" s_check_number f fd) (G : DefR P w K mg base "is_between" 1 (spBtw K)) (T : ExcR P w K mg base "NotFound" CN 1 1 flN) : FnOk P w K mg base (L2.CX P w) 3 f fd ["value", "many"] (spCheckNumber K CN) := by
  refine F.okX sc_check_number (fun vs H Q E h => ?_) (fun cdv A outer s H vs Q E hr h => ?_)
  · obtain ⟨x, n, rfl, _⟩ := h
    rfl
  · obtain ⟨x, n, rfl, hk, k1, k2⟩ := h
    refine ⟨_, pss_one (ps_if (pt_not (pt_val (pe_cd G hr psE (pa_cons (pv 0) (pa_cons pe_int (pa_cons (pe_op op_sub (pv 1) pe_int) pa_nil)))))) (pss_one (ps_raise rfl (takes_of rfl rfl rfl rfl) (pmk_x T hr (pa_cons (pv 0) pa_nil)))) pss_nil), ?_⟩
    refine ⟨_, rfl, _, rfl, _, _, rfl, rfl, _, _, _, rfl, hk, _, rfl, ?_⟩
    cases e : btw x 0 (n - 1) with
    | true => exact iteF (k1 e)
    | false => exact iteT ⟨_, rfl, x_use rfl (by decide) fun d hd => k2 e d hd⟩
end
end WC

set_option maxHeartbeats 4000000
namespace WC
open PySem PySem.Spec PyProof.Rows L2
/-- _numbers_at(stages, ends) -/
def spNums : Sp := fun vs H Q _ => ∃ (n : Nat) (l : Addr) (es : List Int), vs = [.int n, .ref l] ∧ n ≤ 40 ∧ H l = some (.lst (es.map V.int)) ∧ es.length ≤ 1000 ∧ (∀ e ∈ es, 0 ≤ e ∧ e < n) ∧
  ∀ H2 r, Same H H2 → H r = none → RowsA H2 r n es → Q (.ref r) H2
/-- the rows while they are filled -/
structure Filling (H0 H : Hp) (D : Addr) (ls : List Addr) (n : Nat) (es : List Int) (m : Nat) : Prop where
  same : Same H0 H
  dN : H0 D = none
  dL : H D = some (.lst (ls.map V.ref))
  len : ls.length = n
  nod : ls.Nodup
  fresh : ∀ l ∈ ls, H0 l = none ∧ l ≠ D
  rows : ∀ (j : Nat) l, ls[j]? = some l → H l = some (.lst ((occ es (j : Int) m).map V.int))
section
variable {P : Program} {w : World} {K : PySem.W.Frag} {mg : Str → Option Value} {base : Heap}
theorem ok_numbers_at {f : Addr} {fd : FuncData} (F : Fun K "_numbers_at" "_numbers_at" s_numbers_at f fd) (B : Blt mg) : FnOk P w K mg base (L2.CX P w) 1 f fd ["stages", "ends"] spNums := by
  refine F.okX sc_numbers_at (fun vs H Q E h => ?_) (fun cdv A outer s H vs Q E hr h => ?_)
  · obtain ⟨n, l, es, rfl, _⟩ := h
    rfl
  · obtain ⟨n, l, es, rfl, hn, hl, hle, hes, k⟩ := h
    -- slots: 0 stages, 1 ends, 2 numbers, 3 _, 4 number, 5 stage, 6 row
    refine ⟨_, pss_cons (ps_setLc (i := 2) (own := [("_", 3)]) rfl sc_numbers_at.nd rfl rfl (sw_true rfl rfl rfl (by decide +kernel)) (pi_range1 (by rfl) B.range (pa_cons (pv 0) pa_nil)) (blkOk_by (N := nn_numbers_at) (sc := defScope s_numbers_at) (own := [("_", 3)]) (by decide +kernel))
        (fun _ _ _ _ _ => pg_name (i := 3) sc_numbers_at.nd rfl (Or.inl rfl)) (fun _ _ _ _ _ => pts_nil) (fun _ _ _ _ _ => pe_lst pa_nil))
      (pss_cons (ps_for (passes_of rfl) rfl (pi_enum (by rfl) B.enum (pa_cons (pv 1) pa_nil)) (pg_tup rfl (pgs_cons (pg_name (i := 4) sc_numbers_at.nd rfl (Or.inl rfl)) (pgs_cons (pg_name (i := 5) sc_numbers_at.nd rfl (Or.inl rfl)) pgs_nil)))
        (pss_one (ps_expr (pe_bm PySem.F.plainAttrs_list PySem.F.slot_list_append PySem.F.type_list_append mt_append (pe_ix ix_list (pv 2) (pv 5) (fun _ _ => rfl)) (pa_cons (pv 4) pa_nil)))))
      (pss_one (ps_ret (pe_callTy call_tuple_of (by rfl) B.tuple (by decide +kernel) (pa_cons
        (pe_lc (own := [("row", 6)]) rfl sc_numbers_at.nd (pi_list (pv 2)) (blkOk_by (N := nn_numbers_at) (sc := defScope s_numbers_at) (own := [("row", 6)]) (by decide +kernel)) (fun _ _ _ _ _ => pg_name (i := 6) sc_numbers_at.nd rfl (Or.inl rfl)) (fun _ _ _ _ _ => pts_nil)
          (fun _ _ _ _ _ => pe_callTy (T := "tuple") (c_tup (K := K)) (by rfl) B.tuple bt_tuple (pa_cons (pv 6) pa_nil))) pa_nil))))), ?_⟩
    -- numbers = [[] for _ in range(stages)]
    refine ⟨_, rfl, (n : Int), rfl, by omega, by omega, fun D hD => lc_range (lo := 0) (n := n) (fun i H2 => ∃ ls, Filling H H2 D ls i es 0) ⟨[], ?_⟩ ?_ ?_⟩
    · exact ⟨Same.new hD, hD, upd_same, rfl, List.nodup_nil, fun _ z => (by cases z), fun j l e => (by simp at e)⟩
    · rintro i H2 hi ⟨ls, Fl⟩
      refine ⟨rfl, ?_⟩
      refine yes ?_
      refine ⟨by decide, fun p hp => ⟨ls.map V.ref, ?_, ?_, ls ++ [p], ?_⟩⟩
      · rw [upd_ne (ne_of_none Fl.dL hp)]
        exact Fl.dL
      · rw [List.length_map, Fl.len]
        exact line_lt (by omega)
      · have pD : p ≠ D := (ne_of_none Fl.dL hp).symm
        have pH : H p = none := Fl.same.free hp
        refine ⟨(Fl.same.newer pH).newer hD, hD, by rw [upd_same, List.map_append]; rfl, by rw [List.length_append, Fl.len]; rfl, ?_, ?_, ?_⟩
        · rw [List.nodup_append]
          refine ⟨Fl.nod, by simp, fun a ha b hb e => ?_⟩
          have hb := List.mem_singleton.mp hb
          obtain ⟨j, hj⟩ := List.mem_iff_getElem?.mp ha
          have z := Fl.rows j a hj
          rw [e, hb, hp] at z
          cases z
        · intro l2 h2
          rcases List.mem_append.mp h2 with h2 | h2
          · exact Fl.fresh l2 h2
          · have e := List.mem_singleton.mp h2
            rw [e]
            exact ⟨pH, pD⟩
        · intro j l2 e
          by_cases hj : j < ls.length
          · rw [List.getElem?_append_left hj] at e
            have z := Fl.rows j l2 e
            have hm := List.mem_of_getElem? e
            rw [upd_ne (Fl.fresh l2 hm).2, upd_ne (ne_of_none z hp)]
            exact z
          · rw [List.getElem?_append_right (by omega)] at e
            have e1 : l2 = p := by
              cases q : j - ls.length with
              | zero => rw [q] at e; exact (Option.some.inj e).symm
              | succ m => rw [q] at e; cases e
            rw [e1, upd_ne pD, upd_same, occ_zero]
            rfl
    · -- for number, stage in enumerate(ends)
      rintro H2 ⟨ls, Fl⟩
      refine ⟨_, rfl, l, _, rfl, SqL.of (Fl.same _ _ hl), for_it (walk_enum (xs := es.map V.int)) (fun m σ H3 => ∃ v4 v5 v3 v6, σ = [some (.int n), some (.ref l), some (.ref D), v3, v4, v5, v6] ∧ ∃ ls, Filling H H3 D ls n es m) ⟨_, _, _, _, rfl, ls, Fl⟩ ?_ ?_ ?_⟩
      · rintro i σ H3 _ ⟨_, _, _, _, _, ls, Fl⟩
        exact SqL.of (Fl.same _ _ hl)
      · rintro i x σ H3 H4 hi ⟨v4, v5, v3, v6, rfl, ls, Fl⟩ ⟨T, x1, y1, rfl, hT, rfl, e1, e2⟩
        cases e1
        rw [List.length_map] at hi
        have he : es[i]? = some es[i] := by simp [hi]
        have e3 : y1 = V.int es[i] := by
          have e2 : (es.map V.int)[i]? = some y1 := e2
          rw [List.getElem?_map, he] at e2
          exact (Option.some.inj e2).symm
        subst e3
        obtain ⟨g0, g1⟩ := hes _ (List.mem_of_getElem? he)
        obtain ⟨j, hj⟩ : ∃ j : Nat, es[i] = (j : Int) := ⟨es[i].toNat, by omega⟩
        have hjn : j < ls.length := by rw [Fl.len]; omega
        have hlj : ls[j]? = some ls[j] := by simp [hjn]
        have rj := Fl.rows j _ hlj
        have fj := Fl.fresh _ (List.mem_of_getElem? hlj)
        have TD : D ≠ T := ne_of_none Fl.dL hT
        have Tj : ls[j] ≠ T := ne_of_none rj hT
        refine ⟨T, _, rfl, SqT.of upd_same, rfl, ?_⟩
        refine ⟨_, _, rfl, _, _, rfl, rfl, _, rfl, _, rfl, D, _, _, .ref ls[j], rfl, rfl, SqL.of (by rw [upd_ne TD]; exact Fl.dL), ?_, ?_⟩
        · rw [hj]
          exact atI_nat (by rw [List.getElem?_map, hlj]; rfl)
        refine ⟨.inl ⟨rfl, _, SqL.of (by rw [upd_ne Tj]; exact rj)⟩, _, rfl, ls[j], _, _, rfl, rfl, by rw [upd_ne Tj]; exact rj, ?_, ?_⟩
        · rw [List.length_map]
          exact line_lt (by have := occ_len es (j : Int) i; omega)
        refine ⟨_, _, _, _, rfl, ls, ?_⟩
        have hTH : H T = none := Fl.same.free hT
        have hit : occ es (j : Int) (i + 1) = occ es (j : Int) i ++ [(i : Int)] := occ_hit (by rw [he, hj])
        refine ⟨(Fl.same.newer hTH).newer fj.1, hD, by rw [upd_ne (Ne.symm fj.2), upd_ne TD]; exact Fl.dL, Fl.len, Fl.nod, Fl.fresh, fun q l2 e => ?_⟩
        by_cases hq : q = j
        · subst hq
          rw [hlj] at e
          cases e
          rw [upd_same, hit, List.map_append]
          rfl
        · have ne : l2 ≠ ls[j] := fun z => hq ((List.getElem?_inj (by have := (List.getElem?_eq_some_iff.mp e).1; omega) Fl.nod).mp (by rw [e, hlj, z]))
          have z := Fl.rows q l2 e
          rw [upd_ne ne, upd_ne (ne_of_none z hT), occ_miss (e := es[i]) he (by rw [hj]; omega)]
          exact z
      · -- the tuples
        rintro σ H3 ⟨v4, v5, v3, v6, rfl, ls, Fl⟩
        rw [List.length_map] at Fl
        refine ⟨_, rfl, D, rfl, ⟨_, SqL.of Fl.dL⟩, fun R hR => lc_list (K := K) (a := D) (xs := ls.map V.ref) (fun m H4 => Same H3 H4 ∧ ∃ ts : List V, H4 R = some (.lst ts) ∧ ts.length = m ∧ ∀ (j : Nat) v, ts[j]? = some v → ∃ t, v = .ref t ∧ H4 t = some (.tup ((occ es (j : Int) es.length).map V.int))) ⟨Same.new hR, [], upd_same, rfl, fun j v e => by simp at e⟩ (fun i H4 _ h4 => SqL.of (h4.1 _ _ Fl.dL)) ?_ ?_⟩
        · rintro i x H4 hx ⟨s4, ts, t1, t2, t3⟩
          rw [List.getElem?_map] at hx
          obtain ⟨lx, e1, e2⟩ : ∃ lx, ls[i]? = some lx ∧ x = V.ref lx := by
            cases q : ls[i]? with
            | none => rw [q] at hx; cases hx
            | some lx => rw [q] at hx; exact ⟨lx, rfl, (Option.some.inj hx).symm⟩
          subst e2
          refine ⟨rfl, ?_⟩
          refine yes ?_
          refine ⟨_, rfl, lx, _, rfl, .inl ⟨SqL.of (s4 _ _ (Fl.rows i lx e1)), fun p hp => ⟨ts, ?_, ?_, ?_, ts ++ [.ref p], upd_same, by rw [List.length_append, t2]; rfl, ?_⟩⟩⟩
          · rw [upd_ne (ne_of_none t1 hp)]
            exact t1
          · have : i < ls.length := (List.getElem?_eq_some_iff.mp e1).1
            have := Fl.len
            exact line_lt (by omega)
          · exact Same.newer (Same.newer s4 (Same.free s4 hp)) hR
          · have pR : p ≠ R := (ne_of_none t1 hp).symm
            intro j v e
            by_cases hj : j < ts.length
            · rw [List.getElem?_append_left hj] at e
              obtain ⟨t, q1, q2⟩ := t3 j v e
              have tR : t ≠ R := fun z => by
                rw [z, t1] at q2
                cases q2
              refine ⟨t, q1, ?_⟩
              rw [upd_ne tR, upd_ne (ne_of_none q2 hp)]
              exact q2
            · rw [List.getElem?_append_right (by omega)] at e
              have e1 : v = V.ref p ∧ j = i := by
                cases q : j - ts.length with
                | zero => rw [q] at e; exact ⟨(Option.some.inj e).symm, by omega⟩
                | succ m => rw [q] at e; cases e
              refine ⟨p, e1.1, ?_⟩
              rw [upd_ne pR, upd_same, e1.2]
        · rintro H4 ⟨s4, ts, t1, t2, t3⟩
          rw [List.length_map, Fl.len] at t2
          refine ⟨R, ts, rfl, .inl ⟨SqL.of t1, fun r hr2 => ?_⟩⟩
          have s5 : Same H H4 := Fl.same.trans s4
          refine k _ r (Same.newer s5 (Same.free s5 hr2)) (Same.free s5 hr2) ⟨ts, upd_same, t2, fun j v e => ?_⟩
          obtain ⟨t, q1, q2⟩ := t3 j v e
          exact ⟨t, q1, by rw [upd_ne (ne_of_none q2 hr2)]; exact q2⟩
end
end WC

set_option maxHeartbeats 4000000
namespace WC
open PySem PySem.Spec PyProof.Rows L2
theorem pr_perm {α β : Type} {F : α → β → Prop} {ys vs : List β} (p : ys.Perm vs) : ∀ {cs : List α}, Paired F cs vs → ∃ cs2 : List α, cs2.Perm cs ∧ Paired F cs2 ys := by
  induction p with
  | nil => intro cs h; exact ⟨cs, .refl _, h⟩
  | cons x p ih =>
    intro cs h
    cases h with
    | cons a t =>
      obtain ⟨c2, q, r⟩ := ih t
      exact ⟨_ :: c2, q.cons _, .cons a r⟩
  | swap x y l =>
    intro cs h
    cases h with
    | cons a t =>
      cases t with
      | cons b t => exact ⟨_, .swap _ _ _, .cons b (.cons a t)⟩
  | trans p q ih1 ih2 =>
    intro cs h
    obtain ⟨c2, q1, r1⟩ := ih2 h
    obtain ⟨c3, q2, r2⟩ := ih1 r1
    exact ⟨c3, q2.trans q1, r2⟩
def key (c : Tri) : Int := (c.1 * 1000 + c.2.1) * 1000 + c.2.2
/-- a channel of a net of n stages -/
def ChOk (n : Nat) (c : Tri) : Prop := (0 ≤ c.1 ∧ c.1 < n) ∧ (0 ≤ c.2.1 ∧ c.2.1 < n) ∧ c.1 ≠ c.2.1 ∧ 1 ≤ c.2.2 ∧ c.2.2 ≤ 999
structure NetAt (H : Hp) (x C : Addr) (n : Nat) (cs : List Tri) : Prop where
  ex : ∃ dx tc ti to vs, H x = some (.ins C dx [("stages", .int n), ("channels", .ref tc), ("_incoming", .ref ti), ("_outgoing", .ref to)]) ∧ H tc = some (.tup vs) ∧ Paired (TriA H) cs vs ∧ RowsA H ti n (cs.map (·.2.1)) ∧ RowsA H to n (cs.map (·.1))
theorem NetAt.same {H H2 : Hp} {x C : Addr} {n : Nat} {cs : List Tri} (s : Same H H2) (h : NetAt H x C n cs) : NetAt H2 x C n cs := by
  obtain ⟨dx, tc, ti, to, vs, h1, h2, h3, h4, h5⟩ := h.ex
  exact ⟨dx, tc, ti, to, vs, s _ _ h1, s _ _ h2, tris_same s h3, h4.same s, h5.same s⟩
structure NetCls (K : PySem.W.Frag) (C : Addr) : Prop where
  cl : Cls K C
  nS : NoAttr K C "stages"
  nC : NoAttr K C "channels"
  nI : NoAttr K C "_incoming"
  nO : NoAttr K C "_outgoing"
def spNetInit (C : Addr) : Sp := fun vs H Q _ => ∃ (x dx l : Addr) (n : Nat) (cs : List Tri) (ws : List V), vs = [.ref x, .int n, .ref l] ∧ H x = some (.ins C dx []) ∧ n ≤ 40 ∧ cs.length ≤ 130 ∧ H l = some (.lst ws) ∧ Paired (TriA H) cs ws ∧ (∀ c ∈ cs, ChOk n c) ∧
  ∀ H2 cs2, cs2.Perm cs → cs2.Pairwise (fun a b => key a ≤ key b) → (∀ b o, H b = some o → b ≠ x → H2 b = some o) → NetAt H2 x C n cs2 → Q .non H2
abbrev flds4 (a b c d : V) : List (Str × V) := [(("stages" : Str), a), (("channels" : Str), b), (("_incoming" : Str), c), (("_outgoing" : Str), d)]
theorem fields4 {a b c d : V} : putF "_outgoing" d (putF "_incoming" c (putF "channels" b (putF "stages" a []))) = flds4 a b c d := by
  have h1 : ¬ (("stages" : Str) = "channels") := by decide +kernel
  have h2 : ¬ (("stages" : Str) = "_incoming") := by decide +kernel
  have h3 : ¬ (("stages" : Str) = "_outgoing") := by decide +kernel
  have h4 : ¬ (("channels" : Str) = "_incoming") := by decide +kernel
  have h5 : ¬ (("channels" : Str) = "_outgoing") := by decide +kernel
  have h6 : ¬ (("_incoming" : Str) = "_outgoing") := by decide +kernel
  simp only [putF, h1, h2, h3, h4, h5, h6, if_false]
theorem lk_st {a b c d : V} : (flds4 a b c d).lookup ("stages" : Str) = some a := by simp [List.lookup]
theorem lk_ch {a b c d : V} : (flds4 a b c d).lookup ("channels" : Str) = some b := by
  have h1 : (("channels" : Str) == ("stages" : Str)) = false := by decide +kernel
  simp [List.lookup, h1]
theorem lk_in {a b c d : V} : (flds4 a b c d).lookup ("_incoming" : Str) = some c := by
  have h1 : (("_incoming" : Str) == ("stages" : Str)) = false := by decide +kernel
  have h2 : (("_incoming" : Str) == ("channels" : Str)) = false := by decide +kernel
  simp [List.lookup, h1, h2]
theorem lk_ou {a b c d : V} : (flds4 a b c d).lookup ("_outgoing" : Str) = some d := by
  have h1 : (("_outgoing" : Str) == ("stages" : Str)) = false := by decide +kernel
  have h2 : (("_outgoing" : Str) == ("channels" : Str)) = false := by decide +kernel
  have h3 : (("_outgoing" : Str) == ("_incoming" : Str)) = false := by decide +kernel
  simp [List.lookup, h1, h2, h3]
theorem lk_ch2 {a b : V} : (putF "channels" b (putF "stages" a [])).lookup ("channels" : Str) = some b := by
  rw [lookup_putF, if_pos rfl]
theorem lk_ch3 {a b c : V} : (putF "_incoming" c (putF "channels" b (putF "stages" a []))).lookup ("channels" : Str) = some b := by
  have h4 : ¬ (("channels" : Str) = "_incoming") := by decide +kernel
  rw [lookup_putF, if_neg h4, lookup_putF, if_pos rfl]
theorem code3 (a b c : Int) : TS.code 1000 [a, b, c] = key (a, b, c) := by
  show a * 1000 ^ 2 + (b * 1000 ^ 1 + (c * 1000 ^ 0 + 0)) = (a * 1000 + b) * 1000 + c
  omega
section
variable {P : Program} {w : World} {K : PySem.W.Frag} {mg : Str → Option Value} {base : Heap}
/-- [channel[i] for channel in self.channels] gives the ends -/
theorem ok_Net_init {C f : Addr} {fd : FuncData} (F : Fun K "__init__" "Net.__init__" s_Net_init f fd) (B : Blt mg) (T : NetCls K C) (G : DefR P w K mg base "_numbers_at" 1 spNums) : FnOk P w K mg base (L2.CX P w) 2 f fd ["self", "stages", "channels"] (spNetInit C) := by
  refine F.okX sc_Net_init (fun vs H Q E h => ?_) (fun cdv A outer s H vs Q E hr h => ?_)
  · obtain ⟨x, dx, l, n, cs, ws, rfl, _⟩ := h
    rfl
  · obtain ⟨x, dx, l, n, cs, ws, rfl, hx, hn, hcs, hl, hp, hok, k⟩ := h
    refine ⟨_, pss_cons (ps_fld (pv 0) (pv 1) rfl) (pss_cons (ps_fld (pv 0) (pe_callTy (T := "tuple") (c_tup (K := K)) (by rfl) B.tuple bt_tuple (pa_cons (pe_callB (cr_sort3 (K := K)) (by rfl) B.sorted bt_sorted (pa_cons (pv 2) pa_nil)) pa_nil)) rfl)
      (pss_cons (ps_fld (pv 0) (pe_cd G hr psE (pa_cons (pv 1) (pa_cons (pe_lc (own := [("channel", 3)]) rfl sc_Net_init.nd (pi_tup (pe_fld (pv 0) rfl)) (blkOk_by (N := nn_Net_init) (sc := defScope s_Net_init) (own := [("channel", 3)]) (by decide +kernel)) (fun _ _ _ _ _ => pg_name (i := 3) sc_Net_init.nd rfl (Or.inl rfl)) (fun _ _ _ _ _ => pts_nil)
          (fun _ _ _ _ _ => pe_ix (i_tup (K := K)) (pv 3) pe_int (fun _ _ => rfl))) pa_nil))) rfl)
      (pss_one (ps_fld (pv 0) (pe_cd G hr psE (pa_cons (pv 1) (pa_cons (pe_lc (own := [("channel", 3)]) rfl sc_Net_init.nd (pi_tup (pe_fld (pv 0) rfl)) (blkOk_by (N := nn_Net_init) (sc := defScope s_Net_init) (own := [("channel", 3)]) (by decide +kernel)) (fun _ _ _ _ _ => pg_name (i := 3) sc_Net_init.nd rfl (Or.inl rfl)) (fun _ _ _ _ _ => pts_nil)
          (fun _ _ _ _ _ => pe_ix (i_tup (K := K)) (pv 3) pe_int (fun _ _ => rfl))) pa_nil))) rfl)))), ?_⟩
    have xl : x ≠ l := ne_of hx hl (by intro z; cases z)
    refine ⟨_, rfl, _, rfl, x, C, dx, _, rfl, hx, T.cl, T.nS, by show 0 < 1000; decide, ?_⟩
    -- self.channels = tuple(sorted(channels))
    have lx : l ≠ x := xl.symm
    -- which three ints a value of ws is
    obtain ⟨kf, hkf⟩ : ∃ kf : V → I3, ∀ c v, TriA H c v → kf v = c := by
      classical
      refine ⟨fun v => if h : ∃ c, TriA H c v then h.choose else (0, 0, 0), fun c v hc => ?_⟩
      have h : ∃ c, TriA H c v := ⟨c, hc⟩
      dsimp only
      rw [dif_pos h]
      obtain ⟨t1, e1, e2⟩ := h.choose_spec
      obtain ⟨t2, e3, e4⟩ := hc
      rw [e1] at e3
      cases e3
      rw [e2] at e4
      injection e4 with e4
      injection e4 with e4
      simp only [List.cons.injEq, V.int.injEq, and_true] at e4
      exact Prod.ext e4.1 (Prod.ext e4.2.1 e4.2.2)
    refine ⟨_, rfl, l, ws, kf, rfl, SqL.of (by rw [upd_ne lx]; exact hl), fun v hv => ?_, fun ys p hperm hpw np => ⟨p, ys, rfl, .inl ⟨SqL.of upd_same, fun q nq => ?_⟩⟩⟩
    · obtain ⟨i, hi⟩ := List.mem_iff_getElem?.mp hv
      obtain ⟨c, hc, hcv⟩ := pr_at hp hi
      have e := hkf c v hcv
      obtain ⟨t, rfl, ht⟩ := hcv
      have tx : t ≠ x := ne_of ht hx (by intro z; cases z)
      exact ⟨t, rfl, by rw [upd_ne tx, e]; exact ht⟩
    -- the sorted channels
    obtain ⟨cs2, hcp, hp2⟩ := pr_perm hperm hp
    have hok2 : ∀ c ∈ cs2, ChOk n c := fun c hc => hok c (hcp.mem_iff.mp hc)
    have hlen : cs2.length = cs.length := hcp.length_eq
    have H1x : ∀ {b o}, H b = some o → b ≠ x → upd H x (.ins C dx (putF "stages" (.int n) [])) b = some o := fun {b o} e ne => by rw [upd_ne ne]; exact e
    have np' : H p = none := by
      have px : p ≠ x := fun z => by rw [z, upd_same] at np; cases np
      rw [upd_ne px] at np
      exact np
    have nq1 : upd H x (.ins C dx (putF "stages" (.int n) [])) q = none := Same.free (Same.new np) nq
    have nq' : H q = none := by
      have px : q ≠ x := fun z => by rw [z, upd_same] at nq1; cases nq1
      rw [upd_ne px] at nq1
      exact nq1
    have qx : x ≠ q := ne_of_none hx nq'
    have px : x ≠ p := ne_of_none hx np'
    have hsort : cs2.Pairwise fun a b => key a ≤ key b := by
      rw [List.pairwise_iff_getElem]
      intro i j hi hj hij
      obtain ⟨v1, e1, t1, rfl, f1⟩ := pr_to hp2 (i := i) (a := cs2[i]) (by simp [hi])
      obtain ⟨v2, e2, t2, rfl, f2⟩ := pr_to hp2 (i := j) (a := cs2[j]) (by simp [hj])
      obtain ⟨g1, g2⟩ := List.getElem?_eq_some_iff.mp e1
      obtain ⟨g3, g4⟩ := List.getElem?_eq_some_iff.mp e2
      have z := (List.pairwise_iff_getElem.mp hpw) i j g1 g3 hij
      rw [g2, g4, hkf cs2[i] _ ⟨t1, rfl, f1⟩, hkf cs2[j] _ ⟨t2, rfl, f2⟩] at z
      have y := lex3_no.mp z
      obtain ⟨⟨a1, a2⟩, ⟨a3, a4⟩, _, a5, a6⟩ := hok2 cs2[i] (List.getElem_mem hi)
      obtain ⟨⟨b1, b2⟩, ⟨b3, b4⟩, _, b5, b6⟩ := hok2 cs2[j] (List.getElem_mem hj)
      unfold key
      omega
    refine ⟨_, rfl, x, C, dx, _, rfl, by rw [upd_ne qx, upd_ne px, upd_same], T.cl, T.nC, by show 1 < 1000; decide, ?_⟩
    -- H3: the channels kept
    obtain ⟨H3, eH3⟩ : ∃ H3, H3 = upd (upd (upd (upd H x (.ins C dx (putF "stages" (.int n) []))) p (.lst ys)) q (.tup ys)) x (.ins C dx (putF "channels" (.ref q) (putF "stages" (.int n) []))) := ⟨_, rfl⟩
    rw [← eH3]
    have hx3 : H3 x = some (.ins C dx (putF "channels" (.ref q) (putF "stages" (.int n) []))) := by rw [eH3, upd_same]
    have hq3 : H3 q = some (.tup ys) := by rw [eH3, upd_ne (Ne.symm qx), upd_same]
    have old3 : ∀ b o, H b = some o → b ≠ x → H3 b = some o := fun b o e ne => by
      rw [eH3, upd_ne ne, upd_ne (ne_of_none e nq'), upd_ne (ne_of_none e np'), upd_ne ne]
      exact e
    have hp3 : Paired (TriA H3) cs2 ys := Paired.mapP hp2 fun c v ⟨t, e, ht⟩ => ⟨t, e, old3 _ _ ht (ne_of ht hx (by intro z; cases z))⟩
    have ends : ∀ g : Tri → Int, (∀ c, g c = c.1 ∨ g c = c.2.1) → ∀ e ∈ cs2.map g, 0 ≤ e ∧ e < n := fun g hg e he => by
      obtain ⟨c, hc, e1⟩ := List.mem_map.mp he
      obtain ⟨b1, b2, _⟩ := hok2 c hc
      rcases hg c with z | z <;> rw [← e1, z] <;> assumption
    -- self._incoming
    refine ⟨_, rfl, ?_⟩
    refine comp_sel (K := K) (tc := q) (cs := cs2) (vs := ys) (fun c => c.2.1) (fun c => atI_nat (j := 1) rfl) (fun R hR => ⟨_, rfl, x, C, dx, _, _, rfl, hx3, T.cl, T.nC, lk_ch2, q, rfl, ⟨_, SqT.of hq3⟩, hR⟩) hq3 hp3 (by omega) (fun _ => rfl) (fun _ => rfl) fun D H4 s4 nD hD => ?_
    refine ⟨n, D, _, rfl, hn, hD, by rw [List.length_map]; omega, ends _ fun c => .inr rfl, fun H5 r s5 nr rows => ?_⟩
    have s35 : Same H3 H5 := s4.trans s5
    refine ⟨_, rfl, x, C, dx, _, rfl, s35 _ _ hx3, T.cl, T.nI, by show 2 < 1000; decide, ?_⟩
    obtain ⟨H6, eH6⟩ : ∃ H6, H6 = upd H5 x (.ins C dx (putF "_incoming" (.ref r) (putF "channels" (.ref q) (putF "stages" (.int n) [])))) := ⟨_, rfl⟩
    rw [← eH6]
    have hx6 : H6 x = some (.ins C dx (putF "_incoming" (.ref r) (putF "channels" (.ref q) (putF "stages" (.int n) [])))) := by rw [eH6, upd_same]
    have old6 : ∀ b o, H3 b = some o → b ≠ x → H6 b = some o := fun b o e ne => by
      rw [eH6, upd_ne ne]
      exact s35 _ _ e
    have rows6 : RowsA H6 r n (cs2.map fun c => c.2.1) := by
      obtain ⟨ts, r1, r2, r3⟩ := rows
      have nx : ∀ {b xs}, H5 b = some (.tup xs) → b ≠ x := fun {b xs} e => ne_of e (s35 _ _ hx3) (by intro z; cases z)
      refine ⟨ts, by rw [eH6, upd_ne (nx r1)]; exact r1, r2, fun j v e => ?_⟩
      obtain ⟨t, e1, e2⟩ := r3 j v e
      exact ⟨t, e1, by rw [eH6, upd_ne (nx e2)]; exact e2⟩
    have hq6 : H6 q = some (.tup ys) := old6 _ _ hq3 (Ne.symm qx)
    have hp6 : Paired (TriA H6) cs2 ys := Paired.mapP hp3 fun c v ⟨t, e, ht⟩ => ⟨t, e, old6 _ _ ht (ne_of ht hx3 (by intro z; cases z))⟩
    -- self._outgoing
    refine ⟨_, rfl, ?_⟩
    refine comp_sel (K := K) (tc := q) (cs := cs2) (vs := ys) (fun c => c.1) (fun c => atI_nat (j := 0) rfl) (fun R hR => ⟨_, rfl, x, C, dx, _, _, rfl, hx6, T.cl, T.nC, lk_ch3, q, rfl, ⟨_, SqT.of hq6⟩, hR⟩) hq6 hp6 (by omega) (fun _ => rfl) (fun _ => rfl) fun D2 H7 s7 nD2 hD2 => ?_
    refine ⟨n, D2, _, rfl, hn, hD2, by rw [List.length_map]; omega, ends _ fun c => .inl rfl, fun H8 r2 s8 nr2 rows2 => ?_⟩
    have s68 : Same H6 H8 := s7.trans s8
    refine ⟨_, rfl, x, C, dx, _, rfl, s68 _ _ hx6, T.cl, T.nO, by show 3 < 1000; decide, ?_⟩
    have nx8 : ∀ {b xs}, H8 b = some (.tup xs) → b ≠ x := fun {b xs} e => ne_of e (s68 _ _ hx6) (by intro z; cases z)
    refine k _ cs2 hcp hsort (fun b o e ne => ?_) ⟨dx, q, r, r2, ys, ?_, ?_, ?_, ?_, ?_⟩
    · rw [upd_ne ne]
      exact s68 _ _ (old6 _ _ (old3 _ _ e ne) ne)
    · rw [upd_same, fields4]
    · rw [upd_ne (Ne.symm qx)]
      exact s68 _ _ hq6
    · exact Paired.mapP hp6 fun c v ⟨t, e, ht⟩ => ⟨t, e, by rw [upd_ne (nx8 (s68 _ _ ht))]; exact s68 _ _ ht⟩
    · obtain ⟨ts, a1, a2, a3⟩ := rows6.same s68
      exact ⟨ts, by rw [upd_ne (nx8 a1)]; exact a1, a2, fun j v e => let ⟨t, e1, e2⟩ := a3 j v e; ⟨t, e1, by rw [upd_ne (nx8 e2)]; exact e2⟩⟩
    · obtain ⟨ts, a1, a2, a3⟩ := rows2
      exact ⟨ts, by rw [upd_ne (nx8 a1)]; exact a1, a2, fun j v e => let ⟨t, e1, e2⟩ := a3 j v e; ⟨t, e1, by rw [upd_ne (nx8 e2)]; exact e2⟩⟩
end
end WC

set_option maxHeartbeats 4000000
namespace WC
open PySem PySem.Spec PyProof.Rows L2
/-- what is read off the class Net, at N -/
structure NetK (K : PySem.W.Frag) (mg : Str → Option Value) (N : Addr) : Prop where
  gN : mg "Net" = some (.ref N)
  cr : ∃ mc, ClX.CRead K N mc ∧ (∃ u, ClX.CVal K N mc "MOST_STAGES" (.int 40) u) ∧ (∃ u, ClX.CVal K N mc "MOST_CHANNELS" (.int 120) u) ∧ (∃ u, ClX.CVal K N mc "MOST_CAPACITY" (.int 999) u) ∧ ∃ u, ClX.CVal K N mc "MOST_COUNTER" (.int 999) u
def spCap (K : PySem.W.Frag) : Sp := fun vs H Q _ => ∃ x, vs = [x] ∧ Known K H x ∧ Q (.bl (btw x 1 999)) H
def spJoins (K : PySem.W.Frag) : Sp := fun vs H Q _ => ∃ (n : Nat) (v : V) (c : Tri), vs = [.int n, v] ∧ TriA H c v ∧ ChOk n c ∧ ∀ H2, Same H H2 → Q (.bl true) H2
def spWith : Sp := fun vs H Q _ => ∃ (v d : V) (c : Tri), vs = [v, d] ∧ TriA H c v ∧ ∀ p, H p = none → Q (.ref p) (upd H p (.tup [.int c.1, .int c.2.1, .int c.2.2]))
theorem nv {K : PySem.W.Frag} {H : Hp} (i : Int) : Known K H (.int i) := trivial
theorem btw_in {i lo hi : Int} (h1 : lo ≤ i) (h2 : i ≤ hi) : btw (.int i) lo hi = true := by simp [btw, h1, h2]
section
variable {P : Program} {w : World} {K : PySem.W.Frag} {mg : Str → Option Value} {base : Heap}
theorem ok_is_capacity {N f : Addr} {fd : FuncData} (F : Fun K "is_capacity" "Net.is_capacity" s_Net_is_capacity f fd) (Z : NetK K mg N) (G : DefR P w K mg base "is_between" 1 (spBtw K)) : FnOk P w K mg base (L2.CX P w) 2 f fd ["value"] (spCap K) := by
  refine F.okX sc_Net_is_capacity (fun vs H Q E h => ?_) (fun cdv A outer s H vs Q E hr h => ?_)
  · obtain ⟨x, rfl, _⟩ := h
    rfl
  · obtain ⟨x, rfl, hk, k⟩ := h
    obtain ⟨mc, r, _, _, ⟨u, c⟩, _⟩ := Z.cr
    refine ⟨_, pss_one (ps_ret (pe_cd G hr psE (pa_cons (pv 0) (pa_cons pe_int (pa_cons (ClX.pe_cval (pe_glob (v := .ref N) (by rfl) Z.gN rfl)) pa_nil))))), ?_⟩
    exact ⟨_, rfl, N, mc, _, u, rfl, r, c, _, _, _, rfl, hk, k⟩
theorem ok_joins {f : Addr} {fd : FuncData} (F : Fun K "_joins_two_stages" "_joins_two_stages" s_joins_two_stages f fd) (B : Blt mg) (G : DefR P w K mg base "is_between" 1 (spBtw K)) : FnOk P w K mg base (L2.CX P w) 2 f fd ["stages", "channel"] (spJoins K) := by
  refine F.okX sc_joins_two_stages (fun vs H Q E h => ?_) (fun cdv A outer s H vs Q E hr h => ?_)
  · obtain ⟨n, v, c, rfl, _⟩ := h
    rfl
  · obtain ⟨n, v, c, rfl, ⟨t, rfl, ht⟩, ⟨⟨c1, c2⟩, ⟨c3, c4⟩, c5, c6, c7⟩, k⟩ := h
    -- slots 0 stages, 1 channel, 2 ends, 3 end
    refine ⟨_, pss_cons (ps_if (PW.pt (pw_or (pt_not (pt_val (pe_callB call_isi (by rfl) B.isi bt_isi (pa_cons (pv 1) (pa_cons (pe_bltn (v := .ty "tuple") (by rfl) B.tuple bt_tuple rfl) pa_nil)))))
        (pw_or1 (pt_cmpR op_notIn_seq (pe_callB call_len_seq (by rfl) B.len bt_len (pa_cons (pv 1) pa_nil)) (pe_tup (pa_cons pe_int (pa_cons pe_int pa_nil))) (by rfl))))) (pss_one (ps_ret pe_bl)) pss_nil)
      (pss_cons (ps_set (i := 2) sc_joins_two_stages.nd rfl (Or.inl rfl) (pe_slice sl_tup (pv 1) po_none (po_some pe_int)))
      (pss_cons (ps_if (pt_not (pt_val (pe_callB (cr_all rfl) (by rfl) B.all bt_all (pa_cons (pe_lc (own := [("end", 3)]) rfl sc_joins_two_stages.nd (pi_tup (pv 2)) (blkOk_by (N := nn_joins_two_stages) (sc := defScope s_joins_two_stages) (own := [("end", 3)]) (by decide +kernel)) (fun _ _ _ _ _ => pg_name (i := 3) sc_joins_two_stages.nd rfl (Or.inl rfl)) (fun _ _ _ _ _ => pts_nil)
          (fun _ _ _ _ _ => pe_cd G (by exact hr) passL (pa_cons (pv 3) (pa_cons pe_int (pa_cons (pe_op op_sub (pv 0) pe_int) pa_nil))))) pa_nil)))) (pss_one (ps_ret pe_bl)) pss_nil)
      (pss_one (ps_ret (pe_cmpR op_ne (pe_ix ix_tup (pv 2) pe_int (fun _ _ => rfl)) (pe_ix ix_tup (pv 2) pe_int (fun _ _ => rfl)) (nomark _)))))), ?_⟩
    refine ⟨_, rfl, _, _, _, _, _, rfl, .ty _, .base (.tup ht), kit_ty (r := true) (by decide +kernel), _, rfl, ?_⟩
    refine iteF ⟨_, rfl, t, _, rfl, .inr (SqT.of ht), by show 2 ≤ sizeLine; decide, fun p hp => ⟨p, _, rfl, .inr (SqT.of upd_same), rfl, rfl, _, rfl, ?_⟩⟩
    refine iteF ⟨_, rfl, _, rfl, t, _, rfl, SqT.of (by rw [upd_ne (ne_of_none ht hp)]; exact ht), ?_, fun q hq => ?_⟩
    · intro z
      have z2 := z.2
      simp [HT.sIx] at z2
    have s2 : Same H (upd (upd H p (.tup [.int 2, .int 3])) q (.tup [.int c.1, .int c.2.1])) := Same.trans (Same.new hp) (Same.new hq)
    have eq : cutV [V.int c.1, V.int c.2.1, V.int c.2.2] none (some 2) = [V.int c.1, V.int c.2.1] := rfl
    rw [eq]
    obtain ⟨H2, eH⟩ : ∃ H2, H2 = upd (upd H p (.tup [.int 2, .int 3])) q (.tup [.int c.1, .int c.2.1]) := ⟨_, rfl⟩
    rw [← eH] at s2 ⊢
    have hq2 : H2 q = some (.tup [.int c.1, .int c.2.1]) := by rw [eH, upd_same]
    refine ⟨_, rfl, q, rfl, ⟨_, SqT.of hq2⟩, fun D hD => lc_tup (K := K) (a := q) (xs := [.int c.1, .int c.2.1]) (fun i H3 => Same H2 H3 ∧ H3 D = some (.lst ((List.replicate i true).map V.bl))) ⟨Same.new hD, upd_same⟩ (fun i H3 _ z => SqT.of (z.1 _ _ hq2)) ?_ ?_⟩
    · rintro i x H3 hx ⟨s3, hd⟩
      have hx2 : ∃ m : Int, x = .int m ∧ 0 ≤ m ∧ m ≤ n - 1 := by
        match i, hx with
        | 0, hx => exact ⟨c.1, (Option.some.inj hx).symm, c1, by omega⟩
        | 1, hx => exact ⟨c.2.1, (Option.some.inj hx).symm, c3, by omega⟩
        | _ + 2, hx => simp at hx
      obtain ⟨m, rfl, m1, m2⟩ := hx2
      refine ⟨rfl, yes ⟨_, rfl, _, rfl, _, _, rfl, rfl, _, _, _, rfl, nv _, _, hd, ?_, Same.newer s3 hD, ?_⟩⟩
      · have : i < 2 := (List.getElem?_eq_some_iff.mp hx).1
        rw [List.length_map, List.length_replicate]
        exact line_lt (by omega)
      · rw [upd_same, btw_in m1 m2, List.replicate_succ', List.map_append]
        rfl
    · rintro H3 ⟨s3, hd⟩
      refine ⟨D, _, rfl, SqL.of hd, _, rfl, ?_⟩
      refine iteF ⟨_, rfl, q, _, _, _, rfl, rfl, SqT.of (s3 _ _ hq2), atI_nat (j := 0) rfl, _, rfl, q, _, _, _, rfl, rfl, SqT.of (s3 _ _ hq2), atI_nat (j := 1) rfl, rfl, ?_⟩
      have q2 : (!decide (V.int c.1 = V.int c.2.1)) = true := by simp [c5]
      rw [q2]
      exact k H3 (s2.trans s3)
theorem ok_with_capacity {f : Addr} {fd : FuncData} (F : Fun K "_with_capacity" "_with_capacity" s_with_capacity f fd) (B : Blt mg) : FnOk P w K mg base (L2.CX P w) 1 f fd ["channel", "capacity"] spWith := by
  refine F.okX sc_with_capacity (fun vs H Q E h => ?_) (fun cdv A outer s H vs Q E hr h => ?_)
  · obtain ⟨v, d, c, rfl, _⟩ := h
    rfl
  · obtain ⟨v, d, c, rfl, ⟨t, rfl, ht⟩, k⟩ := h
    refine ⟨_, pss_cons (ps_set (i := 2) sc_with_capacity.nd rfl (Or.inl rfl) (pe_ifExp (pt_cmpR op_eq (pe_callB call_len_seq (by rfl) B.len bt_len (pa_cons (pv 0) pa_nil)) pe_int (nomark _)) (pe_ix ix_tup (pv 0) pe_int (fun _ _ => rfl)) (pv 1)))
      (pss_one (ps_ret (pe_tup (pa_cons (pe_ix ix_tup (pv 0) pe_int (fun _ _ => rfl)) (pa_cons (pe_ix ix_tup (pv 0) pe_int (fun _ _ => rfl)) (pa_cons (pv 2) pa_nil)))))), ?_⟩
    refine ⟨_, rfl, t, _, rfl, .inr (SqT.of ht), rfl, _, rfl, ?_⟩
    refine iteT ⟨_, rfl, t, _, _, _, rfl, rfl, SqT.of ht, atI_nat (j := 2) rfl, ?_⟩
    exact ⟨_, rfl, t, _, _, _, rfl, rfl, SqT.of ht, atI_nat (j := 0) rfl, _, rfl, t, _, _, _, rfl, rfl, SqT.of ht, atI_nat (j := 1) rfl, _, rfl, by show 3 ≤ sizeLine; decide, fun p hp => k p hp⟩
end
end WC

set_option maxHeartbeats 4000000
namespace WC
open PySem PySem.Spec PyProof.Rows L2
/-- has_circle of channels without one -/
def spNoCircle : Sp := fun vs H Q _ => ∃ (l : Addr) (cs : List Tri) (ws : List V), vs = [.ref l] ∧ H l = some (.lst ws) ∧ Paired (TriA H) cs ws ∧ Acyc cs ∧ cs.length ≤ 1000 ∧ ∀ H2, Same H H2 → Q (.bl false) H2
/-- what is fed: the keys of the dict at D -/
def Fed (H : Hp) (D : Addr) (cs : List Tri) (m : Nat) : Prop := ∃ kvs : List (Key × V), H D = some (.dK kvs) ∧ kvs.length ≤ m ∧ ∀ p : Int, (valV kvs (Sum.inl p)).isSome = decide (∃ c ∈ cs, c.2.1 = p)
theorem seqW {c : TT} {tb u : TS} {D : Ends} {σ : L2.St} {H : Hp} (h : tWhile c tb { D with nx := u D } σ H) : tSeq (tWhile c tb) u D σ H := h
def leftLen (σ : L2.St) (H : Hp) : Nat := match σ[1]? with
  | some (some (V.ref a)) => (match H a with
    | some (.lst xs) => xs.length
    | _ => 0)
  | _ => 0
section
variable {P : Program} {w : World} {K : PySem.W.Frag} {mg : Str → Option Value} {base : Heap}
theorem ok_has_circle {f : Addr} {fd : FuncData} (F : Fun K "has_circle" "has_circle" s_has_circle f fd) (B : Blt mg) : FnOk P w K mg base (L2.CX P w) 1 f fd ["channels"] spNoCircle := by
  refine F.okX sc_has_circle (fun vs H Q E h => ?_) (fun cdv A outer s H vs Q E hr h => ?_)
  · obtain ⟨l, cs, ws, rfl, _⟩ := h
    rfl
  · obtain ⟨l, cs, ws, rfl, hl, hp, ac, hlen, k⟩ := h
    have hu := hu_of hr
    -- slots 0 channels, 1 left, 2 fed, 3 _, 4 consumer, 5 kept, 6 channel
    refine ⟨_, pss_cons (ps_set (i := 1) sc_has_circle.nd rfl (Or.inl rfl) (pv 0))
      (pss_cons (ps_while (passes_of rfl) (pt_truth (pv 1) (by intro _; rfl))
        (pss_cons (ps_set (i := 2) sc_has_circle.nd rfl (Or.inr rfl) (pe_dc (own := [("_", 3), ("consumer", 4)]) rfl sc_has_circle.nd (pi_list (pv 1)) (blkOk_by (N := nn_has_circle) (sc := defScope s_has_circle) (own := [("_", 3), ("consumer", 4)]) (by decide +kernel))
            (fun _ _ _ _ _ => pg_tupK (K := K) (n := 3) rfl (pgs_cons (pg_name (i := 3) sc_has_circle.nd rfl (Or.inl rfl)) (pgs_cons (pg_name (i := 4) sc_has_circle.nd rfl (Or.inl rfl)) (pgs_cons (pg_name (i := 3) sc_has_circle.nd rfl (Or.inl rfl)) pgs_nil)))) (fun _ _ _ _ _ => pts_nil) (fun _ _ _ _ _ => pv 4) (fun _ _ _ _ _ => pe_bl)))
        (pss_cons (ps_setLc (i := 5) (own := [("channel", 6)]) rfl sc_has_circle.nd rfl rfl (sw_true rfl rfl rfl (by decide +kernel)) (pi_list (pv 1)) (blkOk_by (N := nn_has_circle) (sc := defScope s_has_circle) (own := [("channel", 6)]) (by decide +kernel))
            (fun _ _ _ _ _ => pg_name (i := 6) sc_has_circle.nd rfl (Or.inl rfl)) (fun _ _ _ _ _ => pts_one (pt_cmp (pc_din (by exact hu) (pe_ix (i_tup (K := K)) (pv 6) pe_int (fun _ _ => rfl)) (pv 2)))) (fun _ _ _ _ _ => pv 6))
        (pss_cons (ps_if (pt_cmpR op_eq (pe_callB call_len_seq (by rfl) B.len bt_len (pa_cons (pv 5) pa_nil)) (pe_callB call_len_seq (by rfl) B.len bt_len (pa_cons (pv 1) pa_nil)) (nomark _)) (pss_one (ps_ret pe_bl)) pss_nil)
        (pss_one (ps_set (i := 1) sc_has_circle.nd rfl (Or.inl rfl) (pv 5)))))))
      (pss_one (ps_ret pe_bl))), ?_⟩
    refine ⟨_, rfl, ?_⟩
    dsimp only [gName]
    refine seqW ?_
    refine while_by (fun σ H2 => ∃ (a : Addr) (ds : List Tri) (us : List V) (v2 v3 v4 v5 v6 : Option V), σ = [some (.ref l), some (.ref a), v2, v3, v4, v5, v6] ∧ Same H H2 ∧ H2 a = some (.lst us) ∧ Paired (TriA H2) ds us ∧ ds.length ≤ 1000 ∧ ∀ c ∈ ds, c ∈ cs)
      leftLen ⟨l, cs, ws, _, _, _, _, _, rfl, Same.refl H, hl, hp, hlen, fun _ z => z⟩ ?_ ?_
    · rintro σ H2 ⟨a, ds, us, v2, v3, v4, v5, v6, rfl, s2, ha, hpd, hdl, sub⟩
      refine ⟨_, rfl, _, .inl ⟨us, SqL.of ha, rfl⟩, ?_⟩
      cases hE : us with
      | nil =>
        refine iteF ?_
        exact k H2 s2
      | cons u0 us0 =>
        refine iteT ?_
        rw [hE] at ha hpd
        -- fed
        refine ⟨_, rfl, a, rfl, ⟨_, SqL.of ha⟩, fun D hD => dc_lst (K := K) (a := a) (xs := u0 :: us0) (fun i H3 => Same H2 H3 ∧ Fed H3 D (ds.take i) i) ⟨Same.new hD, [], upd_same, by simp, fun p => by simp [valV]⟩ (fun i H3 _ q => SqL.of (q.1 _ _ ha)) ?_ ?_⟩
        · rintro i x H3 hx ⟨s3, kvs, d1, d2, d3⟩
          obtain ⟨c, hc, t, rfl, ht⟩ := pr_at hpd hx
          have hi := (List.getElem?_eq_some_iff.mp hc).1
          refine ⟨t, _, rfl, SqT.of (s3 _ _ ht), rfl, _, _, rfl, _, _, rfl, _, _, rfl, rfl, rfl, yes ⟨_, rfl, kvs, Sum.inl c.2.1, rfl, d1, line_lt (by omega), Same.newer s3 hD, _, upd_same, ?_, fun p => ?_⟩⟩
          · exact Nat.le_trans (pk_len _ _ _) (by omega)
          · rw [valV_put, take_snoc hc]
            by_cases e : p = c.2.1
            · subst e
              rw [if_pos rfl]
              simp
            · rw [if_neg (fun z => e (Sum.inl.inj z)), d3 p]
              congr 1
              apply propext
              constructor
              · rintro ⟨c2, m, e2⟩
                exact ⟨c2, List.mem_append_left _ m, e2⟩
              · rintro ⟨c2, m, e2⟩
                rcases List.mem_append.mp m with m | m
                · exact ⟨c2, m, e2⟩
                · rw [List.mem_singleton.mp m] at e2
                  exact absurd e2.symm e
        · rintro H3 ⟨s3, kvs, d1, d2, d3⟩
          rw [← hpd.length, List.take_length] at d3
          -- kept
          refine ⟨_, rfl, a, rfl, ⟨_, SqL.of (s3 _ _ ha)⟩, fun R hR => lc_list (K := K) (a := a) (xs := u0 :: us0) (fun i H4 => Same H3 H4 ∧ ∃ ks, H4 R = some (.lst ks) ∧ Paired (TriA H4) ((ds.take i).filter fun c => decide (∃ d ∈ ds, d.2.1 = c.1)) ks) ⟨Same.new hR, [], upd_same, .nil⟩ (fun i H4 _ q => SqL.of (q.1 _ _ (s3 _ _ ha))) ?_ ?_⟩
          · rintro i x H4 hx ⟨s4, ks, r1, r2⟩
            obtain ⟨c, hc, t, rfl, ht⟩ := pr_at hpd hx
            have hi := (List.getElem?_eq_some_iff.mp hc).1
            have ht4 := s4 _ _ (s3 _ _ ht)
            refine ⟨rfl, _, rfl, t, _, _, _, rfl, rfl, SqT.of ht4, atI_nat (j := 0) rfl, _, rfl, D, _, rfl, DGet.k (k := Sum.inl c.1) (s4 _ _ d1), _, rfl, ?_⟩
            have hks : ks.length ≤ i := by
              rw [← r2.length]
              exact Nat.le_trans (List.length_filter_le _ _) (by rw [List.length_take]; omega)
            have e3 := d3 c.1
            cases hv : valV kvs (Sum.inl c.1 : Key) with
            | some v =>
              rw [hv] at e3
              have e4 : decide (∃ d ∈ ds, d.2.1 = c.1) = true := e3.symm
              refine iteT ⟨_, rfl, ks, r1, line_lt (by omega), Same.newer s4 hR, _, upd_same, ?_⟩
              rw [take_snoc hc, List.filter_append]
              have nx : ∀ {b xs}, H4 b = some (.tup xs) → b ≠ R := fun {b xs} e => ne_of e r1 (by intro z; cases z)
              refine pr_snoc (a := c) ?_ ?_ |> fun z => by
                have q : [c].filter (fun c => decide (∃ d ∈ ds, d.2.1 = c.1)) = [c] := by simp only [List.filter, e4]
                rw [q]
                exact z
              · exact Paired.mapP r2 fun c2 v2 ⟨t2, q1, q2⟩ => ⟨t2, q1, by rw [upd_ne (nx q2)]; exact q2⟩
              · exact ⟨t, rfl, by rw [upd_ne (nx ht4)]; exact ht4⟩
            | none =>
              rw [hv] at e3
              have e4 : decide (∃ d ∈ ds, d.2.1 = c.1) = false := e3.symm
              refine iteF ⟨s4, ks, r1, ?_⟩
              rw [take_snoc hc, List.filter_append]
              have q : [c].filter (fun c => decide (∃ d ∈ ds, d.2.1 = c.1)) = [] := by simp only [List.filter, e4]
              rw [q, List.append_nil]
              exact r2
          · rintro H4 ⟨s4, ks, r1, r2⟩
            rw [← hpd.length, List.take_length] at r2
            have ha4 := s4 _ _ (s3 _ _ ha)
            refine ⟨_, rfl, R, _, rfl, .inl (SqL.of r1), _, rfl, a, _, rfl, .inl (SqL.of ha4), rfl, _, rfl, ?_⟩
            have dne : ds ≠ [] := fun z => by
              rw [z] at hpd
              have q := hpd.length
              simp at q
            obtain ⟨c0, m0, q0⟩ := (ac.sub sub).first dne
            have hlt : ks.length < (u0 :: us0).length := by
              rw [← r2.length, ← hpd.length]
              refine Nat.lt_of_le_of_ne (List.length_filter_le _ _) fun z => ?_
              have y := List.length_filter_eq_length_iff.mp z c0 m0
              obtain ⟨d, md, ed⟩ := of_decide_eq_true y
              exact q0 d md ed
            have q1 : decide (V.int (ks.length : Int) = V.int ((u0 :: us0).length : Int)) = false := by
              apply decide_eq_false
              intro z
              injection z with z
              omega
            rw [q1]
            refine iteF ⟨_, rfl, ⟨R, _, ks, _, _, _, _, _, rfl, s2.trans (s3.trans s4), r1, r2, Nat.le_trans (List.length_filter_le _ _) hdl, fun c hc => sub c (List.mem_filter.mp hc).1⟩, ?_⟩
            have e1 : leftLen [some (V.ref l), some (V.ref R), some (V.ref D), v3, v4, some (V.ref R), v6] H4 = ks.length := by simp only [leftLen, List.getElem?_cons_succ, List.getElem?_cons_zero, r1]
            have e2 : leftLen [some (V.ref l), some (V.ref a), v2, v3, v4, v5, v6] H2 = (u0 :: us0).length := by simp only [leftLen, List.getElem?_cons_succ, List.getElem?_cons_zero, ha]
            show leftLen _ _ < leftLen _ _
            rw [e2]
            show leftLen [some (V.ref l), some (V.ref R), some (V.ref D), v3, v4, some (V.ref R), v6] H4 < _
            rw [e1]
            exact hlt
    · rintro σ H2 Q1 Q2 hm ⟨v, e, kk, t, q⟩
      exact ⟨v, e, kk, t, hm _ _ q⟩
end
end WC

set_option maxHeartbeats 4000000
namespace WC
open PySem PySem.Spec PyProof.Rows L2
def flI : List V → List (Str × V)
  | [r, p] => [("position", p), ("reason", r)]
  | _ => []
def pairOf (c : Tri) : Int × Int := (c.1, c.2.1)
def spCheckCh : Sp := fun vs H Q _ => ∃ (n : Nat) (t : Addr) (cs : List Tri) (ws : List V), vs = [.int n, .ref t] ∧ H t = some (.tup ws) ∧ Paired (TriA H) cs ws ∧ (∀ c ∈ cs, ChOk n c) ∧ (cs.map pairOf).Nodup ∧ cs.length ≤ 1000 ∧ ∀ H2, Same H H2 → Q .non H2
theorem cut2 (a b c : V) : cutV [a, b, c] none (some 2) = [a, b] := rfl
theorem cut2n {a b c : V} : ¬ (HT.sIx [a, b, c].length 0 none = 0 ∧ HT.sIx [a, b, c].length [a, b, c].length (some 2) = [a, b, c].length) := by
  intro z
  have z2 := z.2
  simp [HT.sIx] at z2
section
variable {P : Program} {w : World} {K : PySem.W.Frag} {mg : Str → Option Value} {base : Heap}
theorem ok_InvalidNet_init {f C : Addr} {fd : FuncData} (F : Fun K "__init__" "InvalidNet.__init__" s_InvalidNet_init f fd) (T : OexC K C) (h1 : PySem.W.findIn K (.ref C) "reason" = some none) (h2 : PySem.W.findIn K (.ref C) "position" = some none) :
    FnOk P w K mg base (L2.CX P w) 1 f fd ["self", "reason", "position"] (spX C 2 flI) := by
  refine F.okX sc_InvalidNet_init (fun vs H Q E h => ?_) (fun cdv A outer s H vs Q E hr h => ?_)
  · obtain ⟨a, ws, rfl, hl, _⟩ := h
    simp [hl]
  · obtain ⟨a, ws, rfl, hl, ha, k⟩ := h
    match ws, hl with
    | [v, u], _ =>
      refine ⟨_, pss_cons (ps_ost (pv 0) (pv 1)) (pss_one (ps_ost (pv 0) (pv 2))), ?_⟩
      refine ⟨_, rfl, _, rfl, a, C, rfl, T, h1, .inl ⟨ha, fun d hd hne => ⟨_, rfl, _, rfl, a, C, rfl, T, h2, .inr ⟨d, _, upd_same, by rw [upd_ne hne, upd_same], Nat.le_of_ble_eq_true rfl, ?_⟩⟩⟩⟩
      have q : upd (upd (upd H d (exd d [("reason", v)])) a (exo a C (some d))) d (exd d [("position", u), ("reason", v)]) = upd (upd H d (exd d [("position", u), ("reason", v)])) a (exo a C (some d)) := by
        funext b
        by_cases e : b = d
        · subst e
          rw [upd_same, upd_ne hne, upd_same]
        · by_cases e2 : b = a
          · subst e2
            rw [upd_ne e, upd_same, upd_same]
          · rw [upd_ne e, upd_ne e2, upd_ne e, upd_ne e2, upd_ne e]
      show Q .non (upd (upd (upd H d (exd d [("reason", v)])) a (exo a C (some d))) d (exd d [("position", u), ("reason", v)]))
      rw [q]
      exact k d hd hne
theorem ok_check_channels {f N CI : Addr} {fd : FuncData} (F : Fun K "_check_channels" "_check_channels" s_check_channels f fd) (B : Blt mg) (Z : NetK K mg N) (G1 : DefR P w K mg base "_joins_two_stages" 2 (spJoins K)) (G2 : StaR P w K mg base N "is_capacity" 2 (spCap K))
    (T : ExcR P w K mg base "InvalidNet" CI 1 2 flI) : FnOk P w K mg base (L2.CX P w) 3 f fd ["stages", "channels"] spCheckCh := by
  refine F.okX sc_check_channels (fun vs H Q E h => ?_) (fun cdv A outer s H vs Q E hr h => ?_)
  · obtain ⟨n, t, cs, ws, rfl, _⟩ := h
    rfl
  · obtain ⟨n, t, cs, ws, rfl, ht, hp, hok, nd, hlen, k⟩ := h
    have hu := hu_of hr
    -- slots 0 stages, 1 channels, 2 earlier, 3 position, 4 channel
    refine ⟨_, pss_cons (ps_set (i := 2) sc_check_channels.nd rfl (Or.inl rfl) pe_dnewT)
      (pss_one (ps_for (passes_of rfl) rfl (pi_et B.enum (pa_cons (pv 1) pa_nil)) (pg_tup rfl (pgs_cons (pg_name (i := 3) sc_check_channels.nd rfl (Or.inl rfl)) (pgs_cons (pg_name (i := 4) sc_check_channels.nd rfl (Or.inl rfl)) pgs_nil)))
        (pss_cons (ps_if (pt_not (pt_val (pe_cd G1 hr psE (pa_cons (pv 0) (pa_cons (pv 4) pa_nil))))) (pss_one (ps_raise rfl (takes_of rfl rfl rfl rfl) (pmk_x T hr (pa_cons pe_str (pa_cons (pv 3) pa_nil))))) pss_nil)
        (pss_cons (ps_if (PW.pt (pw_and (pt_cmpR op_eq (pe_callB call_len_seq (by rfl) B.len bt_len (pa_cons (pv 4) pa_nil)) pe_int (nomark _)) (pw_and1 (pt_not (pt_val (pe_sta G2 (pe_glob (v := .ref N) (by rfl) Z.gN rfl) hr psE (pa_cons (pe_ix ix_tup (pv 4) pe_int (fun _ _ => rfl)) pa_nil))))))) (pss_one (ps_raise rfl (takes_of rfl rfl rfl rfl) (pmk_x T hr (pa_cons pe_str (pa_cons (pv 3) pa_nil))))) pss_nil)
        (pss_cons (ps_if (pt_cmp (pc_din hu (pe_slice sl_tup (pv 4) po_none (po_some pe_int)) (pv 2))) (pss_one (ps_raise rfl (takes_of rfl rfl rfl rfl) (pmk_x T hr (pa_cons pe_str (pa_cons (pv 3) pa_nil))))) pss_nil)
        (pss_one (ps_dput hu (pv 2) (pe_slice sl_tup (pv 4) po_none (po_some pe_int)) pe_bl rfl))))))), ?_⟩
    intro d hd
    refine ⟨_, rfl, t, ws, rfl, SqT.of (by rw [upd_ne (ne_of_none ht hd)]; exact ht), for_it (walk_et (xs := ws)) (fun i σ H2 => ∃ v3 v4, σ = [some (.int n), some (.ref t), some (.ref d), v3, v4] ∧ Same H H2 ∧ ∃ kvs : List (List Key × V), H2 d = some (.dT kvs) ∧ kvs.length ≤ i ∧ ∀ a b, (valV kvs [Sum.inl a, Sum.inl b]).isSome = true → ∃ c ∈ cs.take i, pairOf c = (a, b))
      ⟨_, _, rfl, Same.new hd, [], upd_same, by simp, fun a b z => by simp [valV] at z⟩ ?_ ?_ ?_⟩
    · rintro i σ H2 _ ⟨_, _, _, s2, _⟩
      exact SqT.of (s2 _ _ ht)
    · rintro i x σ H2 H3 hi ⟨v3, v4, rfl, s2, kvs, k1, k2, k3⟩ ⟨T1, x1, y1, rfl, hT, rfl, e1, e2⟩
      cases e1
      obtain ⟨c, hc, t1, rfl, ht1⟩ := pr_at hp e2
      have ilt := (List.getElem?_eq_some_iff.mp hc).1
      have cok := hok c (List.mem_of_getElem? hc)
      have s3 : Same H2 (upd H2 T1 (.tup [.int (i : Nat), .ref t1])) := Same.new hT
      have ht3 := s3 _ _ (s2 _ _ ht1)
      refine ⟨T1, _, rfl, SqT.of upd_same, rfl, _, _, rfl, _, _, rfl, rfl, _, rfl, _, rfl, n, _, c, rfl, ⟨t1, rfl, ht3⟩, cok, fun H4 s4 => ⟨_, rfl, ?_⟩⟩
      have ht4 := s4 _ _ ht3
      refine iteF ⟨_, rfl, t1, _, rfl, .inr (SqT.of ht4), rfl, _, rfl, ?_⟩
      refine iteT ⟨rfl, _, rfl, t1, _, _, _, rfl, rfl, SqT.of ht4, atI_nat (j := 2) rfl, _, rfl, nv _, _, rfl, ?_⟩
      rw [btw_in cok.2.2.2.1 cok.2.2.2.2]
      refine iteF ⟨_, rfl, _, rfl, t1, _, rfl, SqT.of ht4, cut2n, fun q hq => ?_⟩
      rw [cut2]
      have kd : H4 d = some (.dT kvs) := s4 _ _ (s3 _ _ k1)
      have s5 : Same H4 (upd H4 q (.tup [.int c.1, .int c.2.1])) := Same.new hq
      refine ⟨_, rfl, d, _, rfl, DGet.t (k := [Sum.inl c.1, Sum.inl c.2.1]) (s5 _ _ kd) upd_same, _, rfl, ?_⟩
      cases hv : valV kvs [Sum.inl c.1, Sum.inl c.2.1] with
      | some v =>
        obtain ⟨c2, m2, p2⟩ := k3 c.1 c.2.1 (by rw [hv]; rfl)
        exfalso
        obtain ⟨j, hj⟩ := List.mem_iff_getElem?.mp m2
        have jl : j < i := by
          have q1 := (List.getElem?_eq_some_iff.mp hj).1
          rw [List.length_take] at q1
          omega
        rw [List.getElem?_take_of_lt jl] at hj
        have a1 : (cs.map pairOf)[j]? = some (c.1, c.2.1) := by rw [List.getElem?_map, hj]; exact congrArg some p2
        have a2 : (cs.map pairOf)[i]? = some (c.1, c.2.1) := by rw [List.getElem?_map, hc]; rfl
        have a3 := (List.getElem?_inj (by rw [List.length_map]; omega) nd).mp (a1.trans a2.symm)
        omega
      | none =>
        refine iteF ⟨_, rfl, _, rfl, _, rfl, t1, _, rfl, SqT.of (s5 _ _ ht4), cut2n, fun q2 hq2 => ?_⟩
        rw [cut2]
        have s6 : Same (upd H4 q (.tup [.int c.1, .int c.2.1])) (upd (upd H4 q (.tup [.int c.1, .int c.2.1])) q2 (.tup [.int c.1, .int c.2.1])) := Same.new hq2
        refine ⟨d, _, rfl, DPut.t (k := [Sum.inl c.1, Sum.inl c.2.1]) (s6 _ _ (s5 _ _ kd)) upd_same (line_lt (by omega)), _, _, rfl, ?_, _, upd_same, ?_, ?_⟩
        · exact Same.newer (s2.trans (s3.trans (s4.trans (s5.trans s6)))) hd
        · exact Nat.le_trans (pk_len _ _ _) (by omega)
        · intro a b z
          rw [valV_put] at z
          rw [take_snoc hc]
          by_cases e : ([Sum.inl a, Sum.inl b] : List Key) = [Sum.inl c.1, Sum.inl c.2.1]
          · have e2 : a = c.1 ∧ b = c.2.1 := by simpa using e
            exact ⟨c, by simp, by rw [e2.1, e2.2]; rfl⟩
          · rw [if_neg e] at z
            obtain ⟨c2, m2, p2⟩ := k3 a b z
            exact ⟨c2, List.mem_append_left _ m2, p2⟩
    · rintro σ H2 ⟨_, _, _, s2, _⟩
      exact k H2 s2
end
end WC

set_option maxHeartbeats 4000000
namespace WC
open PySem PySem.Spec PyProof.Rows L2
/-! errors of the nets that are known to have no context -/
theorem cxUpN {P : Program} {w : World} : StX.CXUp (L2N.CX P w) := by
  rintro outer s H s2 H2 E e s' un kp ho ⟨a, B, H', cls, d, ea, fl, hok, ub, na, os, ag, he⟩
  refine ⟨a, B, H', cls, d, ea, fl, hok, ⟨fun b o q n hb => ub.keep b o (kp b o q) (un.free b o q n (by simp)) hb, fun b o q hb => ub.slot b o (kp b o q) hb, fun b o q n => ub.free b o (kp b o q) (un.free b o q n (by simp)),
    fun b o q hb => ub.there b o (kp b o q) hb, fun b xs q => ub.tups b xs (un.tups b xs q), fun b o xs q => ub.frzs b o xs (un.frzs b o xs q), fun b ps q => ?_⟩, na, os.trans ho, ag, he⟩
  obtain ⟨m1, e1⟩ := un.tbls b ps q
  obtain ⟨m2, e2⟩ := ub.tbls b _ e1
  exact ⟨m1 ++ m2, by rw [e2, Array.append_assoc]⟩
theorem psEn {P : Program} {w : World} {K : PySem.W.Frag} {mg : Str → Option Value} {base : Heap} {N : List Str} {qual : Str} {sc : Scope} {f : Addr} {cd : Value} {A : Around} {outer : List Env} {s : Shared} {H : Hp} {E : XK} :
    Passes (L2N.CX P w) (cxOf (L2N.CX P w) P w K mg base N qual sc f cd A outer s H E) E := L2N.passes_call (L2N.takes_of rfl rfl rfl rfl) fun _ _ _ _ z => z
theorem psSn {P : Program} {w : World} {K : PySem.W.Frag} {mg : Str → Option Value} {base : Heap} {N : List Str} {qual : Str} {sc : Scope} {f cc : Addr} {cd : Value} {A : Around} {outer : List Env} {s : Shared} {H : Hp} {E : XK} :
    Passes (L2N.CX P w) (cxS (L2N.CX P w) P w K mg base N qual sc f cd cc A outer s H E) E := L2N.passes_call (L2N.takes_of rfl rfl rfl rfl) fun _ _ _ _ z => z
/-- what never raises -/
theorem FnR.toN {P : Program} {w : World} {K : PySem.W.Frag} {mg : Str → Option Value} {base : Heap} {k : Nat} {f : Addr} {sp : Sp} (F : FnR P w K mg base (L2.CX P w) k f sp) (h : ∀ vs H Q E, sp vs H Q E → sp vs H Q E0) : FnR P w K mg base (L2N.CX P w) k f sp := by
  intro A outer s H us vs Q E hr e0 r q
  refine codeAny_mono (F A outer s H us vs Q E0 hr e0 r (h _ _ _ _ q)) fun rr s' hq => ?_
  match rr, hq with
  | .error er, hq =>
    obtain ⟨_, _, _, _, _, _, _, _, _, _, _, _, z⟩ := hq
    exact z.elim
  | .ok (.ret u), hq => exact hq
  | .ok .next, hq => exact False.elim hq
  | .ok .brk, hq => exact False.elim hq
  | .ok .cont, hq => exact False.elim hq
theorem FnR.offN {P : Program} {w : World} {K : PySem.W.Frag} {mg : Str → Option Value} {base : Heap} {k : Nat} {f : Addr} {sp : Sp} (F : FnR P w K mg base (L2N.CX P w) k f sp) (h : ∀ vs H Q E, sp vs H Q E → sp vs H Q E0) : FnR P w K mg base (L2.CX P w) k f sp := by
  intro A outer s H us vs Q E hr e0 r q
  refine codeAny_mono (F A outer s H us vs Q E0 hr e0 r (h _ _ _ _ q)) fun rr s' hq => ?_
  match rr, hq with
  | .error er, hq =>
    obtain ⟨_, _, _, _, _, _, _, _, _, _, _, _, z⟩ := hq
    exact z.elim
  | .ok (.ret u), hq => exact hq
  | .ok .next, hq => exact False.elim hq
  | .ok .brk, hq => exact False.elim hq
  | .ok .cont, hq => exact False.elim hq
structure ClsN (P : Program) (w : World) (K : PySem.W.Frag) (mg : Str → Option Value) (base : Heap) (C : Addr) (k : Nat) (sp : Sp) : Prop where
  ex : ∃ f, Mk K C f ∧ FnR P w K mg base (L2N.CX P w) k f sp
structure MetN (P : Program) (w : World) (K : PySem.W.Frag) (mg : Str → Option Value) (base : Heap) (C : Addr) (m : Str) (k : Nat) (sp : Sp) : Prop where
  ex : ∃ f, Cls K C ∧ Meth K C m f ∧ FnR P w K mg base (L2N.CX P w) k f sp
section
variable {X : Cx} {j k : Nat} {C : Addr} {sp : Sp} {E : XK} {x m : Str} {e o : Expr} {es : List Expr} {t : TA} {ta te : TE} {p pos apos sp_ : Pos} {pl : Sem Bool}
theorem pe_cdn (D : DefN X.prog X.w X.K X.mg X.base x k sp) (hr : Room j X.A) (hx : Passes (L2N.CX X.prog X.w) X E) (ha : PA X (e :: es) t) (hle : k ≤ j := by decide) (hg : Gl X x := by rfl) (hdb : (x == ("__debug__" : Str)) = false := by decide)
    (he : starEach (e :: es) X.env = (false, eval e X.env) :: starEach es X.env := by rfl) (hpl : (backTo pos (starEach es X.env)).any (·.1) = false := by rfl) : PE X (.Call (.Name x p) (e :: es) [] pos) (tCallR sp E t) := by
  obtain ⟨f, hm, hk, F⟩ := D.ex
  refine ⟨fun pins s σ H Q I h => wpAny_Call_Name_kw (ld_glob I hg hm ?_ hdb)⟩
  exact PySem.W.callWith_K (h₀ := X.base) I.ok.mod.kin hk (thn (ha.run pos pins s σ H _ I h) fun us s1 ⟨vs, H1, I1, r, q⟩ => ⟨I1.kIn, wpAny_call (run_fnR F (hr.mono hle) hx I1 r q)⟩) he hpl
theorem pe_ccsn (D : ClsN X.prog X.w X.K X.mg X.base C k sp) (hm : X.mg x = some (.ref C)) (hr : Room j X.A) (hx : Passes (L2N.CX X.prog X.w) X E) (ha : PA X (e :: es) t) (hle : k + 1 ≤ j := by decide) (hg : Gl X x := by rfl) (hdb : (x == ("__debug__" : Str)) = false := by decide)
    (he : starEach (e :: es) X.env = (false, eval e X.env) :: starEach es X.env := by rfl) (hst : (backTo pos (starEach es X.env)).any (·.1) = true := by rfl) : PE X (.Call (.Name x p) (e :: es) [] pos) (StX.tMakeR C sp E t) := by
  obtain ⟨f, M, F⟩ := D.ex
  refine ⟨fun pins s σ H Q I h => wpAny_Call_Name_kw (ld_glob I hg hm ?_ hdb)⟩
  exact PySem.W.callWith_S2 (h₀ := X.base) I.ok.mod.kin M.kp (thn (ha.run pos pins s σ H _ I h) fun us s1 ⟨vs, H1, I1, r, q⟩ => ⟨I1.kIn, StX.run_makeR M F (hr.mono hle) hx I1 r q⟩) he hst
theorem pe_ccs1n (D : ClsN X.prog X.w X.K X.mg X.base C k sp) (hm : X.mg x = some (.ref C)) (hr : Room j X.A) (hx : Passes (L2N.CX X.prog X.w) X E) (he : PE X e te) (hle : k + 1 ≤ j := by decide) (hg : Gl X x := by rfl) (hdb : (x == ("__debug__" : Str)) = false := by decide)
    (hst : starEach [.Starred e sp_] X.env = [(true, eval e X.env)] := by rfl) : PE X (.Call (.Name x p) [.Starred e sp_] [] pos) (tMake1 X.K C sp E te) := by
  obtain ⟨f, M, F⟩ := D.ex
  refine ⟨fun pins s σ H Q I h => ?_⟩
  refine wpAny_Call_Name_kw (ld_glob I hg hm ?_ hdb)
  refine PySem.W.callWith_S (h₀ := X.base) I.ok.mod.kin M.kp (thn (he.run pins s σ H _ I h) fun v s1 ⟨y, H1, I1, ry, a, xs, ey, hxs, q⟩ => ?_) hst
  subst ey
  obtain rfl : v = Value.ref a := ry
  exact StX.star_any I1 hxs fun us s2 I2 rv => ⟨I2.kIn, StX.run_makeR M F (hr.mono hle) hx I2 rv q⟩
theorem pe_mtn (D : MetN X.prog X.w X.K X.mg X.base C m k sp) (ho : PE X o ta) (hr : Room j X.A) (hx : Passes (L2N.CX X.prog X.w) X E) (ha : PA X (e :: es) t) (hle : k ≤ j := by decide)
    (hst : starEach (e :: es) X.env = (false, eval e X.env) :: starEach es X.env := by rfl) (hpl : (backTo pos (starEach es X.env)).any (·.1) = false := by rfl)
    (ht : eval (.Call (.Attribute o m apos) (e :: es) [] pos) X.env = (do
      let ov ← eval o X.env
      standAt apos.atName
      let (f, first) ← holding [ov] (getMethod ov m pl)
      callWith pos f first (backTo pos (starEach (e :: es) X.env)) (backToKw pos (keywordEach [] X.env))) := by rfl) : PE X (.Call (.Attribute o m apos) (e :: es) [] pos) (tMeth C m sp [] E ta t) := by
  obtain ⟨f, c, hm, F⟩ := D.ex
  refine ⟨fun pins s σ H Q I h => ?_⟩
  refine PySem.W.methodCall_KW (pl := pl) (thn (ho.run pins s σ H _ I h) fun u s1 ⟨x, H1, I1, rx, a, dx, fs, ex, ea, l, q⟩ => ?_) ht
  subst ex
  obtain rfl : u = Value.ref a := rx
  refine getmeth_ok I1 ea c hm l ?_
  refine PySem.W.callWith_K (first := [.ref a]) (h₀ := X.base) I.ok.mod.kin hm.kp (thn (ha.run pos pins s1 σ H1 _ I1 q) fun us s2 ⟨vs, H2, I2, r, q2⟩ => ⟨I2.kIn, ?_⟩) hst hpl
  have q2 : sp (.ref a :: (vs ++ [])) H2 Q E := q2
  rw [List.append_nil] at q2
  exact wpAny_call (run_fnR (us := .ref a :: us) (vs := .ref a :: vs) F (hr.mono hle) hx I2 (.cons rfl r) q2)
theorem pe_mtn0 (D : MetN X.prog X.w X.K X.mg X.base C m k sp) (ho : PE X o ta) (hr : Room j X.A) (hx : Passes (L2N.CX X.prog X.w) X E) (hle : k ≤ j := by decide)
    (ht : eval (.Call (.Attribute o m apos) [] [] pos) X.env = (do
      let ov ← eval o X.env
      standAt apos.atName
      let (f, first) ← holding [ov] (getMethod ov m pl)
      callWith pos f first (backTo pos (starEach [] X.env)) (backToKw pos (keywordEach [] X.env))) := by rfl) : PE X (.Call (.Attribute o m apos) [] [] pos) (tMeth C m sp [] E ta tNil) := by
  obtain ⟨f, c, hm, F⟩ := D.ex
  refine ⟨fun pins s σ H Q I h => ?_⟩
  refine PySem.W.methodCall_KW (pl := pl) (thn (ho.run pins s σ H _ I h) fun u s1 ⟨x, H1, I1, rx, a, dx, fs, ex, ea, l, q⟩ => ?_) ht
  subst ex
  obtain rfl : u = Value.ref a := rx
  refine getmeth_ok I1 ea c hm l ?_
  have q : sp (.ref a :: ([] ++ [])) H1 Q E := q
  exact PySem.W.callWith_K0 (first := [.ref a]) I1.kIn hm.kp (wpAny_call (run_fnR (us := [.ref a]) (vs := [.ref a]) F (hr.mono hle) hx I1 (.cons rfl .nil) q))
end
section
variable {P : Program} {w : World} {K : PySem.W.Frag} {mg : Str → Option Value} {base : Heap} {k : Nat} {f cc D : Addr} {x qual : Str} {st : Stmt} {kV : Value} {N ps ks : List Str} {sp : Sp} {pv : Str} {kvV : List V} {kv : List Value}
theorem SFun.starN (F : SFun P K x qual st f cc D kV) (S : CScope N (ps ++ ks ++ [pv]) (defScope st)) (hkv : Vals kvV kv) (hks : kv.length = ks.length)
    (hb : ∀ (doc pm : Value) (an : Option Addr) (cdv ct : Value), BindStar K (PySem.W.fnX x qual (defArgs st) (defBody st) (defScope st) [(cls_, cc)] .none kV doc pm an cdv ct) ps ks kv pv)
    (hp : ∃ ar : Arg, ((defArgs st).posonlyargs ++ (defArgs st).args).head? = some ar ∧ ar.arg = ("self" : Str)) (h1 : (defScope st).names.lookup ("super" : Str) = some .globalImplicit) (h2 : (defScope st).names.lookup ("self" : Str) = some .local)
    (hbody : ∀ (cdv : Value) (A : Around) (outer : List Env) (s : Shared) (H : Hp) (vs : List V) (Q : VK) (E : XK), Room k (A.deeper (envS qual (defScope st) s.heap.objs.size f cdv cc)) → SelfTxt P K (envS qual (defScope st) s.heap.objs.size f cdv cc) D "self" → sp vs H Q E →
      ∃ t, PX (cxS (L2N.CX P w) P w K mg base N qual (defScope st) f cdv cc A outer s H E) (.func (defBody st) (envS qual (defScope st) s.heap.objs.size f cdv cc)) (defBody st) t ∧ t { nx := fun _ H' => Q .non H', rt := Q } (L2.start N vs) H) :
    FnR P w K mg base (L2N.CX P w) (k + 1) f (fun vs H Q E => ∃ ws rest, vs = ws ++ rest ∧ ws.length = ps.length ∧ rest.length ≤ sizeLine ∧ ∀ p, H p = none → sp (ws ++ kvV ++ [V.ref p]) (upd H p (.tup rest)) Q E) := by
  obtain ⟨oc, od, doc, pm, an, cda, ct, osl, kc, dc, lc, oc1, oc2, cvs, oc3, file, tf, lk, hcd, hcc, hca, hvs, hfile⟩ := F.ex
  obtain ⟨ar, har, hs⟩ := hp
  refine fn_starS lk hcd hcc S cxUpN (hb doc pm an (.ref cda) ct) hkv hks fun A outer s H vs Q E hr hsp => hbody (.ref cda) A outer s H vs Q E hr ?_ hsp
  exact ⟨h1, S.frc, h2, ⟨cc, kc, dc, lc, look_cls S _ _, hcc⟩, ⟨f, oc, od, _, osl, ar, rfl, lk, har, hs⟩, ⟨cda, oc1, oc2, cvs, oc3, file, tf, rfl, hca, hvs, hfile⟩⟩
end
end WC

set_option maxHeartbeats 4000000
/-! a class whose __init__ takes *pv and one keyword, the keyword given -/
namespace WC
open PySem PySem.Spec PyProof.Rows L2
/-- the binding, the keyword k1 given -/
def BindKw (K : PySem.W.Frag) (fd : FuncData) (ps : List Str) (k1 pv : Str) : Prop :=
  ∀ (u1 u2 : List Value) (v : Value), u1.length = ps.length → ∀ (M : Model) (A : Around) (Q : List (Str × Value) → Shared → Prop) (E : Value → Shared → Prop) (s : Shared), K.In s.heap →
    wpAny M A (newTuple u2 >>= fun t => pure ((ps ++ [k1]).zip (u1 ++ [v]) ++ [(pv, t)])) Q E s → wpAny M A (bindArgs fd ⟨u1 ++ u2, [(k1, v)]⟩) Q E s
abbrev SpK := V → Sp
def FnK (P : Program) (w : World) (K : PySem.W.Frag) (mg : Str → Option Value) (base : Heap) (CX : CXT) (k : Nat) (f : Addr) (k1 : Str) (sp : SpK) : Prop :=
  ∀ (A : Around) (outer : List Env) (s : Shared) (H : Hp) (us : List Value) (vs : List V) (y : V) (u : Value) (Q : VK) (E : XK), Room k A → Env0 P w K mg base A outer s H → Vals vs us → RelV y u → sp y vs H Q E →
    codeAny (model P w) A (.call (.ref f) ⟨us, [(k1, u)]⟩) (CR CX outer P w H s Q E) s
section
variable {CX : CXT} {P : Program} {w : World} {K : PySem.W.Frag} {mg : Str → Option Value} {base : Heap} {k : Nat} {f cc D : Addr} {x qual : Str} {st : Stmt} {kV : Value} {N ps : List Str} {k1 pv : Str}
theorem bnd_kw {fd : FuncData} {A : Around} {outer : List Env} {s : Shared} {H : Hp} {E : XK} {ws rest : List V} {us : List Value} {y : V} {u : Value} (hCX : StX.CXUp CX) (hb : BindKw K fd ps k1 pv) (hy : RelV y u) (e0 : Env0 P w K mg base A outer s H)
    (r : Vals (ws ++ rest) us) (hl : ws.length = ps.length) (hz : rest.length ≤ sizeLine) :
    StX.Bnd CX P w K mg base fd ⟨us, [(k1, u)]⟩ (ps ++ [k1] ++ [pv]) A outer s H E (fun xs H2 => ∃ p, H p = none ∧ xs = ws ++ [y] ++ [V.ref p] ∧ H2 = upd H p (.tup rest)) := by
  intro A2 Ex Q2 h
  obtain ⟨u1, u2, eu, r1, r2⟩ := StX.vals_split r
  subst eu
  have hl1 : u1.length = ps.length := r1.length ▸ hl
  have hl2 : u2.length ≤ sizeLine := r2.length ▸ hz
  have hn : H s.heap.objs.size = none := e0.hok.fresh (Nat.le_refl _)
  refine hb u1 u2 u hl1 _ _ _ _ _ (e0.mod.kin.keeps fun b o e => (e0.bs b o e).1) (wpAny_bind (wpAny_newTuple (wpAny_pure ?_) hl2))
  have new : ObjOk P w (upd H s.heap.objs.size (.tup rest)) (s.heap.push ({ cls := .type "tuple", data := .seq u2.toArray } : Obj)) s.heap.objs.size (.tup rest) := ⟨hz, u2, r2, _, Heap.get?_push_size _ rfl, rfl, _, rfl⟩
  have un := StX.un_laid (fs := frs outer) (s := s) (o := ({ cls := .type "tuple", data := .seq u2.toArray } : Obj)) (u := .tup rest) hn
  have r3 : Vals ([y] : List V) [u] := .cons hy .nil
  have z := h _ _ (ws ++ [y] ++ [V.ref s.heap.objs.size]) (u1 ++ [u] ++ [Value.ref s.heap.objs.size]) (StX.env0_laid e0 new) un rfl (fun e s2 => hCX outer s H _ _ E e s2 un (fun b o q => Heap.get?_push_of_some _ q) rfl)
    ((r1.append r3).append (.cons rfl .nil)) (by simp only [List.length_append, hl, List.length_cons, List.length_nil]) ⟨_, hn, rfl, rfl⟩
  have q : (ps ++ [k1]).length = (u1 ++ [u]).length := by rw [List.length_append, List.length_append, hl1]; rfl
  rw [List.zip_append q] at z
  exact z
theorem SFun.starNK (F : SFun P K x qual st f cc D kV) (S : CScope N (ps ++ [k1] ++ [pv]) (defScope st))
    (hb : ∀ (doc pm : Value) (an : Option Addr) (cdv ct : Value), BindKw K (PySem.W.fnX x qual (defArgs st) (defBody st) (defScope st) [(cls_, cc)] .none kV doc pm an cdv ct) ps k1 pv)
    (hp : ∃ ar : Arg, ((defArgs st).posonlyargs ++ (defArgs st).args).head? = some ar ∧ ar.arg = ("self" : Str)) (h1 : (defScope st).names.lookup ("super" : Str) = some .globalImplicit) (h2 : (defScope st).names.lookup ("self" : Str) = some .local) {sp : Sp}
    (hbody : ∀ (cdv : Value) (A : Around) (outer : List Env) (s : Shared) (H : Hp) (vs : List V) (Q : VK) (E : XK), Room k (A.deeper (envS qual (defScope st) s.heap.objs.size f cdv cc)) → SelfTxt P K (envS qual (defScope st) s.heap.objs.size f cdv cc) D "self" → sp vs H Q E →
      ∃ t, PX (cxS (L2N.CX P w) P w K mg base N qual (defScope st) f cdv cc A outer s H E) (.func (defBody st) (envS qual (defScope st) s.heap.objs.size f cdv cc)) (defBody st) t ∧ t { nx := fun _ H' => Q .non H', rt := Q } (L2.start N vs) H) :
    FnK P w K mg base (L2N.CX P w) (k + 1) f k1 (fun y vs H Q E => ∃ ws rest, vs = ws ++ rest ∧ ws.length = ps.length ∧ rest.length ≤ sizeLine ∧ ∀ p, H p = none → sp (ws ++ [y] ++ [V.ref p]) (upd H p (.tup rest)) Q E) := by
  obtain ⟨oc, od, doc, pm, an, cda, ct, osl, kc, dc, lc, oc1, oc2, cvs, oc3, file, tf, lk, hcd, hcc, hca, hvs, hfile⟩ := F.ex
  obtain ⟨ar, har, hs⟩ := hp
  intro A outer s H us vs y u Q E hr e0 r ry hsp
  obtain ⟨ws, rest, ev, hl, hz, hq⟩ := hsp
  subst ev
  refine run_bndS lk hcd hcc S hr e0 (bnd_kw cxUpN (hb doc pm an (.ref cda) ct) ry e0 r hl hz) fun s2 H2 xs ⟨p, hp2, ex, eH⟩ hr2 => ?_
  subst ex eH
  refine hbody (.ref cda) A outer s2 _ _ Q E hr2 ?_ (hq p hp2)
  exact ⟨h1, S.frc, h2, ⟨cc, kc, dc, lc, look_cls S _ _, hcc⟩, ⟨f, oc, od, _, osl, ar, rfl, lk, har, hs⟩, ⟨cda, oc1, oc2, cvs, oc3, file, tf, rfl, hca, hvs, hfile⟩⟩
end
/-- the class at C is made with a keyword -/
structure ClsK (P : Program) (w : World) (K : PySem.W.Frag) (mg : Str → Option Value) (base : Heap) (C : Addr) (k : Nat) (k1 : Str) (sp : SpK) : Prop where
  ex : ∃ f, Mk K C f ∧ FnK P w K mg base (L2N.CX P w) k f k1 sp
def tMakeK (C : Addr) (sp : SpK) (E : XK) (t : TA) (te : TE) : TE := fun σ H Q => t σ H fun vs H1 => te σ H1 fun y H2 => ∀ x dx, H2 x = Option.none → H2 dx = Option.none → dx ≠ x →
  sp y (V.ref x :: vs) (upd (upd H2 dx (.own x)) x (.ins C dx [])) (fun v H3 => v = .non ∧ Q (.ref x) H3) E
def kwOne (R : V → Hp → Prop) : List V → Hp → Prop := fun zs H => match zs with
  | [y] => R y H
  | _ => False
section
variable {X : Cx} {k j : Nat} {f C : Addr} {k1 : Str} {sp : SpK} {E : XK} {x : Str} {e ke : Expr} {es : List Expr} {te : TE} {t : TA} {p pos kp : Pos}
theorem run_makeK {pins : List (Addr × Obj)} {σ : L2.St} {H : Hp} {s : Shared} {Q : VK} {us : List Value} {vs : List V} {y : V} {u : Value} (M : Mk X.K C f) (F : FnK X.prog X.w X.K X.mg X.base (L2N.CX X.prog X.w) k f k1 sp) (hr : Room (k + 1) X.A) (hx : Passes (L2N.CX X.prog X.w) X E) (I : Inv X pins σ H s) (r : Vals vs us) (ry : RelV y u)
    (h : ∀ x dx, H x = Option.none → H dx = Option.none → dx ≠ x → sp y (V.ref x :: vs) (upd (upd H dx (.own x)) x (.ins C dx [])) (fun v H2 => v = .non ∧ Q (.ref x) H2) E) :
    wpAny (model X.prog X.w) X.A (call (.ref C) us [(k1, u)]) (EP X pins σ Q) X.xe s := by
  have hq := h (s.heap.objs.size + 1) s.heap.objs.size (I.hok.fresh (Nat.le_succ _)) (I.hok.fresh (Nat.le_refl _)) (Nat.ne_of_lt (Nat.lt_succ_self _))
  have J := Inv.made (C := C) I
  have rr : Vals (V.ref (s.heap.objs.size + 1) :: vs) (Value.ref (s.heap.objs.size + 1) :: us) := .cons rfl r
  refine wpAny_call (make_map (f := f) I.kIn M.makes M.init (beq_iff_eq.mp M.fn) (codeAny_mono (F _ X.stack _ _ (Value.ref (s.heap.objs.size + 1) :: us) _ y u _ E (hr.make C us [(k1, u)]) (J.env0.make C us [(k1, u)]) rr ry hq) fun rs s' back => ?_))
  match rs, back with
  | .error er, back => exact hx pins σ _ _ er s' J back
  | .ok (.ret v), back =>
    obtain ⟨v', H', J2, rv, ev, q3⟩ := J.after back
    subst ev
    exact ⟨rv, ⟨V.ref (s.heap.objs.size + 1), H', J2, rfl, q3⟩⟩
  | .ok .next, back => exact False.elim back
  | .ok .brk, back => exact False.elim back
  | .ok .cont, back => exact False.elim back
theorem pe_cck (D : ClsK X.prog X.w X.K X.mg X.base C k k1 sp) (hm : X.mg x = some (.ref C)) (hr : Room j X.A) (hx : Passes (L2N.CX X.prog X.w) X E) (ha : PA X (e :: es) t) (hk : PE X ke te) (hle : k + 1 ≤ j := by decide) (hg : Gl X x := by rfl) (hdb : (x == ("__debug__" : Str)) = false := by decide)
    (hall : (backToKw pos (keywordEach [⟨some k1, ke, kp⟩] X.env)).all (·.1.isSome) = true := by rfl) (hks : (backToKw pos (keywordEach [⟨some k1, ke, kp⟩] X.env)).filterMap (·.1) = [k1] := by rfl)
    (he : starEach (e :: es) X.env = (false, eval e X.env) :: starEach es X.env := by rfl)
    (hpl : ((backTo pos (starEach (e :: es) X.env)).any (·.1) || (backToKw pos (keywordEach [⟨some k1, ke, kp⟩] X.env)).any (·.1.isNone)) = false := by rfl) :
    PE X (.Call (.Name x p) (e :: es) [⟨some k1, ke, kp⟩] pos) (tMakeK C sp E t te) := by
  obtain ⟨f, M, F⟩ := D.ex
  refine ⟨fun pins s σ H Q I h => ?_⟩
  refine wpAny_Call_Name_kw (ld_glob I hg hm ?_ hdb)
  refine PySem.W.callWith_KW (h₀ := X.base) I.ok.mod.kin M.kp hall (thn (ha.run pos pins s σ H _ I h) fun us s1 ⟨vs, H1, I1, r, q⟩ => ?_) hpl he
  refine thn ((pk_cons hk pk_nil).run pos pins s1 σ H1 (kwOne fun y H2 => ∀ x dx, H2 x = Option.none → H2 dx = Option.none → dx ≠ x → sp y (V.ref x :: vs) (upd (upd H2 dx (.own x)) x (.ins C dx [])) (fun v H3 => v = .non ∧ Q (.ref x) H3) E) I1 q) fun ws s2 ⟨zs, H2, I2, rz, q2⟩ => ⟨I2.kIn, ?_⟩
  rw [hks]
  match zs, ws, rz, q2 with
  | [y], _, .cons ry .nil, q2 => exact run_makeK M F (hr.mono hle) hx I2 r ry q2
end
end WC

set_option maxHeartbeats 4000000
namespace WC
open PySem PySem.Spec PyProof.Rows L2
def spCell (K : PySem.W.Frag) : Sp := fun vs H Q _ => ∃ (a : Addr) (ns : List Int) (k : Nat), vs = [.ref a, .int k] ∧ SqL K H a (ns.map V.int) ∧ ∀ (i : Int) H2, Same H H2 → Q (.int i) H2
def spBag (K : PySem.W.Frag) : Sp := fun vs H Q _ => ∃ (a : Addr) (ns : List Int) (k : Nat), vs = [.ref a, .int k] ∧ SqL K H a (ns.map V.int) ∧ ∀ b H2, Same H H2 → H b = none → BagAt H2 b → Q (.ref b) H2
def spDraw : Sp := fun vs H Q _ => ∃ (b : Addr) (m : Int), vs = [.ref b, .int m] ∧ BagAt H b ∧ 0 < m ∧ m < 1073741824 ∧ ∀ (d : Int) H2, 0 ≤ d → d < m → SameB b H H2 → BagAt H2 b → Q (.int d) H2
def spSame : Sp := fun vs H Q _ => ∃ v, vs = [v, v] ∧ plainV v = true ∧ Q (.bl true) H
def spSameRow : Sp := fun vs H Q _ => ∃ (t d : Addr) (xs : List Int), vs = [.ref t, .ref d] ∧ H t = some (.tup (xs.map V.int)) ∧ H d = some (.lst (xs.map V.int)) ∧ xs.length ≤ 1000 ∧ ∀ H2, Same H H2 → Q (.bl true) H2
theorem mod_rng (i : Int) {m : Int} (h : 0 < m) : 0 ≤ Int.fmod i m ∧ Int.fmod i m < m := ⟨Int.fmod_nonneg_of_pos i h, Int.fmod_lt_of_pos i h⟩
theorem mul_ok {i j : Int} (h : -(2 ^ 64) < j ∧ j < 2 ^ 64) : CMul i j := .inr h
theorem mul_okl {i j : Int} (h : -(2 ^ 64) < i ∧ i < 2 ^ 64) : CMul i j := .inl h
section
variable {P : Program} {w : World} {K : PySem.W.Frag} {mg : Str → Option Value} {base : Heap}
theorem ok_cell {f : Addr} {fd : FuncData} (F : Fun K "_law_cell" "_law_cell" s_law_cell f fd) (B : Blt mg) : FnOk P w K mg base (L2.CX P w) 1 f fd ["script", "k"] (spCell K) := by
  refine F.okX sc_law_cell (fun vs H Q E h => ?_) (fun cdv A outer s H vs Q E hr h => ?_)
  · obtain ⟨a, ns, k, rfl, _⟩ := h
    rfl
  · obtain ⟨a, ns, k, rfl, ha, q⟩ := h
    refine ⟨_, pss_cons (ps_if (pt_cmpR op_lt (pv 1) (pe_callB call_len_seq (by rfl) B.len bt_len (pa_cons (pv 0) pa_nil)) (nomark _)) (pss_one (ps_ret (pe_ix ix_list (pv 0) (pv 1) (fun _ _ => rfl)))) pss_nil)
      (pss_one (ps_ret (pe_op op_add (pe_op op_add (pe_op op_mul (pe_op op_modN (pe_callTy (T := "int") call_int1 (by rfl) B.int bt_int (pa_cons (pe_callB (cr_sum rfl) (by rfl) B.sum bt_sum (pa_cons (pe_slice sl_list (pv 0) po_none (po_some pe_int)) pa_nil)) pa_nil)) pe_int) pe_int) (pe_op op_mul (pv 1) pe_int)) pe_int))), ?_⟩
    refine ⟨_, rfl, _, rfl, a, _, rfl, .inl ha, _, _, rfl, rfl, _, rfl, ?_⟩
    refine ite2 (fun e => ?_) (fun e => ?_)
    · have hk : k < ns.length := by
        have e := of_decide_eq_true e
        rw [List.length_map] at e
        omega
      exact ⟨_, rfl, _, rfl, a, _, _, .int ns[k], rfl, rfl, ha, atI_nat (by simp [hk]), q _ H (Same.refl H)⟩
    · refine ⟨_, rfl, _, rfl, a, _, rfl, ha, fun p hp => ⟨p, ns.take 2, rfl, SqL.of ?_, .inl ⟨_, rfl, _, _, rfl, rfl, by show (_ : Int) ≠ 0; decide, _, _, rfl, rfl, mul_ok (by decide), _, rfl, _, _, rfl, rfl, mul_ok (by decide), _, _, rfl, rfl, _, _, rfl, rfl, q _ _ (Same.new hp)⟩⟩⟩
      rw [upd_same, List.map_take]
      congr 2
      unfold cutV
      have e1 : HT.sIx (ns.map V.int).length 0 none = 0 := rfl
      have e2 : HT.sIx (ns.map V.int).length (ns.map V.int).length (some (2 : Int)) = min 2 (ns.map V.int).length := HT.sIx_nat _ _ 2
      rw [e1, e2, List.drop_zero, Nat.sub_zero]
      by_cases h2 : 2 ≤ (ns.map V.int).length
      · rw [Nat.min_eq_left h2]
      · rw [Nat.min_eq_right (by omega), List.take_of_length_le (Nat.le_refl _), List.take_of_length_le (by omega)]
theorem ok_bag {f : Addr} {fd : FuncData} (F : Fun K "_law_bag" "_law_bag" s_law_bag f fd) (B : Blt mg) (G : DefR P w K mg base "_law_cell" 1 (spCell K)) : FnOk P w K mg base (L2.CX P w) 2 f fd ["script", "k"] (spBag K) := by
  refine F.okX sc_law_bag (fun vs H Q E h => ?_) (fun cdv A outer s H vs Q E hr h => ?_)
  · obtain ⟨a, ns, k, rfl, _⟩ := h
    rfl
  · obtain ⟨a, ns, k, rfl, ha, q⟩ := h
    refine ⟨_, pss_cons (ps_set (i := 2) sc_law_bag.nd rfl (Or.inl rfl) (pe_cd G hr psE (pa_cons (pv 0) (pa_cons (pv 1) pa_nil))))
      (pss_cons (ps_if (pt_cmpR op_ge (pv 2) (pe_op op_pow pe_int pe_int) (nomark _)) (pss_one (ps_ret (pe_lst (pa_cons (pe_op op_sub (pv 2) (pe_op op_pow pe_int pe_int)) (pa_cons pe_int pa_nil))))) pss_nil)
      (pss_one (ps_ret (pe_lst (pa_cons (pe_op op_modN (pe_callTy (T := "int") call_int1 (by rfl) B.int bt_int (pa_cons (pv 2) pa_nil)) pe_int) (pa_cons pe_int pa_nil)))))), ?_⟩
    refine ⟨_, rfl, _, rfl, a, ns, k, rfl, ha, fun i H2 s2 => ⟨_, rfl, _, _, rfl, rfl, ⟨by decide, by decide, by decide⟩, _, _, rfl, rfl, _, rfl, ?_⟩⟩
    refine ite2 (fun e => ?_) (fun e => ?_)
    · exact ⟨_, rfl, _, _, rfl, rfl, ⟨by decide, by decide, by decide⟩, _, _, rfl, rfl, by show 2 ≤ sizeLine; decide, fun p hp => q p _ (Same.newer s2 (Same.free s2 hp)) (Same.free s2 hp) ⟨_, _, upd_same⟩⟩
    · exact ⟨_, rfl, .inl ⟨_, rfl, _, _, rfl, rfl, (by show (_ : Int) ≠ 0; decide), by show 2 ≤ sizeLine; decide, fun p hp => q p _ (Same.newer s2 (Same.free s2 hp)) (Same.free s2 hp) ⟨_, _, upd_same⟩⟩⟩
theorem ok_draw {f : Addr} {fd : FuncData} (F : Fun K "_law_draw" "_law_draw" s_law_draw f fd) (B : Blt mg) : FnOk P w K mg base (L2.CX P w) 1 f fd ["bag", "many"] spDraw := by
  refine F.okX sc_law_draw (fun vs H Q E h => ?_) (fun cdv A outer s H vs Q E hr h => ?_)
  · obtain ⟨b, m, rfl, _⟩ := h
    rfl
  · obtain ⟨b, m, rfl, ⟨x, f0, hb⟩, m0, m1, q⟩ := h
    have i0 : ∀ {X : Cx} {e : Expr} {t : TE} {pos : Pos}, PE X e t → True := fun _ => trivial
    refine ⟨_, pss_cons (ps_if (pt_cmpR op_eq (pe_ix ix_list (pv 0) pe_int (fun _ _ => rfl)) pe_int (nomark _))
        (pss_cons (ps_set (i := 2) sc_law_draw.nd rfl (Or.inl rfl) (pe_op op_modN (pe_callTy (T := "int") call_int1 (by rfl) B.int bt_int (pa_cons (pe_ix ix_list (pv 0) pe_int (fun _ _ => rfl)) pa_nil)) (pv 1)))
        (pss_cons (ps_asg (pe_op op_fdivN (pe_ix ix_list (pv 0) pe_int (fun _ _ => rfl)) (pv 1)) (pg_sub (pv 0) pe_int set_list))
        (pss_one (ps_ret (pv 2))))) pss_nil)
      (pss_cons (ps_set (i := 3) sc_law_draw.nd rfl (Or.inl rfl) (pe_op op_modN (pe_callTy (T := "int") call_int1 (by rfl) B.int bt_int (pa_cons (pe_op op_add (pe_op op_add (pe_op op_mul (pe_ix ix_list (pv 0) pe_int (fun _ _ => rfl)) pe_int) (pe_op op_mul (pe_ix ix_list (pv 0) pe_int (fun _ _ => rfl)) pe_int)) pe_int) pa_nil)) pe_int))
      (pss_cons (ps_set (i := 3) sc_law_draw.nd rfl (Or.inl rfl) (pe_op op_modN (pe_callTy (T := "int") call_int1 (by rfl) B.int bt_int (pa_cons (pe_op op_add (pe_op op_add (pe_op op_mul (pv 3) (pv 3)) (pe_op op_mul (pe_ix ix_list (pv 0) pe_int (fun _ _ => rfl)) pe_int)) pe_int) pa_nil)) pe_int))
      (pss_cons (ps_set (i := 3) sc_law_draw.nd rfl (Or.inl rfl) (pe_op op_modN (pe_callTy (T := "int") call_int1 (by rfl) B.int bt_int (pa_cons (pe_op op_add (pe_op op_add (pe_op op_mul (pv 3) (pv 3)) (pe_ix ix_list (pv 0) pe_int (fun _ _ => rfl))) pe_int) pa_nil)) pe_int))
      (pss_cons (ps_asg (pe_op op_add (pe_ix ix_list (pv 0) pe_int (fun _ _ => rfl)) pe_int) (pg_sub (pv 0) pe_int set_list))
      (pss_one (ps_ret (pe_op op_modN (pe_callTy (T := "int") call_int1 (by rfl) B.int bt_int (pa_cons (pe_op op_fdivN (pv 3) pe_int) pa_nil)) (pv 1)))))))), ?_⟩
    have g0 : atI [V.int x, V.int f0] (0 : Int) = some (V.int x) := atI_nat (j := 0) rfl
    have g1 : atI [V.int x, V.int f0] (1 : Int) = some (V.int f0) := atI_nat (j := 1) rfl
    refine ⟨_, rfl, b, _, _, _, rfl, rfl, SqL.of hb, g1, rfl, _, rfl, ?_⟩
    refine ite2 (fun e => ?_) (fun e => ?_)
    · refine ⟨_, rfl, b, _, _, _, rfl, rfl, SqL.of hb, g0, .inl ⟨_, rfl, _, rfl, _, _, rfl, rfl, by omega, ?_⟩⟩
      refine ⟨_, rfl, b, _, _, _, rfl, rfl, SqL.of hb, g0, _, rfl, _, _, rfl, rfl, ⟨by omega, by omega⟩, _, rfl, b, _, _, 0, rfl, rfl, hb, rfl, ?_⟩
      exact ⟨_, rfl, q _ _ (mod_rng x m0).1 (mod_rng x m0).2 (SameB.refl b H).upd ⟨_, _, upd_same⟩⟩
    · refine ⟨_, rfl, b, _, _, _, rfl, rfl, SqL.of hb, g0, _, _, rfl, rfl, mul_ok (by decide), _, rfl, b, _, _, _, rfl, rfl, SqL.of hb, g1, _, _, rfl, rfl, mul_ok (by decide), _, _, rfl, rfl, _, _, rfl, rfl, .inl ⟨_, rfl, _, _, rfl, rfl, (by show (_ : Int) ≠ 0; decide), ?_⟩⟩
      have r1 := mod_rng (x * 48271 + f0 * 69621 + 13) (m := 2147483629) (by decide)
      refine ⟨_, rfl, _, rfl, _, _, rfl, rfl, mul_okl (by omega), _, rfl, b, _, _, _, rfl, rfl, SqL.of hb, g1, _, _, rfl, rfl, mul_ok (by decide), _, _, rfl, rfl, _, _, rfl, rfl, .inl ⟨_, rfl, _, _, rfl, rfl, (by show (_ : Int) ≠ 0; decide), ?_⟩⟩
      have r2 := mod_rng ((Int.fmod (x * 48271 + f0 * 69621 + 13) 2147483629) * (Int.fmod (x * 48271 + f0 * 69621 + 13) 2147483629) + f0 * 16807 + 5) (m := 2147483587) (by decide)
      refine ⟨_, rfl, _, rfl, _, _, rfl, rfl, mul_okl (by omega), _, rfl, b, _, _, _, rfl, rfl, SqL.of hb, g0, _, _, rfl, rfl, _, _, rfl, rfl, .inl ⟨_, rfl, _, _, rfl, rfl, (by show (_ : Int) ≠ 0; decide), ?_⟩⟩
      refine ⟨_, rfl, b, _, _, _, rfl, rfl, SqL.of hb, g1, _, _, rfl, rfl, _, rfl, b, _, _, 1, rfl, rfl, hb, rfl, ?_⟩
      exact ⟨_, rfl, _, _, rfl, rfl, ⟨by decide, by decide⟩, .inl ⟨_, rfl, _, rfl, _, _, rfl, rfl, by omega, q _ _ (mod_rng _ m0).1 (mod_rng _ m0).2 (SameB.refl b H).upd ⟨_, _, upd_same⟩⟩⟩
end
end WC

set_option maxHeartbeats 4000000
namespace WC
open PySem PySem.Spec PyProof.Rows L2
section
variable {P : Program} {w : World} {K : PySem.W.Frag} {mg : Str → Option Value} {base : Heap}
theorem okQ {x qual : Str} {st : Stmt} {f : Addr} {fd : FuncData} {N ps : List Str} {k : Nat} {sp : Sp} (F : Fun K x qual st f fd) (S : FnScope N ps (defScope st)) (len : ∀ vs H Q E, sp vs H Q E → vs.length = ps.length)
    (hbody : ∀ (cdv : Value) (A : Around) (outer : List Env) (s : Shared) (H : Hp) (vs : List V) (Q : VK), L2H.RoomH k (A.deeper (envOfC qual (defScope st) s.heap.objs.size f cdv)) → sp vs H Q E0 →
      ∃ t, PSs (cxQ (L2.CX P w) P w K mg base N qual (defScope st) f cdv A outer s H) (defBody st) t ∧ t { nx := fun _ H' => Q .non H', rt := Q } (start N vs) H) : FnQ P w K mg base (k + 1) f fd ps sp := by
  obtain ⟨oc, od, kV, doc, pm, an, cdv, ct, osl, rfl, lk, hcd⟩ := F.ex
  exact fn_ofQ lk hcd S len fun A outer s H vs Q hr hsp => hbody cdv A outer s H vs Q hr hsp
theorem kit_str {K : PySem.W.Frag} {H : Hp} {x : V} (k : Known K H x) : PySem.W.kitOne K (.type (tyN H x)) (.type "str") = some (match x with | .str _ => true | _ => false) := by
  cases x with
  | int i => exact kb "int" "str" false (by decide +kernel) rfl
  | bl b => exact kb "bool" "str" false (by decide +kernel) rfl
  | non  => exact kb "NoneType" "str" false (by decide +kernel) rfl
  | str z => exact kb "str" "str" true (by decide +kernel) rfl
  | ref a =>
    rcases @tyN_ref H a with q | q
    · exact kb "tuple" "str" false (by decide +kernel) q
    · exact kb "list" "str" false (by decide +kernel) q
  | byt b => exact k.elim
  | flt b => exact k.elim
  | ty n => exact k.elim
theorem known_plain {K : PySem.W.Frag} {H : Hp} {v : V} (h : plainV v = true) : Known K H v := by
  cases v with
  | int i => trivial
  | bl b => trivial
  | non => trivial
  | str z => trivial
  | ref a => cases h
  | byt b => cases h
  | flt b => cases h
  | ty n => cases h
theorem ok_same {f : Addr} {fd : FuncData} (F : Fun K "_law_same" "_law_same" s_law_same f fd) (B : Blt mg) : FnQ P w K mg base 1 f fd ["told", "due"] spSame := by
  refine okQ F sc_law_same (fun vs H Q E h => ?_) (fun cdv A outer s H vs Q hr h => ?_)
  · obtain ⟨v, rfl, _⟩ := h
    rfl
  · obtain ⟨v, rfl, hp, q⟩ := h
    have hk : Known K H v := known_plain hp
    refine ⟨_, pss_cons (ps_if (pt_cmpR op_isN (pv 1) pe_non (nomark _)) (pss_one (ps_ret (pe_cmpR op_isN (pv 0) pe_non (nomark _)))) pss_nil)
      (pss_cons (ps_if (pt_cmpR op_isB (pv 1) pe_bl (nomark _)) (pss_one (ps_ret (pe_cmpR op_isB (pv 0) pe_bl (nomark _)))) pss_nil)
      (pss_cons (ps_if (pt_cmpR op_isB (pv 1) pe_bl (nomark _)) (pss_one (ps_ret (pe_cmpR op_isB (pv 0) pe_bl (nomark _)))) pss_nil)
      (pss_cons (ps_if (pt_val (pe_callB call_isi (by rfl) B.isi bt_isi (pa_cons (pv 1) (pa_cons (pe_bltn (v := .ty "int") (by rfl) B.int bt_int rfl) pa_nil))))
        (pss_one (ps_ret (pe_and (pe_callB call_isi (by rfl) B.isi bt_isi (pa_cons (pv 0) (pa_cons (pe_bltn (v := .ty "int") (by rfl) B.int bt_int rfl) pa_nil)))
          (pe_and (pe_not (pe_callB call_isi (by rfl) B.isi bt_isi (pa_cons (pv 0) (pa_cons (pe_bltn (v := .ty "bool") (by rfl) B.bool (by decide +kernel) rfl) pa_nil)))) (pe_one (pe_cmpR op_eq (pv 0) (pv 1) (nomark _))))))) pss_nil)
      (pss_one (ps_ret (pe_and (pe_callB call_isi (by rfl) B.isi bt_isi (pa_cons (pv 0) (pa_cons (pe_bltn (v := .ty "str") (by rfl) B.str (by decide +kernel) rfl) pa_nil))) (pe_one (pe_cmpR op_eq (pv 0) (pv 1) (nomark _))))))))), ?_⟩
    refine ⟨_, rfl, rfl, _, rfl, ?_⟩
    cases v with
    | non => exact iteT ⟨_, rfl, rfl, q⟩
    | bl b =>
      refine iteF ⟨_, rfl, _, rfl, rfl, _, rfl, ?_⟩
      cases b with
      | true => exact iteT ⟨_, rfl, _, rfl, rfl, q⟩
      | false => exact iteF ⟨_, rfl, _, rfl, rfl, _, rfl, iteT ⟨_, rfl, _, rfl, rfl, q⟩⟩
    | int i =>
      refine iteF ⟨_, rfl, _, rfl, rfl, _, rfl, iteF ⟨_, rfl, _, rfl, rfl, _, rfl, iteF ⟨_, rfl, _, _, _, _, _, rfl, .ty _, hk.ty, kit_int hk, _, rfl, ?_⟩⟩⟩
      refine iteT ⟨_, rfl, _, _, _, _, _, rfl, .ty _, hk.ty, kit_int hk, _, rfl, ?_⟩
      refine iteT ⟨_, rfl, _, _, _, _, _, rfl, .ty _, hk.ty, kit_bool hk, _, rfl, _, rfl, ?_⟩
      exact iteT ⟨_, rfl, _, rfl, rfl, by simpa using q⟩
    | str z =>
      refine iteF ⟨_, rfl, _, rfl, rfl, _, rfl, iteF ⟨_, rfl, _, rfl, rfl, _, rfl, iteF ⟨_, rfl, _, _, _, _, _, rfl, .ty _, hk.ty, kit_int hk, _, rfl, ?_⟩⟩⟩
      refine iteF ⟨_, rfl, _, _, _, _, _, rfl, .ty _, hk.ty, kit_str hk, _, rfl, ?_⟩
      exact iteT ⟨_, rfl, _, rfl, rfl, by simpa using q⟩
    | ref a => cases hp
    | byt b => cases hp
    | flt b => cases hp
    | ty n => cases hp
end
end WC

set_option maxHeartbeats 4000000
namespace WC
open PySem PySem.Spec PyProof.Rows L2
theorem sqx_or {K : PySem.W.Frag} {H : Hp} {k : Bool} {a : Addr} {xs : List V} (h : SqX K H k a xs) : SqL K H a xs ∨ SqT K H a xs := by
  cases k with
  | true => exact .inr h
  | false => exact .inl h
theorem sqx_same {K : PySem.W.Frag} {H H2 : Hp} {k : Bool} {a : Addr} {xs : List V} (h : SqX K H k a xs) (s : Same H H2) : SqX K H2 k a xs := by
  cases k with
  | true => exact (show L2.SqT K H a xs from h).elim (fun h => .inl (h.elim (fun h => .inl (s _ _ h)) fun ⟨o, h⟩ => .inr ⟨o, s _ _ h⟩)) fun h => .inr h
  | false => exact (show L2.SqL K H a xs from h).elim (fun h => .inl (h.elim (fun h => .inl (s _ _ h)) fun ⟨o, h⟩ => .inr ⟨o, s _ _ h⟩)) fun h => .inr h
theorem sqx_ix {K : PySem.W.Frag} {H : Hp} {k : Bool} {a : Addr} {xs : List V} {i : Int} {v : V} {Q : VK} (h : SqX K H k a xs) (e : atI xs i = some v) (q : Q v H) : rIx K (.ref a) (.int i) H Q := by
  cases k with
  | true => exact .inr (.inl ⟨a, xs, i, v, rfl, rfl, h, e, q⟩)
  | false => exact .inl ⟨a, xs, i, v, rfl, rfl, h, e, q⟩
/-- a row told: the same values in the same order -/
def spSR (K : PySem.W.Frag) : Sp := fun vs H Q _ => ∃ (t d : Addr) (k : Bool) (xs : List V), vs = [.ref t, .ref d] ∧ H t = some (.tup xs) ∧ SqX K H k d xs ∧ xs.length ≤ 1000 ∧ (∀ x ∈ xs, plainV x = true) ∧ ∀ H2, Same H H2 → Q (.bl true) H2
def RowV (H : Hp) (xs : List V) (v : V) : Prop := ∃ t, v = .ref t ∧ H t = some (.tup xs)
def spSRs (K : PySem.W.Frag) : Sp := fun vs H Q _ => ∃ (t d : Addr) (k : Bool) (ts ds : List V) (rows : List (List V)), vs = [.ref t, .ref d] ∧ H t = some (.tup ts) ∧ SqX K H k d ds ∧ Paired (RowV H) rows ts ∧ Paired (RowV H) rows ds ∧ rows.length ≤ 1000 ∧ (∀ r ∈ rows, r.length ≤ 1000 ∧ ∀ x ∈ r, plainV x = true) ∧ ∀ H2, Same H H2 → Q (.bl true) H2
section
variable {P : Program} {w : World} {K : PySem.W.Frag} {mg : Str → Option Value} {base : Heap}
theorem ok_same_row {f : Addr} {fd : FuncData} (F : Fun K "_law_same_row" "_law_same_row" s_law_same_row f fd) (B : Blt mg) (g_law_same : DefQ P w K mg base "_law_same" 1 spSame) : FnOk P w K mg base (L2.CX P w) 2 f fd ["told", "due"] (spSR K) := by
  refine F.okX sc_law_same_row (fun vs H Q E h => ?_) (fun cdv A outer s H vs Q E hr h => ?_)
  · obtain ⟨t, d, k, xs, rfl, _⟩ := h
    rfl
  · obtain ⟨t, d, k, xs, rfl, ht, hd, hlen, pl, q⟩ := h
    have hrq := L2H.roomH_of hr
    -- slots: 0 told, 1 due, 2 k
    refine ⟨_, (pss_cons (ps_if (PW.pt (pw_or (pt_not (pt_val (pe_callB call_isi (by rfl) B.isi bt_isi (pa_cons (pv 0) (pa_cons (pe_bltn (v := .ty "tuple") (by rfl) B.tuple bt_tuple rfl) pa_nil))))) (pw_or1 (pt_cmpR op_ne (pe_callB call_len_seq (by rfl) B.len bt_len (pa_cons (pv 0) pa_nil)) (pe_callB call_len_seq (by rfl) B.len bt_len (pa_cons (pv 1) pa_nil)) (nomark _))))) (pss_one (ps_ret pe_bl)) pss_nil)
      (pss_cons (ps_for (passes_of rfl) rfl (pi_range1 (by rfl) B.range (pa_cons (pe_callB call_len_seq (by rfl) B.len bt_len (pa_cons (pv 1) pa_nil)) pa_nil)) (pg_name (i := 2) sc_law_same_row.nd rfl (Or.inl rfl))
        (pss_one (ps_if (pt_not (pt_val (pe_cq g_law_same hrq (pa_cons (pe_ix ix_tup (pv 0) (pv 2) (fun _ _ => rfl)) (pa_cons (pe_ix ix_seq (pv 1) (pv 2) (fun _ _ => rfl)) pa_nil))))) (pss_one (ps_ret pe_bl)) pss_nil)))
      (pss_one (ps_ret pe_bl)))), ?_⟩
    refine ⟨_, rfl, _, _, _, _, _, rfl, .ty _, .base (.tup ht), kit_ty (r := true) (by decide +kernel), _, rfl, ?_⟩
    refine iteF ⟨_, rfl, t, _, rfl, .inr (SqT.of ht), _, rfl, d, _, rfl, sqx_or hd, rfl, _, rfl, ?_⟩
    have e0 : (!decide (V.int (xs.length : Nat) = V.int (xs.length : Nat))) = false := by simp
    rw [e0]
    refine iteF ⟨_, rfl, d, _, rfl, sqx_or hd, _, rfl, by omega, by omega, for_range (lo := 0) (n := xs.length) (fun i σ H2 => ∃ v2, σ = [some (.ref t), some (.ref d), v2] ∧ Same H H2) ⟨_, rfl, Same.refl H⟩ ?_ ?_⟩
    · rintro i σ H2 hi ⟨v2, rfl, s2⟩
      have e1 : xs[i]? = some xs[i] := by simp [hi]
      have e2 : atI xs ((0 : Int) + i) = some xs[i] := by rw [Int.zero_add]; exact atI_nat e1
      refine ⟨_, rfl, _, rfl, t, _, _, _, rfl, rfl, SqT.of (s2 _ _ ht), e2, _, rfl, _, rfl, sqx_ix (sqx_same hd s2) e2 ⟨_, rfl, pl _ (List.getElem_mem hi), _, rfl, iteF ⟨_, rfl, s2⟩⟩⟩
    · rintro σ H2 ⟨v2, rfl, s2⟩
      exact q _ s2
theorem ok_same_rows {f : Addr} {fd : FuncData} (F : Fun K "_law_same_rows" "_law_same_rows" s_law_same_rows f fd) (B : Blt mg) (g_law_same_row : DefR P w K mg base "_law_same_row" 2 (spSR K)) : FnOk P w K mg base (L2.CX P w) 3 f fd ["told", "due"] (spSRs K) := by
  refine F.okX sc_law_same_rows (fun vs H Q E h => ?_) (fun cdv A outer s H vs Q E hr h => ?_)
  · obtain ⟨t, d, k, ts, ds, rows, rfl, _⟩ := h
    rfl
  · obtain ⟨t, d, k, ts, ds, rows, rfl, ht, hd, pt_, pd, hlen, pl, q⟩ := h
    -- slots: 0 told, 1 due, 2 k
    refine ⟨_, (pss_cons (ps_if (PW.pt (pw_or (pt_not (pt_val (pe_callB call_isi (by rfl) B.isi bt_isi (pa_cons (pv 0) (pa_cons (pe_bltn (v := .ty "tuple") (by rfl) B.tuple bt_tuple rfl) pa_nil))))) (pw_or1 (pt_cmpR op_ne (pe_callB call_len_seq (by rfl) B.len bt_len (pa_cons (pv 0) pa_nil)) (pe_callB call_len_seq (by rfl) B.len bt_len (pa_cons (pv 1) pa_nil)) (nomark _))))) (pss_one (ps_ret pe_bl)) pss_nil)
      (pss_cons (ps_for (passes_of rfl) rfl (pi_range1 (by rfl) B.range (pa_cons (pe_callB call_len_seq (by rfl) B.len bt_len (pa_cons (pv 1) pa_nil)) pa_nil)) (pg_name (i := 2) sc_law_same_rows.nd rfl (Or.inl rfl))
        (pss_one (ps_if (pt_not (pt_val (pe_cd g_law_same_row hr psE (pa_cons (pe_ix ix_tup (pv 0) (pv 2) (fun _ _ => rfl)) (pa_cons (pe_ix ix_seq (pv 1) (pv 2) (fun _ _ => rfl)) pa_nil))))) (pss_one (ps_ret pe_bl)) pss_nil)))
      (pss_one (ps_ret pe_bl)))), ?_⟩
    have lt := pt_.length
    have ll := pd.length
    refine ⟨_, rfl, _, _, _, _, _, rfl, .ty _, .base (.tup ht), kit_ty (r := true) (by decide +kernel), _, rfl, ?_⟩
    refine iteF ⟨_, rfl, t, _, rfl, .inr (SqT.of ht), _, rfl, d, _, rfl, sqx_or hd, rfl, _, rfl, ?_⟩
    have e0 : (!decide (V.int (ts.length : Nat) = V.int (ds.length : Nat))) = false := by simp; omega
    rw [e0]
    refine iteF ⟨_, rfl, d, _, rfl, sqx_or hd, _, rfl, by omega, by omega, for_range (lo := 0) (n := ds.length) (fun i σ H2 => ∃ v2, σ = [some (.ref t), some (.ref d), v2] ∧ Same H H2) ⟨_, rfl, Same.refl H⟩ ?_ ?_⟩
    · rintro i σ H2 hi ⟨v2, rfl, s2⟩
      have h0 : i < rows.length := by omega
      have hr0 : rows[i]? = some rows[i] := by simp [h0]
      obtain ⟨v, e1, t1, rfl, ht1⟩ := pr_to pt_ hr0
      obtain ⟨u, e2, d1, rfl, hd1⟩ := pr_to pd hr0
      have a1 : atI ts ((0 : Int) + i) = some (.ref t1) := by rw [Int.zero_add]; exact atI_nat e1
      have a2 : atI ds ((0 : Int) + i) = some (.ref d1) := by rw [Int.zero_add]; exact atI_nat e2
      obtain ⟨p1, p2⟩ := pl _ (List.getElem_mem h0)
      refine ⟨_, rfl, _, rfl, t, _, _, _, rfl, rfl, SqT.of (s2 _ _ ht), a1, _, rfl, _, rfl, sqx_ix (sqx_same hd s2) a2 ⟨t1, d1, true, _, rfl, s2 _ _ ht1, SqT.of (s2 _ _ hd1), p1, p2, fun H3 s3 => ⟨_, rfl, iteF ⟨_, rfl, s2.trans s3⟩⟩⟩⟩
    · rintro σ H2 ⟨v2, rfl, s2⟩
      exact q _ s2
end
end WC

set_option maxHeartbeats 4000000
namespace WC
open PySem PySem.Spec PyProof.Rows L2
/-- 0, 1, .. n - 1 -/
def upto (n : Nat) : List Int := (List.range n).map Int.ofNat
theorem upto_len (n : Nat) : (upto n).length = n := by unfold upto; simp
theorem upto_succ (n : Nat) : upto (n + 1) = upto n ++ [(n : Int)] := by
  unfold upto
  rw [List.range_succ, List.map_append]
  rfl
theorem upto_mem {n : Nat} {x : Int} : x ∈ upto n ↔ 0 ≤ x ∧ x < n := by
  unfold upto
  rw [List.mem_map]
  constructor
  · rintro ⟨i, hi, rfl⟩
    rw [List.mem_range] at hi
    exact ⟨Int.natCast_nonneg i, Int.ofNat_lt.mpr hi⟩
  · rintro ⟨h0, h1⟩
    exact ⟨x.toNat, by rw [List.mem_range]; omega, by show (x.toNat : Int) = x; omega⟩
theorem upto_nodup (n : Nat) : (upto n).Nodup := by
  unfold upto
  rw [List.Nodup, List.pairwise_map]
  refine List.nodup_range.imp fun {a b} h e => h (Int.ofNat.inj e)
theorem seq_at {i : Int} {n : Nat} (h0 : 0 ≤ i) (h1 : i < n) : seqIndex? i n = some i.toNat := by
  have e : (decide (0 ≤ i) && decide (i < (n : Int))) = true := by simp [h0, h1]
  unfold seqIndex?
  simp only [show ¬ i < 0 by omega, if_false]
  rw [if_pos e]
theorem perm_pop {y : Int} : ∀ {l : List Int} {k : Nat}, l[k]? = some y → (y :: l.eraseIdx k).Perm l
  | [], k, h => by simp at h
  | a :: l, 0, h => by
    have e : a = y := by simpa using h
    rw [e]
    exact .refl _
  | a :: l, k + 1, h => by
    have h : l[k]? = some y := by simpa using h
    exact (List.Perm.swap a y _).trans ((perm_pop h).cons a)
theorem map_erase {α β : Type} (g : α → β) : ∀ (l : List α) (k : Nat), (l.map g).eraseIdx k = (l.eraseIdx k).map g
  | [], _ => by simp
  | a :: l, 0 => by simp
  | a :: l, k + 1 => by simp [map_erase g l k]
/-- _law_order: a drawn order of 0 .. n - 1 -/
def spOrder : Sp := fun vs H Q _ => ∃ (b : Addr) (n : Nat), vs = [.ref b, .int n] ∧ BagAt H b ∧ n ≤ 1000 ∧ ∀ (r : Addr) (ps : List Int) H2, SameB b H H2 → BagAt H2 b → H r = none → H2 r = some (.lst (ps.map V.int)) → ps.Perm (upto n) → Q (.ref r) H2
/-- while a row is drawn: L what is left, R what was drawn -/
structure Drw (H H2 : Hp) (b L R : Addr) (n i : Nat) (lft rw : List Int) : Prop where
  same : SameB b H H2
  bag : BagAt H2 b
  nL : H L = none
  nR : H R = none
  ne : L ≠ R
  hL : H2 L = some (.lst (lft.map V.int))
  hR : H2 R = some (.lst (rw.map V.int))
  perm : (rw ++ lft).Perm (upto n)
  len : lft.length = n - i
  rlen : rw.length = i
section
variable {P : Program} {w : World} {K : PySem.W.Frag} {mg : Str → Option Value} {base : Heap}
theorem ok_order {f : Addr} {fd : FuncData} (F : Fun K "_law_order" "_law_order" s_law_order f fd) (B : Blt mg) (G : DefR P w K mg base "_law_draw" 1 spDraw) : FnOk P w K mg base (L2.CX P w) 2 f fd ["bag", "many"] spOrder := by
  refine F.okX sc_law_order (fun vs H Q E h => ?_) (fun cdv A outer s H vs Q E hr h => ?_)
  · obtain ⟨b, n, rfl, _⟩ := h
    rfl
  · obtain ⟨b, n, rfl, hb, hn, q⟩ := h
    -- slots 0 bag, 1 many, 2 left, 3 k, 4 row
    refine ⟨_, pss_cons (ps_setLc (i := 2) (own := [("k", 3)]) rfl sc_law_order.nd rfl rfl (sw_true rfl rfl rfl (by decide +kernel)) (pi_range1 (by rfl) B.range (pa_cons (pv 1) pa_nil)) (blkOk_by (N := nn_law_order) (sc := defScope s_law_order) (own := [("k", 3)]) (by decide +kernel))
        (fun _ _ _ _ _ => pg_name (i := 3) sc_law_order.nd rfl (Or.inl rfl)) (fun _ _ _ _ _ => pts_nil) (fun _ _ _ _ _ => pv 3))
      (pss_cons (ps_set (i := 4) sc_law_order.nd rfl (Or.inl rfl) (pe_lst pa_nil))
      (pss_cons (ps_for (passes_of rfl) rfl (pi_range1 (by rfl) B.range (pa_cons (pv 1) pa_nil)) (pg_name (i := 3) sc_law_order.nd rfl (Or.inl rfl))
        (pss_one (ps_expr (pe_bm PySem.F.plainAttrs_list PySem.F.slot_list_append PySem.F.type_list_append mt_append (pv 4) (pa_cons
          (pe_bm PySem.F.plainAttrs_list PySem.F.slot_list_pop PySem.F.type_list_pop mt_popAt (pv 2) (pa_cons (pe_cd G hr psE (pa_cons (pv 0) (pa_cons (pe_callB call_len_seq (by rfl) B.len bt_len (pa_cons (pv 2) pa_nil)) pa_nil))) pa_nil)) pa_nil)))))
      (pss_one (ps_ret (pv 4))))), ?_⟩
    refine ⟨_, rfl, (n : Int), rfl, by omega, by omega, fun D hD => lc_range (lo := 0) (n := n) (fun i H2 => Same H H2 ∧ H2 D = some (.lst ((upto i).map V.int))) ⟨Same.new hD, upd_same⟩ ?_ ?_⟩
    · rintro i H2 hi ⟨s2, e2⟩
      refine ⟨rfl, yes ⟨_, rfl, _, e2, by rw [List.length_map, upto_len]; exact line_lt (by omega), Same.newer s2 hD, ?_⟩⟩
      rw [upd_same, upto_succ, List.map_append, Int.zero_add]
      rfl
    · rintro H2 ⟨s2, e2⟩
      refine ⟨by show 0 ≤ sizeLine; decide, fun R hR => ?_⟩
      have DR : D ≠ R := fun z => by rw [← z, e2] at hR; cases hR
      have hb2 : BagAt H2 b := hb.same s2
      have nbR : b ≠ R := fun z => by obtain ⟨x, y, e⟩ := hb2; rw [z, hR] at e; cases e
      refine ⟨_, rfl, (n : Int), rfl, by omega, by omega, for_range (lo := 0) (n := n) (fun i σ H3 => ∃ v3 lft rw, σ = [some (.ref b), some (.int n), some (.ref D), v3, some (.ref R)] ∧ Drw H H3 b D R n i lft rw) ⟨_, upto n, [], rfl, ⟨(SameB.of s2).put (Same.free s2 hR), hb2.same (Same.new hR), hD, Same.free s2 hR, DR, by rw [upd_ne DR]; exact e2, upd_same, by simp, by rw [upto_len]; rfl, rfl⟩⟩ ?_ ?_⟩
      · rintro i σ H3 hi ⟨v3, lft, rw_, rfl, d⟩
        have nbD : b ≠ D := fun z => by obtain ⟨x, y, e⟩ := d.bag; have := d.hL; rw [← z, e] at this; have z2 := hb; rw [z] at z2; obtain ⟨x2, y2, e2⟩ := z2; rw [d.nL] at e2; cases e2
        refine ⟨_, rfl, .inl ⟨rfl, _, SqL.of d.hR⟩, _, rfl, .inl ⟨rfl, _, SqL.of d.hL⟩, _, rfl, _, rfl, D, _, rfl, .inl (SqL.of d.hL), b, (lft.length : Int), by rw [List.length_map], d.bag, by have := d.len; omega, by have := d.len; omega, fun k H4 k0 k1 s4 b4 => ?_⟩
        have hL4 : H4 D = some (.lst (lft.map V.int)) := s4 _ _ d.hL (Ne.symm nbD)
        have hR4 : H4 R = some (.lst (rw_.map V.int)) := s4 _ _ d.hR (Ne.symm nbR)
        obtain ⟨y, hy⟩ : ∃ y, lft[k.toNat]? = some y := ⟨lft[k.toNat]'(by omega), by simp⟩
        have hk : k.toNat < lft.length := (List.getElem?_eq_some_iff.mp hy).1
        refine ⟨D, _, k, k.toNat, .int y, rfl, rfl, hL4, by have := d.len; omega, by have := d.len; omega, by rw [List.length_map]; exact seq_at k0 k1, by rw [List.getElem?_map, hy]; rfl, ?_⟩
        refine ⟨R, _, _, rfl, rfl, by rw [upd_ne (Ne.symm d.ne)]; exact hR4, by rw [List.length_map, d.rlen]; exact line_lt (by omega), ?_⟩
        refine ⟨_, lft.eraseIdx k.toNat, rw_ ++ [y], rfl, ⟨?_, ?_, d.nL, d.nR, d.ne, ?_, ?_, ?_, ?_, ?_⟩⟩
        · intro c o e n2
          rw [upd_ne (ne_of_none e d.nR), upd_ne (ne_of_none e d.nL)]
          exact s4 _ _ (d.same _ _ e n2) n2
        · obtain ⟨x, y2, e⟩ := b4
          exact ⟨x, y2, by rw [upd_ne nbR, upd_ne nbD]; exact e⟩
        · rw [upd_ne d.ne, upd_same, map_erase]
        · rw [upd_same, List.map_append]
          rfl
        · refine List.Perm.trans ?_ d.perm
          rw [List.append_assoc]
          exact (perm_pop hy).append_left _
        · rw [List.length_eraseIdx, if_pos hk, d.len]
          omega
        · rw [List.length_append, d.rlen]
          rfl
      · rintro σ H3 ⟨v3, lft, rw_, rfl, d⟩
        have e : lft = [] := List.length_eq_zero_iff.mp (by rw [d.len]; omega)
        subst e
        exact ⟨_, rfl, q R rw_ H3 d.same d.bag d.nR d.hR (by have := d.perm; rwa [List.append_nil] at this)⟩
end
end WC

set_option maxHeartbeats 4000000
namespace WC
open PySem PySem.Spec PyProof.Rows L2
/-- what has no feeder comes first -/
theorem acyc_kept {ds : List Tri} (h : Acyc (ds.filter fun c => decide (∃ d ∈ ds, d.2.1 = c.1))) : Acyc ds := by
  classical
  obtain ⟨r, hr⟩ := h
  refine ⟨fun x => if ∃ d ∈ ds, d.2.1 = x then r x + 1 else 0, fun c hc => ?_⟩
  have f2 : ∃ d ∈ ds, d.2.1 = c.2.1 := ⟨c, hc, rfl⟩
  dsimp only
  rw [if_pos f2]
  by_cases f1 : ∃ d ∈ ds, d.2.1 = c.1
  · rw [if_pos f1]
    have := hr c (List.mem_filter.mpr ⟨hc, decide_eq_true f1⟩)
    omega
  · rw [if_neg f1]
    omega
def spCircle : Sp := fun vs H Q _ => ∃ (l : Addr) (cs : List Tri) (ws : List V), vs = [.ref l] ∧ H l = some (.lst ws) ∧ Paired (TriA H) cs ws ∧ cs.length ≤ 1000 ∧ (¬ Acyc cs → ∀ H2, Same H H2 → Q (.bl true) H2) ∧ (Acyc cs → ∀ H2, Same H H2 → Q (.bl false) H2)
/-! what is given for channels -/
/-- a value that is drawn -/
def Kt (H : Hp) (u : V) : Prop := plainV u = true ∨ ∃ t xs, u = .ref t ∧ H t = some (.tup xs)
theorem Kt.known {K : PySem.W.Frag} {H : Hp} {u : V} (h : Kt H u) : Known K H u := by
  rcases h with h | ⟨t, xs, e, ht⟩
  · cases u <;> first | exact trivial | exact absurd h (by intro z; cases z)
  · subst e
    exact .inl ⟨xs, ht⟩
theorem Kt.same {H H2 : Hp} {u : V} (h : Kt H u) (s : Same H H2) : Kt H2 u := by
  rcases h with h | ⟨t, xs, e, ht⟩
  · exact .inl h
  · exact .inr ⟨t, xs, e, s _ _ ht⟩
inductive Chn where
  | tup (xs : List V)
  | oth (u : V)
def ChA (H : Hp) (d : Chn) (v : V) : Prop := match d with
  | .tup xs => ∃ t, v = .ref t ∧ H t = some (.tup xs) ∧ (∀ x ∈ xs, Kt H x) ∧ xs.length ≤ 10
  | .oth u => v = u ∧ (plainV u = true ∨ ∃ t xs, u = .ref t ∧ H t = some (.lst xs))
theorem ChA.same {H H2 : Hp} {d : Chn} {v : V} (h : ChA H d v) (s : Same H H2) : ChA H2 d v := by
  cases d with
  | tup xs =>
    obtain ⟨t, e, ht, hk, hl⟩ := h
    exact ⟨t, e, s _ _ ht, fun x hx => (hk x hx).same s, hl⟩
  | oth u =>
    obtain ⟨e, h⟩ := h
    exact ⟨e, h.imp id fun ⟨t, xs, e2, ht⟩ => ⟨t, xs, e2, s _ _ ht⟩⟩
theorem chs_same {H H2 : Hp} {ds : List Chn} {ws : List V} (s : Same H H2) (h : Paired (ChA H) ds ws) : Paired (ChA H2) ds ws := Paired.mapP h fun d v hd => hd.same s
/-- two stages are joined -/
def joinsB (n : Int) : Chn → Bool
  | .tup (a :: b :: rest) => decide (rest.length ≤ 1) && (btw a 0 (n - 1) && (btw b 0 (n - 1) && !decide (a = b)))
  | _ => false
def pairC : Chn → Int × Int
  | .tup (.int a :: .int b :: _) => (a, b)
  | _ => (0, 0)
def capB : Chn → Bool
  | .tup [_, _, c] => btw c 1 999
  | _ => true
theorem joins_view {n : Int} {d : Chn} (h : joinsB n d = true) : ∃ (a b : Int) (rest : List V), d = .tup (.int a :: .int b :: rest) ∧ rest.length ≤ 1 ∧ (0 ≤ a ∧ a < n) ∧ (0 ≤ b ∧ b < n) ∧ a ≠ b := by
  match d, h with
  | .tup (x :: y :: rest), h =>
    simp only [joinsB, Bool.and_eq_true, decide_eq_true_eq, Bool.not_eq_true', decide_eq_false_iff_not] at h
    obtain ⟨h1, h2, h3, h4⟩ := h
    cases x with
    | int a =>
      cases y with
      | int b =>
        simp only [btw, Bool.and_eq_true, decide_eq_true_eq] at h2 h3
        exact ⟨a, b, rest, rfl, h1, by omega, by omega, fun e => h4 (by rw [e])⟩
      | _ => cases h3
    | _ => cases h2
  | .tup [], h => cases h
  | .tup [_], h => cases h
  | .oth _, h => cases h
def wordAt (n : Int) (before : List Chn) (d : Chn) : Option Str := if joinsB n d = false then some "channel" else if capB d = false then some "capacity" else if pairC d ∈ before.map pairC then some "duplicate" else none
def FirstF (n : Int) (ds : List Chn) (m : Nat) (w : Str) : Prop := (∃ d, ds[m]? = some d ∧ wordAt n (ds.take m) d = some w) ∧ ∀ j d, j < m → ds[j]? = some d → wordAt n (ds.take j) d = none
def AllOk (n : Int) (ds : List Chn) : Prop := ∀ j d, ds[j]? = some d → wordAt n (ds.take j) d = none
theorem FirstF.uniq {n : Int} {ds : List Chn} {m k : Nat} {w z : Str} (h : FirstF n ds m w) (g : FirstF n ds k z) : m = k ∧ w = z := by
  obtain ⟨⟨d, hd, hw⟩, h2⟩ := h
  obtain ⟨⟨e, he, hz⟩, g2⟩ := g
  have mk : m = k := by
    rcases Nat.lt_or_ge m k with y | y
    · rw [g2 m d y hd] at hw; cases hw
    · rcases Nat.lt_or_ge k m with y2 | y2
      · rw [h2 k e y2 he] at hz; cases hz
      · omega
  subst mk
  rw [hd] at he
  cases he
  rw [hw] at hz
  exact ⟨rfl, Option.some.inj hz⟩
theorem FirstF.not {n : Int} {ds : List Chn} {m : Nat} {w : Str} (h : FirstF n ds m w) : ¬ AllOk n ds := fun g => by
  obtain ⟨⟨d, hd, hw⟩, _⟩ := h
  rw [g m d hd] at hw
  cases hw
theorem least_nat {p : Nat → Prop} (h : ∃ m, p m) : ∃ m, p m ∧ ∀ j, j < m → ¬ p j := by
  classical
  obtain ⟨m, hm⟩ := h
  induction m using Nat.strongRecOn with
  | ind m ih =>
    by_cases c : ∃ j, j < m ∧ p j
    · obtain ⟨j, hj, pj⟩ := c
      exact ih j hj pj
    · exact ⟨m, hm, fun j hj pj => c ⟨j, hj, pj⟩⟩
theorem first_or (n : Int) (ds : List Chn) : AllOk n ds ∨ ∃ m w, FirstF n ds m w := by
  classical
  by_cases h : AllOk n ds
  · exact .inl h
  · refine .inr ?_
    have ex : ∃ m, ∃ d, ds[m]? = some d ∧ wordAt n (ds.take m) d ≠ none := by
      unfold AllOk at h
      simp only [Classical.not_forall] at h
      obtain ⟨j, d, hd, hw⟩ := h
      exact ⟨j, d, hd, hw⟩
    obtain ⟨m, ⟨d, hd, hw⟩, least⟩ := least_nat ex
    cases e : wordAt n (ds.take m) d with
    | none => exact absurd e hw
    | some w =>
      refine ⟨m, w, ⟨d, hd, e⟩, fun j d2 hj hd2 => ?_⟩
      cases e2 : wordAt n (ds.take j) d2 with
      | none => rfl
      | some z => exact absurd ⟨d2, hd2, by rw [e2]; intro z; cases z⟩ (least j hj)
/-- a good channel -/
def GoodC (n : Int) (d : Chn) : Prop := joinsB n d = true ∧ capB d = true
theorem word_none {n : Int} {before : List Chn} {d : Chn} (h : wordAt n before d = none) : GoodC n d ∧ pairC d ∉ before.map pairC := by
  unfold wordAt at h
  cases e1 : joinsB n d with
  | false => rw [if_pos e1] at h; cases h
  | true =>
    rw [if_neg (by rw [e1]; intro z; cases z)] at h
    cases e2 : capB d with
    | false => rw [if_pos e2] at h; cases h
    | true =>
      rw [if_neg (by rw [e2]; intro z; cases z)] at h
      by_cases m : pairC d ∈ before.map pairC
      · rw [if_pos m] at h; cases h
      · exact ⟨⟨e1, e2⟩, m⟩
def triC (e : Int) : Chn → Tri
  | .tup [.int a, .int b] => (a, b, e)
  | .tup [.int a, .int b, .int c] => (a, b, c)
  | _ => (0, 0, 0)
theorem good_tri {n : Nat} {e : Int} {d : Chn} (h : GoodC n d) (he : 1 ≤ e ∧ e ≤ 999) : ChOk n (triC e d) ∧ pairOf (triC e d) = pairC d := by
  obtain ⟨h1, h2⟩ := h
  obtain ⟨a, b, rest, rfl, hr, ha, hb, hne⟩ := joins_view h1
  match rest, hr, h2 with
  | [], _, _ => exact ⟨⟨ha, hb, hne, he⟩, rfl⟩
  | [c], _, h2 =>
    cases c with
    | int c =>
      simp only [capB, btw, Bool.and_eq_true, decide_eq_true_eq] at h2
      exact ⟨⟨ha, hb, hne, h2⟩, rfl⟩
    | _ => cases h2
/-- what is wrong, if anything -/
def DueP (cnt : V) (ds : List Chn) (extra : V) (o : Option (Str × V)) : Prop :=
  (btw cnt 1 40 = false ∧ o = some (("stages" : Str), V.non)) ∨
  ∃ n : Nat, cnt = .int n ∧ 1 ≤ n ∧ n ≤ 40 ∧ ((120 < ds.length ∧ o = some (("limit" : Str), V.non)) ∨ (ds.length ≤ 120 ∧ ((∃ m w, FirstF n ds m w ∧ o = some (w, V.int (m : Nat))) ∨
    (AllOk n ds ∧ ((btw extra 1 999 = false ∧ o = some (("capacity" : Str), V.non)) ∨ ∃ e : Int, extra = .int e ∧ (1 ≤ e ∧ e ≤ 999) ∧ ((¬ Acyc (ds.map (triC e)) ∧ o = some (("circle" : Str), V.non)) ∨ (Acyc (ds.map (triC e)) ∧ o = none)))))))
theorem DueP.uniq {cnt extra : V} {ds : List Chn} {o p : Option (Str × V)} (h : DueP cnt ds extra o) (g : DueP cnt ds extra p) : o = p := by
  rcases h with ⟨h1, rfl⟩ | ⟨n, rfl, n1, n40, h⟩
  · rcases g with ⟨_, rfl⟩ | ⟨m, rfl, m1, m40, _⟩
    · rfl
    · rw [btw_in (by omega) (by omega)] at h1; cases h1
  · rcases g with ⟨g1, rfl⟩ | ⟨m, em, _, _, g⟩
    · rw [btw_in (by omega) (by omega)] at g1; cases g1
    · have mn : m = n := by injection em with em; omega
      subst mn
      rcases h with ⟨h1, rfl⟩ | ⟨hl, h⟩ <;> rcases g with ⟨g1, rfl⟩ | ⟨gl, g⟩
      · rfl
      · omega
      · omega
      rcases h with ⟨k, w, hf, rfl⟩ | ⟨ha, h⟩ <;> rcases g with ⟨k2, w2, gf, rfl⟩ | ⟨ga, g⟩
      · obtain ⟨e1, e2⟩ := hf.uniq gf
        rw [e1, e2]
      · exact absurd ga hf.not
      · exact absurd ha gf.not
      rcases h with ⟨h1, rfl⟩ | ⟨e, rfl, he, h⟩ <;> rcases g with ⟨g1, rfl⟩ | ⟨e2, ee, ge, g⟩
      · rfl
      · rw [ee, btw_in ge.1 ge.2] at h1; cases h1
      · rw [btw_in he.1 he.2] at g1; cases g1
      · injection ee with ee
        subst ee
        rcases h with ⟨h1, rfl⟩ | ⟨h1, rfl⟩ <;> rcases g with ⟨g1, rfl⟩ | ⟨g1, rfl⟩
        · rfl
        · exact absurd g1 h1
        · exact absurd h1 g1
        · rfl
section
variable {P : Program} {w : World} {K : PySem.W.Frag} {mg : Str → Option Value} {base : Heap}
theorem ok_circle {f : Addr} {fd : FuncData} (F : Fun K "has_circle" "has_circle" s_has_circle f fd) (B : Blt mg) : FnOk P w K mg base (L2.CX P w) 1 f fd ["channels"] spCircle := by
  refine F.okX sc_has_circle (fun vs H Q E h => ?_) (fun cdv A outer s H vs Q E hr h => ?_)
  · obtain ⟨l, cs, ws, rfl, _⟩ := h
    rfl
  · obtain ⟨l, cs, ws, rfl, hl, hp, hlen, kT, kF⟩ := h
    have hu := hu_of hr
    -- slots 0 channels, 1 left, 2 fed, 3 _, 4 consumer, 5 kept, 6 channel
    refine ⟨_, pss_cons (ps_set (i := 1) sc_has_circle.nd rfl (Or.inl rfl) (pv 0))
      (pss_cons (ps_while (passes_of rfl) (pt_truth (pv 1) (by intro _; rfl))
        (pss_cons (ps_set (i := 2) sc_has_circle.nd rfl (Or.inr rfl) (pe_dc (own := [("_", 3), ("consumer", 4)]) rfl sc_has_circle.nd (pi_list (pv 1)) (blkOk_by (N := nn_has_circle) (sc := defScope s_has_circle) (own := [("_", 3), ("consumer", 4)]) (by decide +kernel))
            (fun _ _ _ _ _ => pg_tupK (K := K) (n := 3) rfl (pgs_cons (pg_name (i := 3) sc_has_circle.nd rfl (Or.inl rfl)) (pgs_cons (pg_name (i := 4) sc_has_circle.nd rfl (Or.inl rfl)) (pgs_cons (pg_name (i := 3) sc_has_circle.nd rfl (Or.inl rfl)) pgs_nil)))) (fun _ _ _ _ _ => pts_nil) (fun _ _ _ _ _ => pv 4) (fun _ _ _ _ _ => pe_bl)))
        (pss_cons (ps_setLc (i := 5) (own := [("channel", 6)]) rfl sc_has_circle.nd rfl rfl (sw_true rfl rfl rfl (by decide +kernel)) (pi_list (pv 1)) (blkOk_by (N := nn_has_circle) (sc := defScope s_has_circle) (own := [("channel", 6)]) (by decide +kernel))
            (fun _ _ _ _ _ => pg_name (i := 6) sc_has_circle.nd rfl (Or.inl rfl)) (fun _ _ _ _ _ => pts_one (pt_cmp (pc_din (by exact hu) (pe_ix (i_tup (K := K)) (pv 6) pe_int (fun _ _ => rfl)) (pv 2)))) (fun _ _ _ _ _ => pv 6))
        (pss_cons (ps_if (pt_cmpR op_eq (pe_callB call_len_seq (by rfl) B.len bt_len (pa_cons (pv 5) pa_nil)) (pe_callB call_len_seq (by rfl) B.len bt_len (pa_cons (pv 1) pa_nil)) (nomark _)) (pss_one (ps_ret pe_bl)) pss_nil)
        (pss_one (ps_set (i := 1) sc_has_circle.nd rfl (Or.inl rfl) (pv 5)))))))
      (pss_one (ps_ret pe_bl))), ?_⟩
    refine ⟨_, rfl, ?_⟩
    dsimp only [gName]
    refine seqW ?_
    refine while_by (fun σ H2 => ∃ (a : Addr) (ds : List Tri) (us : List V) (v2 v3 v4 v5 v6 : Option V), σ = [some (.ref l), some (.ref a), v2, v3, v4, v5, v6] ∧ Same H H2 ∧ H2 a = some (.lst us) ∧ Paired (TriA H2) ds us ∧ ds.length ≤ 1000 ∧ (∀ c ∈ ds, c ∈ cs) ∧ (Acyc ds → Acyc cs))
      leftLen ⟨l, cs, ws, _, _, _, _, _, rfl, Same.refl H, hl, hp, hlen, fun _ z => z, fun z => z⟩ ?_ ?_
    · rintro σ H2 ⟨a, ds, us, v2, v3, v4, v5, v6, rfl, s2, ha, hpd, hdl, sub, up⟩
      refine ⟨_, rfl, _, .inl ⟨us, SqL.of ha, rfl⟩, ?_⟩
      cases hE : us with
      | nil =>
        refine iteF ?_
        rw [hE] at hpd
        cases hpd
        exact kF (up ⟨fun _ => 0, fun c hc => by cases hc⟩) H2 s2
      | cons u0 us0 =>
        refine iteT ?_
        rw [hE] at ha hpd
        -- fed
        refine ⟨_, rfl, a, rfl, ⟨_, SqL.of ha⟩, fun D hD => dc_lst (K := K) (a := a) (xs := u0 :: us0) (fun i H3 => Same H2 H3 ∧ Fed H3 D (ds.take i) i) ⟨Same.new hD, [], upd_same, by simp, fun p => by simp [valV]⟩ (fun i H3 _ q => SqL.of (q.1 _ _ ha)) ?_ ?_⟩
        · rintro i x H3 hx ⟨s3, kvs, d1, d2, d3⟩
          obtain ⟨c, hc, t, rfl, ht⟩ := pr_at hpd hx
          have hi := (List.getElem?_eq_some_iff.mp hc).1
          refine ⟨t, _, rfl, SqT.of (s3 _ _ ht), rfl, _, _, rfl, _, _, rfl, _, _, rfl, rfl, rfl, yes ⟨_, rfl, kvs, Sum.inl c.2.1, rfl, d1, line_lt (by omega), Same.newer s3 hD, _, upd_same, ?_, fun p => ?_⟩⟩
          · exact Nat.le_trans (pk_len _ _ _) (by omega)
          · rw [valV_put, take_snoc hc]
            by_cases e : p = c.2.1
            · subst e
              rw [if_pos rfl]
              simp
            · rw [if_neg (fun z => e (Sum.inl.inj z)), d3 p]
              congr 1
              apply propext
              constructor
              · rintro ⟨c2, m, e2⟩
                exact ⟨c2, List.mem_append_left _ m, e2⟩
              · rintro ⟨c2, m, e2⟩
                rcases List.mem_append.mp m with m | m
                · exact ⟨c2, m, e2⟩
                · rw [List.mem_singleton.mp m] at e2
                  exact absurd e2.symm e
        · rintro H3 ⟨s3, kvs, d1, d2, d3⟩
          rw [← hpd.length, List.take_length] at d3
          -- kept
          refine ⟨_, rfl, a, rfl, ⟨_, SqL.of (s3 _ _ ha)⟩, fun R hR => lc_list (K := K) (a := a) (xs := u0 :: us0) (fun i H4 => Same H3 H4 ∧ ∃ ks, H4 R = some (.lst ks) ∧ Paired (TriA H4) ((ds.take i).filter fun c => decide (∃ d ∈ ds, d.2.1 = c.1)) ks) ⟨Same.new hR, [], upd_same, .nil⟩ (fun i H4 _ q => SqL.of (q.1 _ _ (s3 _ _ ha))) ?_ ?_⟩
          · rintro i x H4 hx ⟨s4, ks, r1, r2⟩
            obtain ⟨c, hc, t, rfl, ht⟩ := pr_at hpd hx
            have hi := (List.getElem?_eq_some_iff.mp hc).1
            have ht4 := s4 _ _ (s3 _ _ ht)
            refine ⟨rfl, _, rfl, t, _, _, _, rfl, rfl, SqT.of ht4, atI_nat (j := 0) rfl, _, rfl, D, _, rfl, DGet.k (k := Sum.inl c.1) (s4 _ _ d1), _, rfl, ?_⟩
            have hks : ks.length ≤ i := by
              rw [← r2.length]
              exact Nat.le_trans (List.length_filter_le _ _) (by rw [List.length_take]; omega)
            have e3 := d3 c.1
            cases hv : valV kvs (Sum.inl c.1 : Key) with
            | some v =>
              rw [hv] at e3
              have e4 : decide (∃ d ∈ ds, d.2.1 = c.1) = true := e3.symm
              refine iteT ⟨_, rfl, ks, r1, line_lt (by omega), Same.newer s4 hR, _, upd_same, ?_⟩
              rw [take_snoc hc, List.filter_append]
              have nx : ∀ {b xs}, H4 b = some (.tup xs) → b ≠ R := fun {b xs} e => ne_of e r1 (by intro z; cases z)
              refine pr_snoc (a := c) ?_ ?_ |> fun z => by
                have q : [c].filter (fun c => decide (∃ d ∈ ds, d.2.1 = c.1)) = [c] := by simp only [List.filter, e4]
                rw [q]
                exact z
              · exact Paired.mapP r2 fun c2 v2 ⟨t2, q1, q2⟩ => ⟨t2, q1, by rw [upd_ne (nx q2)]; exact q2⟩
              · exact ⟨t, rfl, by rw [upd_ne (nx ht4)]; exact ht4⟩
            | none =>
              rw [hv] at e3
              have e4 : decide (∃ d ∈ ds, d.2.1 = c.1) = false := e3.symm
              refine iteF ⟨s4, ks, r1, ?_⟩
              rw [take_snoc hc, List.filter_append]
              have q : [c].filter (fun c => decide (∃ d ∈ ds, d.2.1 = c.1)) = [] := by simp only [List.filter, e4]
              rw [q, List.append_nil]
              exact r2
          · rintro H4 ⟨s4, ks, r1, r2⟩
            rw [← hpd.length, List.take_length] at r2
            have ha4 := s4 _ _ (s3 _ _ ha)
            refine ⟨_, rfl, R, _, rfl, .inl (SqL.of r1), _, rfl, a, _, rfl, .inl (SqL.of ha4), rfl, _, rfl, ?_⟩
            have dne : ds ≠ [] := fun z => by
              rw [z] at hpd
              have q := hpd.length
              simp at q
            by_cases hfull : ks.length = (u0 :: us0).length
            · rw [hfull, decide_eq_true rfl]
              refine iteT (kT (fun ac => ?_) _ (s2.trans (s3.trans s4)))
              obtain ⟨c0, m0, q0⟩ := (ac.sub sub).first dne
              have z : ((ds.filter fun c => decide (∃ d ∈ ds, d.2.1 = c.1)).length) = ds.length := by rw [r2.length, hfull, hpd.length]
              have y := List.length_filter_eq_length_iff.mp z c0 m0
              obtain ⟨d, md, ed⟩ := of_decide_eq_true y
              exact q0 d md ed
            have hlt : ks.length < (u0 :: us0).length := by
              refine Nat.lt_of_le_of_ne ?_ hfull
              rw [← r2.length, ← hpd.length]
              exact List.length_filter_le _ _
            have q1 : decide (V.int (ks.length : Int) = V.int ((u0 :: us0).length : Int)) = false := by
              apply decide_eq_false
              intro z
              injection z with z
              omega
            rw [q1]
            refine iteF ⟨_, rfl, ⟨R, _, ks, _, _, _, _, _, rfl, s2.trans (s3.trans s4), r1, r2, Nat.le_trans (List.length_filter_le _ _) hdl, fun c hc => sub c (List.mem_filter.mp hc).1, fun ac => up (acyc_kept ac)⟩, ?_⟩
            have e1 : leftLen [some (V.ref l), some (V.ref R), some (V.ref D), v3, v4, some (V.ref R), v6] H4 = ks.length := by simp only [leftLen, List.getElem?_cons_succ, List.getElem?_cons_zero, r1]
            have e2 : leftLen [some (V.ref l), some (V.ref a), v2, v3, v4, v5, v6] H2 = (u0 :: us0).length := by simp only [leftLen, List.getElem?_cons_succ, List.getElem?_cons_zero, ha]
            show leftLen _ _ < leftLen _ _
            rw [e2]
            show leftLen [some (V.ref l), some (V.ref R), some (V.ref D), v3, v4, some (V.ref R), v6] H4 < _
            rw [e1]
            exact hlt
    · rintro σ H2 Q1 Q2 hm ⟨v, e, kk, t, q⟩
      exact ⟨v, e, kk, t, hm _ _ q⟩
end
end WC

set_option maxHeartbeats 4000000
namespace WC
open PySem PySem.Spec PyProof.Rows L2
def spJoinsG (K : PySem.W.Frag) : Sp := fun vs H Q _ => ∃ (n : Int) (d : Chn) (v : V), vs = [.int n, v] ∧ ChA H d v ∧ ∀ H2, Same H H2 → Q (.bl (joinsB n d)) H2
def spWithG : Sp := fun vs H Q _ => ∃ (v : V) (e : Int) (n : Int) (d : Chn), vs = [v, .int e] ∧ ChA H d v ∧ GoodC n d ∧ ∀ p, H p = none → Q (.ref p) (upd H p (.tup [.int (triC e d).1, .int (triC e d).2.1, .int (triC e d).2.2]))
theorem chn_ty {K : PySem.W.Frag} {H : Hp} {d : Chn} {v : V} (h : ChA H d v) : ∃ t b, TyX K H v t ∧ PySem.W.kitOne K t (.type "tuple") = some b ∧ ((b = true ∧ ∃ a xs, d = .tup xs ∧ v = .ref a ∧ H a = some (.tup xs) ∧ (∀ x ∈ xs, Kt H x) ∧ xs.length ≤ 10) ∨ (b = false ∧ ∃ u, d = .oth u)) := by
  cases d with
  | tup xs =>
    obtain ⟨t, rfl, ht, hk, hl⟩ := h
    exact ⟨_, true, .base (.tup ht), kit_ty (by decide +kernel), .inl ⟨rfl, t, xs, rfl, rfl, ht, hk, hl⟩⟩
  | oth u =>
    obtain ⟨rfl, h | ⟨t, xs, rfl, ht⟩⟩ := h
    · cases v with
      | non => exact ⟨_, false, .base .non, kit_ty (by decide +kernel), .inr ⟨rfl, _, rfl⟩⟩
      | bl b => exact ⟨_, false, .base (.bl b), kit_ty (by decide +kernel), .inr ⟨rfl, _, rfl⟩⟩
      | int i => exact ⟨_, false, .base (.int i), kit_ty (by decide +kernel), .inr ⟨rfl, _, rfl⟩⟩
      | str z => exact ⟨_, false, .base (.str z), kit_ty (by decide +kernel), .inr ⟨rfl, _, rfl⟩⟩
      | _ => cases h
    · exact ⟨_, false, .base (.lst ht), kit_ty (by decide +kernel), .inr ⟨rfl, _, rfl⟩⟩
section
variable {P : Program} {w : World} {K : PySem.W.Frag} {mg : Str → Option Value} {base : Heap}
theorem ok_joinsG {f : Addr} {fd : FuncData} (F : Fun K "_joins_two_stages" "_joins_two_stages" s_joins_two_stages f fd) (B : Blt mg) (G : DefR P w K mg base "is_between" 1 (spBtw K)) : FnOk P w K mg base (L2.CX P w) 2 f fd ["stages", "channel"] (spJoinsG K) := by
  refine F.okX sc_joins_two_stages (fun vs H Q E h => ?_) (fun cdv A outer s H vs Q E hr h => ?_)
  · obtain ⟨n, d, v, rfl, _⟩ := h
    rfl
  · obtain ⟨n, d, v, rfl, hd, k⟩ := h
    refine ⟨_, pss_cons (ps_if (PW.pt (pw_or (pt_not (pt_val (pe_callB call_isi (by rfl) B.isi bt_isi (pa_cons (pv 1) (pa_cons (pe_bltn (v := .ty "tuple") (by rfl) B.tuple bt_tuple rfl) pa_nil)))))
        (pw_or1 (pt_cmpR op_notIn_seq (pe_callB call_len_seq (by rfl) B.len bt_len (pa_cons (pv 1) pa_nil)) (pe_tup (pa_cons pe_int (pa_cons pe_int pa_nil))) (by rfl))))) (pss_one (ps_ret pe_bl)) pss_nil)
      (pss_cons (ps_set (i := 2) sc_joins_two_stages.nd rfl (Or.inl rfl) (pe_slice sl_tupA (pv 1) po_none (po_some pe_int)))
      (pss_cons (ps_if (pt_not (pt_val (pe_callB (cr_all rfl) (by rfl) B.all bt_all (pa_cons (pe_lc (own := [("end", 3)]) rfl sc_joins_two_stages.nd (pi_tup (pv 2)) (blkOk_by (N := nn_joins_two_stages) (sc := defScope s_joins_two_stages) (own := [("end", 3)]) (by decide +kernel)) (fun _ _ _ _ _ => pg_name (i := 3) sc_joins_two_stages.nd rfl (Or.inl rfl)) (fun _ _ _ _ _ => pts_nil)
          (fun _ _ _ _ _ => pe_cd G (by exact hr) passL (pa_cons (pv 3) (pa_cons pe_int (pa_cons (pe_op op_sub (pv 0) pe_int) pa_nil))))) pa_nil)))) (pss_one (ps_ret pe_bl)) pss_nil)
      (pss_one (ps_ret (pe_cmpR op_ne (pe_ix ix_tup (pv 2) pe_int (fun _ _ => rfl)) (pe_ix ix_tup (pv 2) pe_int (fun _ _ => rfl)) (nomark _)))))), ?_⟩
    obtain ⟨ty, tb, h1, h2, h3⟩ := chn_ty (K := K) hd
    refine ⟨_, rfl, _, _, _, _, tb, rfl, .ty _, h1, h2, _, rfl, ?_⟩
    rcases h3 with ⟨rfl, t, xs, rfl, rfl, ht, hk, hl⟩ | ⟨rfl, u, rfl⟩
    rotate_left
    · exact iteT (k H (Same.refl H))
    refine iteF ⟨_, rfl, t, _, rfl, .inr (SqT.of ht), by show 2 ≤ sizeLine; decide, fun p hp => ⟨p, _, rfl, .inr (SqT.of upd_same), rfl, rfl, _, rfl, ?_⟩⟩
    have sp : Same H (upd H p (.tup [.int 2, .int 3])) := Same.new hp
    by_cases hlen : xs.length = 2 ∨ xs.length = 3
    rotate_left
    · have q1 : joinsB n (.tup xs) = false := by
        match xs, hlen with
        | [], _ => rfl
        | [_], _ => rfl
        | _ :: _ :: rest, hlen =>
          simp only [List.length_cons] at hlen
          have : ¬ rest.length ≤ 1 := by omega
          simp [joinsB, this]
      have e2 : ((2 : Int) == (xs.length : Int)) = false := by rw [beq_eq_false_iff_ne]; omega
      have e3 : ((3 : Int) == (xs.length : Int)) = false := by rw [beq_eq_false_iff_ne]; omega
      have q2 : inV (V.int (xs.length : Nat)) [V.int 2, V.int 3] = false := by
        show ((2 : Int) == (xs.length : Int) || ((3 : Int) == (xs.length : Int) || false)) = false
        rw [e2, e3]
        rfl
      rw [q1] at k
      rw [q2]
      exact iteT (k _ sp)
    obtain ⟨a, b, rest, rfl, hrest⟩ : ∃ a b rest, xs = a :: b :: rest ∧ rest.length ≤ 1 := by
      match xs, hlen with
      | a :: b :: rest, hlen =>
        simp only [List.length_cons] at hlen
        exact ⟨a, b, rest, rfl, by omega⟩
      | [], hlen => simp at hlen
      | [_], hlen => simp at hlen
    have q2 : inV (V.int ((a :: b :: rest).length : Nat)) [V.int 2, V.int 3] = true := by
      rcases hlen with e | e <;> rw [e] <;> rfl
    rw [q2]
    refine iteF ?_
    have ka := hk a List.mem_cons_self
    have kb := hk b (List.mem_cons_of_mem _ List.mem_cons_self)
    dsimp only [tNext]
    refine seq_mid (fun σ H2 => ∃ e, σ = [some (.int n), some (.ref t), some (.ref e), none] ∧ Same H H2 ∧ H2 e = some (.tup [a, b])) (fun N hN => ?_) ?_
    · refine ⟨_, rfl, _, rfl, t, _, rfl, SqT.of (sp _ _ ht), fun hw => ?_, fun hw q hq => ?_⟩
      · refine hN _ _ ⟨t, rfl, sp, ?_⟩
        match rest, hrest with
        | [], _ => exact sp _ _ ht
        | [c], _ =>
          have z2 := hw.2
          simp [HT.sIx] at z2
      · have ec : cutV (a :: b :: rest) none (some 2) = [a, b] := by
          match rest, hrest with
          | [], _ => rfl
          | [c], _ => rfl
        rw [ec]
        exact hN _ _ ⟨q, rfl, sp.trans (Same.new hq), upd_same⟩
    rintro σ H2 ⟨e, rfl, s2, he⟩
    refine ⟨_, rfl, e, rfl, ⟨_, SqT.of he⟩, fun D hD => lc_tup (K := K) (a := e) (xs := [a, b]) (fun i H3 => Same H2 H3 ∧ H3 D = some (.lst ((([a, b].take i).map fun u => btw u 0 (n - 1)).map V.bl))) ⟨Same.new hD, upd_same⟩ (fun i H3 _ z => SqT.of (z.1 _ _ he)) ?_ ?_⟩
    · rintro i x H3 hx ⟨s3, hd⟩
      have il : i < 2 := (List.getElem?_eq_some_iff.mp hx).1
      have kx : Kt H x := by
        have m := List.mem_of_getElem? hx
        simp only [List.mem_cons, List.not_mem_nil, or_false] at m
        rcases m with z | z <;> rw [z] <;> assumption
      refine ⟨rfl, yes ⟨_, rfl, _, rfl, _, _, rfl, rfl, _, _, _, rfl, (kx.same (s2.trans s3)).known, _, hd, ?_, Same.newer s3 hD, ?_⟩⟩
      · rw [List.length_map, List.length_map, List.length_take]
        exact line_lt (by omega)
      · rw [upd_same, take_snoc hx, List.map_append, List.map_append]
        rfl
    rintro H3 ⟨s3, hd⟩
    have hd : H3 D = some (.lst ([btw a 0 (n - 1), btw b 0 (n - 1)].map V.bl)) := hd
    have fin : ∀ r, joinsB n (.tup (a :: b :: rest)) = r → Q (.bl r) H3 := fun r er => by
      rw [← er]
      exact k H3 (s2.trans s3)
    refine ⟨D, _, rfl, SqL.of hd, _, rfl, ?_⟩
    cases ea : btw a 0 (n - 1) with
    | false => exact iteT (fin false (by simp [joinsB, ea]))
    | true =>
      cases eb : btw b 0 (n - 1) with
      | false => exact iteT (fin false (by simp [joinsB, eb]))
      | true =>
        cases a with
        | int i =>
          cases b with
          | int j =>
            refine iteF ⟨_, rfl, e, _, _, _, rfl, rfl, SqT.of (s3 _ _ he), atI_nat (j := 0) rfl, _, rfl, e, _, _, _, rfl, rfl, SqT.of (s3 _ _ he), atI_nat (j := 1) rfl, rfl, ?_⟩
            exact fin _ (by simp [joinsB, ea, eb, hrest])
          | _ => cases eb
        | _ => cases ea
end
end WC

set_option maxHeartbeats 8000000
namespace WC
open PySem PySem.Spec PyProof.Rows L2
theorem len_succ {α : Type} {l : List α} {n : Nat} (h : l.length = n + 1) : ∃ a t, l = a :: t ∧ t.length = n := by
  cases l with
  | nil => simp at h
  | cons a t => exact ⟨a, t, rfl, by simpa using h⟩
theorem len_ne {A B : Prop} {n : Nat} {k : Int} (h : (n : Int) ≠ k) (b : B) : if decide (V.int n = V.int k) = true then A else B := by
  rw [decide_eq_false (fun z => h (V.int.inj z))]
  exact iteF b
theorem len_eq {A B : Prop} {n : Nat} {k : Int} (h : (n : Int) = k) (a : A) : if decide (V.int n = V.int k) = true then A else B := by
  rw [decide_eq_true (congrArg V.int h)]
  exact iteT a

def ErrI (E : XK) (CI : Addr) (H : Hp) (reason : Str) (p : V) : Prop := ErrX E CI H [("position", p), ("reason", .str reason)]
theorem slA_use {K : PySem.W.Frag} {H : Hp} {t : Addr} {a b : V} {rest : List V} {Q : VK} (ht : H t = some (.tup (a :: b :: rest))) (hr : rest.length ≤ 1) (k : ∀ q H2, Same H H2 → H2 q = some (.tup [a, b]) → Q (.ref q) H2) : rSlA K (.ref t) none (some 2) H Q := by
  refine ⟨t, _, rfl, SqT.of ht, fun hw => ?_, fun hw p hp => ?_⟩
  · match rest, hr with
    | [], _ => exact k t H (Same.refl H) ht
    | [c], _ =>
      have z2 := hw.2
      simp [HT.sIx] at z2
  · have ec : cutV (a :: b :: rest) none (some 2) = [a, b] := by
      match rest, hr with
      | [], _ => rfl
      | [c], _ => rfl
    rw [ec]
    exact k p _ (Same.new hp) upd_same
def spCheckX (CI : Addr) : Sp := fun vs H Q E => ∃ (n : Nat) (t : Addr) (ds : List Chn) (ws : List V), vs = [.int n, .ref t] ∧ H t = some (.tup ws) ∧ Paired (ChA H) ds ws ∧ ds.length ≤ 1000 ∧ (∀ m w, FirstF n ds m w → ErrI E CI H w (.int (m : Nat))) ∧ (AllOk n ds → ∀ H2, Same H H2 → Q .non H2)
section
variable {P : Program} {w : World} {K : PySem.W.Frag} {mg : Str → Option Value} {base : Heap}
theorem ok_with_G {f : Addr} {fd : FuncData} (F : Fun K "_with_capacity" "_with_capacity" s_with_capacity f fd) (B : Blt mg) : FnOk P w K mg base (L2.CX P w) 1 f fd ["channel", "capacity"] spWithG := by
  refine F.okX sc_with_capacity (fun vs H Q E h => ?_) (fun cdv A outer s H vs Q E hr h => ?_)
  · obtain ⟨v, e, n, d, rfl, _⟩ := h
    rfl
  · obtain ⟨v, e, n, d, rfl, hd, hg, k⟩ := h
    obtain ⟨a, b, rest, rfl, hrest, _⟩ := joins_view hg.1
    obtain ⟨t, rfl, ht, hk, hl⟩ := hd
    have h2 := hg.2
    refine ⟨_, pss_cons (ps_set (i := 2) sc_with_capacity.nd rfl (Or.inl rfl) (pe_ifExp (pt_cmpR op_eq (pe_callB call_len_seq (by rfl) B.len bt_len (pa_cons (pv 0) pa_nil)) pe_int (nomark _)) (pe_ix ix_tup (pv 0) pe_int (fun _ _ => rfl)) (pv 1)))
      (pss_one (ps_ret (pe_tup (pa_cons (pe_ix ix_tup (pv 0) pe_int (fun _ _ => rfl)) (pa_cons (pe_ix ix_tup (pv 0) pe_int (fun _ _ => rfl)) (pa_cons (pv 2) pa_nil)))))), ?_⟩
    refine ⟨_, rfl, t, _, rfl, .inr (SqT.of ht), rfl, _, rfl, ?_⟩
    match rest, hrest, ht, h2, k with
    | [], _, ht, _, k =>
      refine len_ne (show ((2 : Nat) : Int) ≠ 3 by decide) ⟨_, rfl, ?_⟩
      exact ⟨_, rfl, t, _, _, _, rfl, rfl, SqT.of ht, atI_nat (j := 0) rfl, _, rfl, t, _, _, _, rfl, rfl, SqT.of ht, atI_nat (j := 1) rfl, _, rfl, by show 3 ≤ sizeLine; decide, fun p hp => k p hp⟩
    | [c], _, ht, h2, k =>
      cases c with
      | int c =>
        refine len_eq (show ((3 : Nat) : Int) = 3 by decide) ⟨_, rfl, t, _, _, _, rfl, rfl, SqT.of ht, atI_nat (j := 2) rfl, ?_⟩
        exact ⟨_, rfl, t, _, _, _, rfl, rfl, SqT.of ht, atI_nat (j := 0) rfl, _, rfl, t, _, _, _, rfl, rfl, SqT.of ht, atI_nat (j := 1) rfl, _, rfl, by show 3 ≤ sizeLine; decide, fun p hp => k p hp⟩
      | _ => cases h2
theorem ok_check_X {f N CI : Addr} {fd : FuncData} (F : Fun K "_check_channels" "_check_channels" s_check_channels f fd) (B : Blt mg) (Z : NetK K mg N) (G1 : DefR P w K mg base "_joins_two_stages" 2 (spJoinsG K)) (G2 : StaR P w K mg base N "is_capacity" 2 (spCap K))
    (T : ExcR P w K mg base "InvalidNet" CI 1 2 flI) : FnOk P w K mg base (L2N.CX P w) 3 f fd ["stages", "channels"] (spCheckX CI) := by
  refine okN F sc_check_channels (fun vs H Q E h => ?_) (fun cdv A outer s H vs Q E hr h => ?_)
  · obtain ⟨n, t, ds, ws, rfl, _⟩ := h
    rfl
  · obtain ⟨n, t, cs, ws, rfl, ht, hp, hlen, kE, kQ⟩ := h
    have hu := hu_of hr
    refine ⟨_, pss_cons (ps_set (i := 2) sc_check_channels.nd rfl (Or.inl rfl) pe_dnewT)
      (pss_one (ps_for (passes_of rfl) rfl (pi_et B.enum (pa_cons (pv 1) pa_nil)) (pg_tup rfl (pgs_cons (pg_name (i := 3) sc_check_channels.nd rfl (Or.inl rfl)) (pgs_cons (pg_name (i := 4) sc_check_channels.nd rfl (Or.inl rfl)) pgs_nil)))
        (pss_cons (ps_if (pt_not (pt_val (pe_cd G1 hr passL (pa_cons (pv 0) (pa_cons (pv 4) pa_nil))))) (pss_one (L2N.ps_raise rfl (L2N.takes_of rfl rfl rfl rfl) (pmk_xN T hr (pa_cons pe_str (pa_cons (pv 3) pa_nil))))) pss_nil)
        (pss_cons (ps_if (PW.pt (pw_and (pt_cmpR op_eq (pe_callB call_len_seq (by rfl) B.len bt_len (pa_cons (pv 4) pa_nil)) pe_int (nomark _)) (pw_and1 (pt_not (pt_val (pe_sta G2 (pe_glob (v := .ref N) (by rfl) Z.gN rfl) hr passL (pa_cons (pe_ix ix_tup (pv 4) pe_int (fun _ _ => rfl)) pa_nil))))))) (pss_one (L2N.ps_raise rfl (L2N.takes_of rfl rfl rfl rfl) (pmk_xN T hr (pa_cons pe_str (pa_cons (pv 3) pa_nil))))) pss_nil)
        (pss_cons (ps_if (pt_cmp (pc_din hu (pe_slice sl_tupA (pv 4) po_none (po_some pe_int)) (pv 2))) (pss_one (L2N.ps_raise rfl (L2N.takes_of rfl rfl rfl rfl) (pmk_xN T hr (pa_cons pe_str (pa_cons (pv 3) pa_nil))))) pss_nil)
        (pss_one (ps_dput hu (pv 2) (pe_slice sl_tupA (pv 4) po_none (po_some pe_int)) pe_bl rfl))))))), ?_⟩
    intro d hd
    refine ⟨_, rfl, t, ws, rfl, SqT.of (by rw [upd_ne (ne_of_none ht hd)]; exact ht), for_it (walk_et (xs := ws)) (fun i σ H2 => (∀ j d, j < i → cs[j]? = some d → wordAt n (cs.take j) d = none) ∧ ∃ v3 v4, σ = [some (.int n), some (.ref t), some (.ref d), v3, v4] ∧ Same H H2 ∧ ∃ kvs : List (List Key × V), H2 d = some (.dT kvs) ∧ kvs.length ≤ i ∧ ∀ a b, (valV kvs [Sum.inl a, Sum.inl b]).isSome = true ↔ (a, b) ∈ (cs.take i).map pairC)
      ⟨fun j _ hj _ => absurd hj (Nat.not_lt_zero j), _, _, rfl, Same.new hd, [], upd_same, by simp, fun a b => by simp [valV]⟩ ?_ ?_ ?_⟩
    · rintro i σ H2 _ ⟨_, _, _, _, s2, _⟩
      exact SqT.of (s2 _ _ ht)
    · rintro i x σ H2 H3 hi ⟨pre, v3, v4, rfl, s2, kvs, k1, k2, k3⟩ ⟨T1, x1, y1, rfl, hT, rfl, e1, e2⟩
      cases e1
      obtain ⟨c, hc, hcA⟩ := pr_at hp e2
      have ilt := (List.getElem?_eq_some_iff.mp hc).1
      have s3 : Same H2 (upd H2 T1 (.tup [.int (i : Nat), y1])) := Same.new hT
      refine ⟨T1, _, rfl, SqT.of upd_same, rfl, _, _, rfl, _, _, rfl, rfl, _, rfl, _, rfl, n, c, y1, rfl, hcA.same (s2.trans s3), fun H4 s4 => ⟨_, rfl, ?_⟩⟩
      have s04 : Same H H4 := s2.trans (s3.trans s4)
      have hcA4 := hcA.same s04
      cases hj : joinsB n c with
      | false =>
        have ff : FirstF n cs i "channel" := ⟨⟨c, hc, by unfold wordAt; rw [if_pos hj]⟩, pre⟩
        exact iteT ⟨_, rfl, x_use rfl (by decide) (ErrX.new (ErrX.on (kE i _ ff) s04))⟩
      | true =>
      obtain ⟨a, b, rest, rfl, hrest, _⟩ := joins_view hj
      obtain ⟨t1, rfl, ht4, hk4, _⟩ := hcA4
      have nj : ¬ joinsB n (.tup (.int a :: .int b :: rest)) = false := by rw [hj]; intro z; cases z
      refine iteF ?_
      dsimp only [tNext]
      refine seq_mid (fun σ H5 => σ = [some (.int n), some (.ref t), some (.ref d), some (.int (i : Nat)), some (.ref t1)] ∧ H5 = H4 ∧ capB (.tup (.int a :: .int b :: rest)) = true) (fun N hN => ?_) ?_
      · refine ⟨_, rfl, t1, _, rfl, .inr (SqT.of ht4), rfl, _, rfl, ?_⟩
        match rest, hrest, ht4, hk4, hc, nj with
        | [], _, ht4, _, _, _ => exact len_ne (show ((2 : Nat) : Int) ≠ 3 by decide) (hN _ _ ⟨rfl, rfl, rfl⟩)
        | [c2], _, ht4, hk4, hc, nj =>
          refine len_eq (show ((3 : Nat) : Int) = 3 by decide) ⟨rfl, _, rfl, t1, _, _, _, rfl, rfl, SqT.of ht4, atI_nat (j := 2) rfl, _, rfl, (hk4 c2 (by simp)).known, _, rfl, ?_⟩
          cases hcap : btw c2 1 999 with
          | true => exact iteF (hN _ _ ⟨rfl, rfl, hcap⟩)
          | false =>
            have ff : FirstF n cs i "capacity" := ⟨⟨_, hc, by unfold wordAt; rw [if_neg nj, if_pos (show capB (.tup [.int a, .int b, c2]) = false from hcap)]⟩, pre⟩
            exact iteT ⟨_, rfl, x_use rfl (by decide) (ErrX.new (ErrX.on (kE i _ ff) s04))⟩
      rintro σ H5 ⟨rfl, rfl, hcap⟩
      have nc : ¬ capB (.tup (.int a :: .int b :: rest)) = false := by rw [hcap]; intro z; cases z
      have kd := s4 _ _ (s3 _ _ k1)
      refine ⟨_, rfl, _, rfl, slA_use ht4 hrest fun q H6 s6 hq => ?_⟩
      refine ⟨_, rfl, d, _, rfl, DGet.t (k := [Sum.inl a, Sum.inl b]) (s6 _ _ kd) hq, _, rfl, ?_⟩
      have h3 := k3 a b
      cases hv : valV kvs [Sum.inl a, Sum.inl b] with
      | some v =>
        rw [hv] at h3
        have m : (a, b) ∈ (cs.take i).map pairC := h3.mp rfl
        have ff : FirstF n cs i "duplicate" := ⟨⟨_, hc, by unfold wordAt; rw [if_neg nj, if_neg nc]; exact if_pos m⟩, pre⟩
        exact iteT ⟨_, rfl, x_use rfl (by decide) (ErrX.new (ErrX.on (kE i _ ff) (s04.trans s6)))⟩
      | none =>
        rw [hv] at h3
        have m : (a, b) ∉ (cs.take i).map pairC := fun z => by have := h3.mpr z; cases this
        have wn : wordAt n (cs.take i) (.tup (.int a :: .int b :: rest)) = none := by
          unfold wordAt
          rw [if_neg nj, if_neg nc]
          exact if_neg m
        refine iteF ⟨_, rfl, _, rfl, _, rfl, slA_use (s6 _ _ ht4) hrest fun q2 H7 s7 hq2 => ?_⟩
        refine ⟨d, _, rfl, DPut.t (k := [Sum.inl a, Sum.inl b]) (s7 _ _ (s6 _ _ kd)) hq2 (line_lt (by omega)), fun j dd hj hdd => ?_, _, _, rfl, ?_, _, upd_same, ?_, fun a' b' => ?_⟩
        · rcases Nat.lt_or_ge j i with z | z
          · exact pre j dd z hdd
          · have ej : j = i := by omega
            subst ej
            rw [hc] at hdd
            cases hdd
            exact wn
        · exact Same.newer (s2.trans (s3.trans (s4.trans (s6.trans s7)))) hd
        · exact Nat.le_trans (pk_len _ _ _) (by omega)
        · rw [valV_put, take_snoc hc, List.map_append]
          by_cases e : ([Sum.inl a', Sum.inl b'] : List Key) = [Sum.inl a, Sum.inl b]
          · have e2 : a' = a ∧ b' = b := by simpa using e
            rw [if_pos e, e2.1, e2.2]
            exact ⟨fun _ => List.mem_append_right _ (by simp [pairC]), fun _ => rfl⟩
          · rw [if_neg e, k3 a' b', List.mem_append]
            refine ⟨.inl, fun h => h.elim id fun h => ?_⟩
            have h : (a', b') ∈ [(a, b)] := h
            have e3 := List.mem_singleton.mp h
            injection e3 with e4 e5
            exact absurd (by rw [e4, e5]) e
    · rintro σ H2 ⟨pre, _, _, rfl, s2, _⟩
      refine kQ (fun j dd hj => pre j dd ?_ hj) H2 s2
      have z := (List.getElem?_eq_some_iff.mp hj).1
      rw [← hp.length]
      exact z
end
end WC

set_option maxHeartbeats 8000000
namespace WC
open PySem PySem.Spec PyProof.Rows L2
def spMake (C : Addr) (x : Addr) (n : Nat) (cs : List Tri) (H : Hp) (Q : VK) : Prop := ∀ H2 cs2, cs2.Perm cs → cs2.Pairwise (fun a b => key a ≤ key b) → (∀ b o, H b = some o → b ≠ x → H2 b = some o) → NetAt H2 x C n cs2 → Q .non H2

theorem Known.same {K : PySem.W.Frag} {H H2 : Hp} {v : V} (k : Known K H v) (s : Same H H2) : Known K H2 v := by
  cases v with
  | ref a => exact k.imp (fun ⟨xs, e⟩ => ⟨xs, s _ _ e⟩) (fun ⟨xs, e⟩ => ⟨xs, s _ _ e⟩)
  | int i => trivial
  | bl b => trivial
  | non => trivial
  | str z => trivial
  | byt b => exact k
  | flt b => exact k
  | ty n => exact k
/-- what is wanted of the making -/
def PipeQ (C CI x : Addr) (cnt extra : V) (ds : List Chn) (H : Hp) (Q : VK) (E : XK) : Prop := (∀ w p, DueP cnt ds extra (some (w, p)) → ErrI E CI H w p) ∧ ∀ (n : Nat) (e : Int), cnt = .int n → extra = .int e → DueP cnt ds extra none → spMake C x n (ds.map (triC e)) H Q
theorem PipeQ.new {C CI x : Addr} {cnt extra : V} {ds : List Chn} {H H2 : Hp} {Q : VK} {E : XK} (h : PipeQ C CI x cnt extra ds H Q E) (s : Same H H2) : PipeQ C CI x cnt extra ds H2 Q E :=
  ⟨fun w p d => ErrX.on (h.1 w p d) s, fun n e h1 h2 d => fun H3 cs2 a b c N => h.2 n e h1 h2 d H3 cs2 a b (fun b2 o e2 ne => c b2 o (s _ _ e2) ne) N⟩
def spPipeXB (K : PySem.W.Frag) (C CI : Addr) : Sp := fun vs H Q E => ∃ (x dx t : Addr) (cnt extra : V) (ds : List Chn) (ws : List V), vs = [.ref x, cnt, extra, .ref t] ∧ H x = some (.ins C dx []) ∧ Known K H cnt ∧ Known K H extra ∧ H t = some (.tup ws) ∧ Paired (ChA H) ds ws ∧ ds.length ≤ 130 ∧ PipeQ C CI x cnt extra ds H Q E
def spPipeK (K : PySem.W.Frag) (C CI : Addr) : SpK := fun y vs H Q E => ∃ (x dx : Addr) (cnt : V) (ds : List Chn) (ws : List V), vs = .ref x :: cnt :: ws ∧ H x = some (.ins C dx []) ∧ Known K H cnt ∧ Known K H y ∧ Paired (ChA H) ds ws ∧ ds.length ≤ 130 ∧ PipeQ C CI x cnt y ds H Q E
def spPipeX (K : PySem.W.Frag) (C CI : Addr) : Sp := spPipeK K C CI (.int 1)
section
variable {P : Program} {w : World} {K : PySem.W.Frag} {mg : Str → Option Value} {base : Heap}
theorem ok_Pipeline_X {f cc C N CI g : Addr} {Dk : Addr} {u : Value} (F : SFun P K "__init__" "Pipeline.__init__" s_Pipeline_init f cc C (.ref Dk)) (hD : PySem.W.nsIn K Dk "capacity" = some (some u)) (hu1 : RelV (.int 1) u) (B : Blt mg) (Z : NetK K mg N)
    (G0 : DefR P w K mg base "is_between" 1 (spBtw K)) (G1 : DefN P w K mg base "_check_channels" 3 (spCheckX CI)) (G2 : StaR P w K mg base N "is_capacity" 2 (spCap K)) (G3 : DefR P w K mg base "_with_capacity" 1 spWithG) (G4 : DefR P w K mg base "has_circle" 1 spCircle)
    (T : ExcR P w K mg base "InvalidNet" CI 1 2 flI) (SP : SupTxt P K mg C C g "__init__") (G5 : FnR P w K mg base (L2.CX P w) 2 g (spNetInit C)) : FnR P w K mg base (L2N.CX P w) 4 f (spPipeX K C CI) := by
  refine FnR.imp (F.starN (k := 3) (ps := ["self", "stages"]) (ks := ["capacity"]) (pv := "channels") (kv := [u]) (kvV := [.int 1]) (sp := spPipeXB K C CI) sc_Pipeline_init (.cons hu1 .nil) rfl (fun doc pm an cdv ct => BindStar.of_kw hD fun u1 u2 hl => ?_) ⟨_, rfl, rfl⟩ rfl rfl (fun cdv A outer s H vs Q E hr SZ h => ?_)) (fun vs H Q E h => ?_)
  · match u1, u2, hl with
    | [a, b], [], _ => exact ⟨_, _, _, _, _, _, rfl, rfl, rfl⟩
    | [a, b], r :: rs, _ => exact ⟨_, _, _, _, _, _, rfl, rfl, rfl⟩
  · obtain ⟨x, dx, t, cnt, extra, ds, ws, rfl, hx, hkc, hke, ht, hp, hlen, kE, kQ⟩ := h
    obtain ⟨mc, cr, ⟨u1, c1⟩, ⟨u2, c2⟩, _, _⟩ := Z.cr
    refine ⟨_, px_cons (ps_if (pt_not (pt_val (pe_cd G0 hr passL (pa_cons (pv 1) (pa_cons pe_int (pa_cons (ClX.pe_cval (pe_glob (v := .ref N) (by rfl) Z.gN rfl)) pa_nil)))))) (pss_one (L2N.ps_raise rfl (L2N.takes_of rfl rfl rfl rfl) (pmk_xN T hr (pa_cons pe_str (pa_cons pe_non pa_nil))))) pss_nil)
      (px_cons (ps_if (pt_cmpR op_gt (pe_callB call_len_seq (by rfl) B.len bt_len (pa_cons (pv 3) pa_nil)) (ClX.pe_cval (pe_glob (v := .ref N) (by rfl) Z.gN rfl)) (nomark _)) (pss_one (L2N.ps_raise rfl (L2N.takes_of rfl rfl rfl rfl) (pmk_xN T hr (pa_cons pe_str (pa_cons pe_non pa_nil))))) pss_nil)
      (px_cons (ps_expr (pe_cdn G1 hr psSn (pa_cons (pv 1) (pa_cons (pv 3) pa_nil))))
      (px_cons (ps_if (pt_not (pt_val (pe_sta G2 (pe_glob (v := .ref N) (by rfl) Z.gN rfl) hr passL (pa_cons (pv 2) pa_nil)))) (pss_one (L2N.ps_raise rfl (L2N.takes_of rfl rfl rfl rfl) (pmk_xN T hr (pa_cons pe_str (pa_cons pe_non pa_nil))))) pss_nil)
      (px_cons (ps_setLc (i := 4) (own := [("channel", 5)]) rfl sc_Pipeline_init.nod rfl rfl (sw_true rfl rfl rfl (by decide +kernel)) (pi_tup (pv 3)) (blkOk_by (N := nn_Pipeline_init) (sc := defScope s_Pipeline_init) (own := [("channel", 5)]) (by decide +kernel))
            (fun _ _ _ _ _ => pg_name (i := 5) sc_Pipeline_init.nod rfl (Or.inl rfl)) (fun _ _ _ _ _ => pts_nil) (fun _ _ _ _ _ => pe_cd G3 (by exact hr) passL (pa_cons (pv 5) (pa_cons (pv 2) pa_nil))))
      (px_cons (ps_if (pt_val (pe_cd G4 hr passL (pa_cons (pv 4) pa_nil))) (pss_one (L2N.ps_raise rfl (L2N.takes_of rfl rfl rfl rfl) (pmk_xN T hr (pa_cons pe_str (pa_cons pe_non pa_nil))))) pss_nil)
      (px_sup (i := 0) SP SZ G5 (hr.mono (by decide)) passL rfl (pa_cons (pv 1) (pa_cons (pv 4) pa_nil)) (px_of pss_nil))))))), ?_⟩
    refine ⟨_, rfl, N, mc, _, u1, rfl, cr, c1, _, _, _, rfl, hkc, _, rfl, ?_⟩
    cases hc : btw cnt 1 40 with
    | false => exact iteT (x_use rfl (by decide) (ErrX.new (kE _ _ (.inl ⟨hc, rfl⟩))))
    | true =>
    obtain ⟨n, rfl, n1, n40⟩ : ∃ n : Nat, cnt = .int n ∧ 1 ≤ n ∧ n ≤ 40 := by
      cases cnt with
      | int i =>
        simp only [btw, Bool.and_eq_true, decide_eq_true_eq] at hc
        exact ⟨i.toNat, by rw [Int.toNat_of_nonneg (by omega)], by omega, by omega⟩
      | _ => cases hc
    have hwl : ws.length = ds.length := hp.length.symm
    refine iteF ⟨_, rfl, t, _, rfl, .inr (SqT.of ht), N, mc, _, u2, rfl, cr, c2, _, _, rfl, rfl, _, rfl, ?_⟩
    by_cases h120 : 120 < ds.length
    · rw [decide_eq_true (show (120 : Int) < (ws.length : Int) by omega)]
      exact iteT (x_use rfl (by decide) (ErrX.new (kE _ _ (.inr ⟨n, rfl, n1, n40, .inl ⟨h120, rfl⟩⟩))))
    rw [decide_eq_false (show ¬ (120 : Int) < (ws.length : Int) by omega)]
    refine iteF ⟨_, rfl, _, rfl, n, t, ds, ws, rfl, ht, hp, by omega, fun m w ff => kE _ _ (.inr ⟨n, rfl, n1, n40, .inr ⟨by omega, .inl ⟨m, w, ff, rfl⟩⟩⟩), fun hok H2 s2 => ?_⟩
    refine ⟨rfl, _, rfl, _, rfl, hke.same s2, _, rfl, ?_⟩
    cases he : btw extra 1 999 with
    | false => exact iteT (x_use rfl (by decide) (ErrX.new (ErrX.on (kE _ _ (.inr ⟨n, rfl, n1, n40, .inr ⟨by omega, .inr ⟨hok, .inl ⟨he, rfl⟩⟩⟩⟩)) s2)))
    | true =>
    obtain ⟨e, rfl, e1, e2⟩ : ∃ e : Int, extra = .int e ∧ 1 ≤ e ∧ e ≤ 999 := by
      cases extra with
      | int i =>
        simp only [btw, Bool.and_eq_true, decide_eq_true_eq] at he
        exact ⟨i, rfl, he.1, he.2⟩
      | _ => cases he
    have hgood : ∀ d ∈ ds, GoodC n d := fun d hd => by
      obtain ⟨j, hj⟩ := List.mem_iff_getElem?.mp hd
      exact (word_none (hok j d hj)).1
    refine iteF ⟨_, rfl, t, rfl, ⟨_, SqT.of (s2 _ _ ht)⟩, fun D hD2 => ?_⟩
    refine lc_tup (K := K) (a := t) (xs := ws) (fun i H3 => Same H2 H3 ∧ ∃ ks, H3 D = some (.lst ks) ∧ Paired (TriA H3) ((ds.map (triC e)).take i) ks) ⟨Same.new hD2, [], upd_same, .nil⟩ (fun i H3 _ q => SqT.of (q.1 _ _ (s2 _ _ ht))) ?_ ?_
    · rintro i y H3 hy ⟨s3, ks, k1, k2⟩
      obtain ⟨c, hcc, hcA⟩ := pr_at hp hy
      have hi := (List.getElem?_eq_some_iff.mp hcc).1
      refine ⟨rfl, yes ⟨_, rfl, _, rfl, y, e, n, c, rfl, hcA.same (s2.trans s3), hgood c (List.mem_of_getElem? hcc), fun p hp3 => ⟨ks, by rw [upd_ne (ne_of_none k1 hp3)]; exact k1, ?_, ?_, ks ++ [.ref p], upd_same, ?_⟩⟩⟩
      · rw [← k2.length, List.length_take, List.length_map]
        exact line_lt (by omega)
      · exact Same.newer (Same.newer s3 (Same.free s3 hp3)) hD2
      · have pD : p ≠ D := (ne_of_none k1 hp3).symm
        rw [take_snoc (show (ds.map (triC e))[i]? = some (triC e c) by rw [List.getElem?_map, hcc]; rfl)]
        refine pr_snoc (Paired.mapP k2 fun c2 v2 ⟨t2, e1, e2⟩ => ⟨t2, e1, ?_⟩) ⟨p, rfl, by rw [upd_ne pD, upd_same]⟩
        rw [upd_ne (ne_of e2 k1 (by intro z; cases z)), upd_ne (ne_of_none e2 hp3)]
        exact e2
    · rintro H3 ⟨s3, ks, k1, k2⟩
      have el : ws.length = (ds.map (triC e)).length := by rw [List.length_map, hwl]
      rw [el, List.take_length] at k2
      have okc : ∀ c ∈ ds.map (triC e), ChOk n c := fun c hc => by
        obtain ⟨d, hd, rfl⟩ := List.mem_map.mp hc
        exact (good_tri (hgood d hd) ⟨e1, e2⟩).1
      refine ⟨_, rfl, D, ds.map (triC e), ks, rfl, k1, k2, by rw [List.length_map]; omega, fun na H4 s4 => ⟨_, rfl, iteT ?_⟩, fun ac H4 s4 => ⟨_, rfl, iteF ?_⟩⟩
      · have s24 : Same H H4 := s2.trans (s3.trans s4)
        exact x_use rfl (by decide) (ErrX.new (ErrX.on (kE _ _ (.inr ⟨n, rfl, n1, n40, .inr ⟨by omega, .inr ⟨hok, .inr ⟨e, rfl, ⟨e1, e2⟩, .inl ⟨na, rfl⟩⟩⟩⟩⟩)) s24))
      · have s24 : Same H H4 := s2.trans (s3.trans s4)
        have k := kQ n e rfl rfl (.inr ⟨n, rfl, n1, n40, .inr ⟨by omega, .inr ⟨hok, .inr ⟨e, rfl, ⟨e1, e2⟩, .inr ⟨ac, rfl⟩⟩⟩⟩⟩)
        exact ⟨x, dx, _, rfl, s24 _ _ hx, _, rfl, _, rfl, x, dx, D, n, ds.map (triC e), ks, rfl, s24 _ _ hx, n40, by rw [List.length_map]; exact hlen, s4 _ _ k1, tris_same s4 k2, okc, fun H5 cs2 a b c d => k H5 cs2 a b (fun b2 o e ne => c b2 o (s24 _ _ e) ne) d⟩
  · obtain ⟨x, dx, cnt, ds, ws, rfl, hx, kc, ke, hp, hlen, k⟩ := h
    exact ⟨[.ref x, cnt], ws, rfl, rfl, by rw [← hp.length]; exact line_of (by omega), fun p hp2 => ⟨x, dx, p, cnt, .int 1, ds, ws, rfl, Same.new hp2 _ _ hx, kc.same (Same.new hp2), trivial, upd_same, chs_same (Same.new hp2) hp, hlen, k.new (Same.new hp2)⟩⟩
theorem ok_Pipeline_K {f cc C N CI g : Addr} {Dk : Addr} (F : SFun P K "__init__" "Pipeline.__init__" s_Pipeline_init f cc C (.ref Dk)) (B : Blt mg) (Z : NetK K mg N)
    (G0 : DefR P w K mg base "is_between" 1 (spBtw K)) (G1 : DefN P w K mg base "_check_channels" 3 (spCheckX CI)) (G2 : StaR P w K mg base N "is_capacity" 2 (spCap K)) (G3 : DefR P w K mg base "_with_capacity" 1 spWithG) (G4 : DefR P w K mg base "has_circle" 1 spCircle)
    (T : ExcR P w K mg base "InvalidNet" CI 1 2 flI) (SP : SupTxt P K mg C C g "__init__") (G5 : FnR P w K mg base (L2.CX P w) 2 g (spNetInit C)) : FnK P w K mg base (L2N.CX P w) 4 f "capacity" (spPipeK K C CI) := by
  have z := F.starNK (P := P) (w := w) (mg := mg) (base := base) (k := 3) (ps := ["self", "stages"]) (k1 := "capacity") (pv := "channels") (sp := spPipeXB K C CI) sc_Pipeline_init (fun doc pm an cdv ct => ?_) ⟨_, rfl, rfl⟩ rfl rfl (fun cdv A outer s H vs Q E hr SZ h => ?_)
  · intro A outer s H us vs y u Q E hr e0 r ry h
    refine z A outer s H us vs y u Q E hr e0 r ry ?_
    obtain ⟨x, dx, cnt, ds, ws, rfl, hx, kc, ke, hp, hlen, k⟩ := h
    exact ⟨[.ref x, cnt], ws, rfl, rfl, by rw [← hp.length]; exact line_of (by omega), fun p hp2 => ⟨x, dx, p, cnt, y, ds, ws, rfl, Same.new hp2 _ _ hx, kc.same (Same.new hp2), ke.same (Same.new hp2), upd_same, chs_same (Same.new hp2) hp, hlen, k.new (Same.new hp2)⟩⟩
  · intro u1 u2 v hl M A Q E s X z
    match u1, u2, hl with
    | [a, b], [], _ => exact z
    | [a, b], r :: rs, _ => exact z
  · obtain ⟨x, dx, t, cnt, extra, ds, ws, rfl, hx, hkc, hke, ht, hp, hlen, kE, kQ⟩ := h
    obtain ⟨mc, cr, ⟨u1, c1⟩, ⟨u2, c2⟩, _, _⟩ := Z.cr
    refine ⟨_, px_cons (ps_if (pt_not (pt_val (pe_cd G0 hr passL (pa_cons (pv 1) (pa_cons pe_int (pa_cons (ClX.pe_cval (pe_glob (v := .ref N) (by rfl) Z.gN rfl)) pa_nil)))))) (pss_one (L2N.ps_raise rfl (L2N.takes_of rfl rfl rfl rfl) (pmk_xN T hr (pa_cons pe_str (pa_cons pe_non pa_nil))))) pss_nil)
      (px_cons (ps_if (pt_cmpR op_gt (pe_callB call_len_seq (by rfl) B.len bt_len (pa_cons (pv 3) pa_nil)) (ClX.pe_cval (pe_glob (v := .ref N) (by rfl) Z.gN rfl)) (nomark _)) (pss_one (L2N.ps_raise rfl (L2N.takes_of rfl rfl rfl rfl) (pmk_xN T hr (pa_cons pe_str (pa_cons pe_non pa_nil))))) pss_nil)
      (px_cons (ps_expr (pe_cdn G1 hr psSn (pa_cons (pv 1) (pa_cons (pv 3) pa_nil))))
      (px_cons (ps_if (pt_not (pt_val (pe_sta G2 (pe_glob (v := .ref N) (by rfl) Z.gN rfl) hr passL (pa_cons (pv 2) pa_nil)))) (pss_one (L2N.ps_raise rfl (L2N.takes_of rfl rfl rfl rfl) (pmk_xN T hr (pa_cons pe_str (pa_cons pe_non pa_nil))))) pss_nil)
      (px_cons (ps_setLc (i := 4) (own := [("channel", 5)]) rfl sc_Pipeline_init.nod rfl rfl (sw_true rfl rfl rfl (by decide +kernel)) (pi_tup (pv 3)) (blkOk_by (N := nn_Pipeline_init) (sc := defScope s_Pipeline_init) (own := [("channel", 5)]) (by decide +kernel))
            (fun _ _ _ _ _ => pg_name (i := 5) sc_Pipeline_init.nod rfl (Or.inl rfl)) (fun _ _ _ _ _ => pts_nil) (fun _ _ _ _ _ => pe_cd G3 (by exact hr) passL (pa_cons (pv 5) (pa_cons (pv 2) pa_nil))))
      (px_cons (ps_if (pt_val (pe_cd G4 hr passL (pa_cons (pv 4) pa_nil))) (pss_one (L2N.ps_raise rfl (L2N.takes_of rfl rfl rfl rfl) (pmk_xN T hr (pa_cons pe_str (pa_cons pe_non pa_nil))))) pss_nil)
      (px_sup (i := 0) SP SZ G5 (hr.mono (by decide)) passL rfl (pa_cons (pv 1) (pa_cons (pv 4) pa_nil)) (px_of pss_nil))))))), ?_⟩
    refine ⟨_, rfl, N, mc, _, u1, rfl, cr, c1, _, _, _, rfl, hkc, _, rfl, ?_⟩
    cases hc : btw cnt 1 40 with
    | false => exact iteT (x_use rfl (by decide) (ErrX.new (kE _ _ (.inl ⟨hc, rfl⟩))))
    | true =>
    obtain ⟨n, rfl, n1, n40⟩ : ∃ n : Nat, cnt = .int n ∧ 1 ≤ n ∧ n ≤ 40 := by
      cases cnt with
      | int i =>
        simp only [btw, Bool.and_eq_true, decide_eq_true_eq] at hc
        exact ⟨i.toNat, by rw [Int.toNat_of_nonneg (by omega)], by omega, by omega⟩
      | _ => cases hc
    have hwl : ws.length = ds.length := hp.length.symm
    refine iteF ⟨_, rfl, t, _, rfl, .inr (SqT.of ht), N, mc, _, u2, rfl, cr, c2, _, _, rfl, rfl, _, rfl, ?_⟩
    by_cases h120 : 120 < ds.length
    · rw [decide_eq_true (show (120 : Int) < (ws.length : Int) by omega)]
      exact iteT (x_use rfl (by decide) (ErrX.new (kE _ _ (.inr ⟨n, rfl, n1, n40, .inl ⟨h120, rfl⟩⟩))))
    rw [decide_eq_false (show ¬ (120 : Int) < (ws.length : Int) by omega)]
    refine iteF ⟨_, rfl, _, rfl, n, t, ds, ws, rfl, ht, hp, by omega, fun m w ff => kE _ _ (.inr ⟨n, rfl, n1, n40, .inr ⟨by omega, .inl ⟨m, w, ff, rfl⟩⟩⟩), fun hok H2 s2 => ?_⟩
    refine ⟨rfl, _, rfl, _, rfl, hke.same s2, _, rfl, ?_⟩
    cases he : btw extra 1 999 with
    | false => exact iteT (x_use rfl (by decide) (ErrX.new (ErrX.on (kE _ _ (.inr ⟨n, rfl, n1, n40, .inr ⟨by omega, .inr ⟨hok, .inl ⟨he, rfl⟩⟩⟩⟩)) s2)))
    | true =>
    obtain ⟨e, rfl, e1, e2⟩ : ∃ e : Int, extra = .int e ∧ 1 ≤ e ∧ e ≤ 999 := by
      cases extra with
      | int i =>
        simp only [btw, Bool.and_eq_true, decide_eq_true_eq] at he
        exact ⟨i, rfl, he.1, he.2⟩
      | _ => cases he
    have hgood : ∀ d ∈ ds, GoodC n d := fun d hd => by
      obtain ⟨j, hj⟩ := List.mem_iff_getElem?.mp hd
      exact (word_none (hok j d hj)).1
    refine iteF ⟨_, rfl, t, rfl, ⟨_, SqT.of (s2 _ _ ht)⟩, fun D hD2 => ?_⟩
    refine lc_tup (K := K) (a := t) (xs := ws) (fun i H3 => Same H2 H3 ∧ ∃ ks, H3 D = some (.lst ks) ∧ Paired (TriA H3) ((ds.map (triC e)).take i) ks) ⟨Same.new hD2, [], upd_same, .nil⟩ (fun i H3 _ q => SqT.of (q.1 _ _ (s2 _ _ ht))) ?_ ?_
    · rintro i y H3 hy ⟨s3, ks, k1, k2⟩
      obtain ⟨c, hcc, hcA⟩ := pr_at hp hy
      have hi := (List.getElem?_eq_some_iff.mp hcc).1
      refine ⟨rfl, yes ⟨_, rfl, _, rfl, y, e, n, c, rfl, hcA.same (s2.trans s3), hgood c (List.mem_of_getElem? hcc), fun p hp3 => ⟨ks, by rw [upd_ne (ne_of_none k1 hp3)]; exact k1, ?_, ?_, ks ++ [.ref p], upd_same, ?_⟩⟩⟩
      · rw [← k2.length, List.length_take, List.length_map]
        exact line_lt (by omega)
      · exact Same.newer (Same.newer s3 (Same.free s3 hp3)) hD2
      · have pD : p ≠ D := (ne_of_none k1 hp3).symm
        rw [take_snoc (show (ds.map (triC e))[i]? = some (triC e c) by rw [List.getElem?_map, hcc]; rfl)]
        refine pr_snoc (Paired.mapP k2 fun c2 v2 ⟨t2, e1, e2⟩ => ⟨t2, e1, ?_⟩) ⟨p, rfl, by rw [upd_ne pD, upd_same]⟩
        rw [upd_ne (ne_of e2 k1 (by intro z; cases z)), upd_ne (ne_of_none e2 hp3)]
        exact e2
    · rintro H3 ⟨s3, ks, k1, k2⟩
      have el : ws.length = (ds.map (triC e)).length := by rw [List.length_map, hwl]
      rw [el, List.take_length] at k2
      have okc : ∀ c ∈ ds.map (triC e), ChOk n c := fun c hc => by
        obtain ⟨d, hd, rfl⟩ := List.mem_map.mp hc
        exact (good_tri (hgood d hd) ⟨e1, e2⟩).1
      refine ⟨_, rfl, D, ds.map (triC e), ks, rfl, k1, k2, by rw [List.length_map]; omega, fun na H4 s4 => ⟨_, rfl, iteT ?_⟩, fun ac H4 s4 => ⟨_, rfl, iteF ?_⟩⟩
      · have s24 : Same H H4 := s2.trans (s3.trans s4)
        exact x_use rfl (by decide) (ErrX.new (ErrX.on (kE _ _ (.inr ⟨n, rfl, n1, n40, .inr ⟨by omega, .inr ⟨hok, .inr ⟨e, rfl, ⟨e1, e2⟩, .inl ⟨na, rfl⟩⟩⟩⟩⟩)) s24))
      · have s24 : Same H H4 := s2.trans (s3.trans s4)
        have k := kQ n e rfl rfl (.inr ⟨n, rfl, n1, n40, .inr ⟨by omega, .inr ⟨hok, .inr ⟨e, rfl, ⟨e1, e2⟩, .inr ⟨ac, rfl⟩⟩⟩⟩⟩)
        exact ⟨x, dx, _, rfl, s24 _ _ hx, _, rfl, _, rfl, x, dx, D, n, ds.map (triC e), ks, rfl, s24 _ _ hx, n40, by rw [List.length_map]; exact hlen, s4 _ _ k1, tris_same s4 k2, okc, fun H5 cs2 a b c d => k H5 cs2 a b (fun b2 o e ne => c b2 o (s24 _ _ e) ne) d⟩
end
end WC

set_option maxHeartbeats 8000000
namespace WC
open PySem PySem.Spec PyProof.Rows L2
theorem op_inK {X : Cx} {K : PySem.W.Frag} (h : X.K = K := by rfl) : OpR X (compareOp .In) (rIn K false) := by
  subst h
  exact op_in_seq
/-- the word for a channel, none: the empty text -/
def wordS (o : Option Str) : Str := match o with
  | some w => w
  | none => ""
def spChF : Sp := fun vs H Q _ => ∃ (G : Addr) (n i : Nat) (ds : List Chn) (ws : List V) (d : Chn), vs = [.int n, .ref G, .int i] ∧ H G = some (.lst ws) ∧ Paired (ChA H) ds ws ∧ ds.length ≤ 1000 ∧ ds[i]? = some d ∧ (∀ j e, j < i → ds[j]? = some e → joinsB n e = true) ∧ ∀ H2, Same H H2 → Q (.str (wordS (wordAt n (ds.take i) d))) H2
def spCirc : Sp := fun vs H Q _ => ∃ (G : Addr) (n : Nat) (e : Int) (ds : List Chn) (ws : List V), vs = [.int n, .ref G] ∧ H G = some (.lst ws) ∧ Paired (ChA H) ds ws ∧ ds.length ≤ 1000 ∧ n ≤ 1000 ∧ (∀ d ∈ ds, GoodC n d) ∧ (¬ Acyc (ds.map (triC e)) → ∀ H2, Same H H2 → Q (.bl true) H2) ∧ (Acyc (ds.map (triC e)) → ∀ H2, Same H H2 → Q (.bl false) H2)
/-- the law's word for a fault -/
def OutV (H : Hp) (o : Option (Str × V)) (v : V) : Prop := match o with
  | none => v = .non
  | some (w, p) => ∃ t, v = .ref t ∧ H t = some (.tup [.str w, p])
def spLFault (K : PySem.W.Frag) : Sp := fun vs H Q _ => ∃ (G : Addr) (cnt extra : V) (ds : List Chn) (ws : List V), vs = [cnt, .ref G, extra] ∧ Known K H cnt ∧ Known K H extra ∧ H G = some (.lst ws) ∧ Paired (ChA H) ds ws ∧ ds.length ≤ 130 ∧ ∀ o v H2, Same H H2 → DueP cnt ds extra o → OutV H2 o v → Q v H2
theorem word_dup {n : Int} {before : List Chn} {d : Chn} (g : GoodC n d) : wordAt n before d = if pairC d ∈ before.map pairC then some ("duplicate" : Str) else none := by
  unfold wordAt
  rw [if_neg (by rw [g.1]; intro z; cases z), if_neg (by rw [g.2]; intro z; cases z)]
theorem decs {i j : Int} : decide (V.int i = V.int j) = decide (i = j) := by
  by_cases e : i = j
  · rw [e, decide_eq_true rfl, decide_eq_true rfl]
  · rw [decide_eq_false e, decide_eq_false (fun z => e (V.int.inj z))]
section
variable {P : Program} {w : World} {K : PySem.W.Frag} {mg : Str → Option Value} {base : Heap}
theorem ok_number {f : Addr} {fd : FuncData} (F : Fun K "_law_number" "_law_number" s_law_number f fd) (B : Blt mg) : FnOk P w K mg base (L2.CX P w) 1 f fd ["thing", "least", "most"] (spBtw K) := by
  refine F.okX sc_law_number (fun vs H Q E h => ?_) (fun cdv A outer s H vs Q E hr h => ?_)
  · obtain ⟨x, lo, hi, rfl, _⟩ := h
    rfl
  · obtain ⟨x, lo, hi, rfl, hk, k⟩ := h
    refine ⟨_, pss_one (ps_ret (pe_and (pe_callB call_isi (by rfl) B.isi (by decide +kernel) (pa_cons (pv 0) (pa_cons (pe_bltn (v := .ty "int") (by rfl) B.int (by decide +kernel) rfl) pa_nil)))
      (pe_and (pe_not (pe_callB call_isi (by rfl) B.isi (by decide +kernel) (pa_cons (pv 0) (pa_cons (pe_bltn (v := .ty "bool") (by rfl) B.bool (by decide +kernel) rfl) pa_nil))))
        (pe_one (pe_chain op_le op_le (pv 1) (pv 0) (pv 2)))))), ?_⟩
    refine ⟨_, rfl, _, _, _, _, _, rfl, .ty _, hk.ty, kit_int hk, _, rfl, ?_⟩
    cases x with
    | int i =>
      refine iteT ⟨_, rfl, _, _, _, _, _, rfl, .ty _, hk.ty, kit_bool hk, _, rfl, _, rfl, ?_⟩
      refine iteT ⟨_, rfl, _, rfl, _, _, rfl, rfl, _, rfl, ?_⟩
      refine ite2 (fun e => ⟨_, rfl, _, _, rfl, rfl, ?_⟩) (fun e => ?_)
      · have q : btw (.int i) lo hi = decide (i ≤ hi) := by unfold btw; simp [e]
        rw [q] at k
        exact k
      · have q : btw (.int i) lo hi = false := by unfold btw; simp; intro z; simp [z] at e
        rw [q] at k
        exact k
    | bl b => exact iteT ⟨_, rfl, _, _, _, _, _, rfl, .ty _, hk.ty, kit_bool hk, _, rfl, _, rfl, iteF k⟩
    | non => exact iteF k
    | str z => exact iteF k
    | ref a => exact iteF k
    | byt b => exact hk.elim
    | flt b => exact hk.elim
    | ty n => exact hk.elim
theorem ok_channel_fault {f : Addr} {fd : FuncData} (F : Fun K "_law_channel_fault" "_law_channel_fault" s_law_channel_fault f fd) (B : Blt mg) (g_law_number : DefR P w K mg base "_law_number" 1 (spBtw K)) : FnOk P w K mg base (L2.CX P w) 2 f fd ["count", "given", "place"] spChF := by
  refine F.okX sc_law_channel_fault (fun vs H Q E h => ?_) (fun cdv A outer s H vs Q E hr h => ?_)
  · obtain ⟨G, n, i, ds, ws, d, rfl, _⟩ := h
    rfl
  · obtain ⟨G, n, i, ds, ws, d, rfl, hG, hp, hl, hd, hpre, q⟩ := h
    obtain ⟨v, hv, hdA⟩ := pr_to hp hd
    -- slots: 0 count, 1 given, 2 place, 3 one, 4 k
    refine ⟨_, (pss_cons (ps_set (i := 3) sc_law_channel_fault.nd rfl (Or.inl rfl) (pe_ix ix_list (pv 1) (pv 2) (fun _ _ => rfl)))
      (pss_cons (ps_if (PW.pt (pw_or (pt_not (pt_val (pe_callB call_isi (by rfl) B.isi bt_isi (pa_cons (pv 3) (pa_cons (pe_bltn (v := .ty "tuple") (by rfl) B.tuple bt_tuple rfl) pa_nil))))) (pw_or (pt_cmpR op_lt (pe_callB call_len_seq (by rfl) B.len bt_len (pa_cons (pv 3) pa_nil)) pe_int (nomark _)) (pw_or1 (pt_cmpR op_gt (pe_callB call_len_seq (by rfl) B.len bt_len (pa_cons (pv 3) pa_nil)) pe_int (nomark _)))))) (pss_one (ps_ret pe_str)) pss_nil)
      (pss_cons (ps_if (PW.pt (pw_or (pt_not (pt_val (pe_cd g_law_number hr psE (pa_cons (pe_ix ix_tup (pv 3) pe_int (fun _ _ => rfl)) (pa_cons pe_int (pa_cons (pe_op op_sub (pv 0) pe_int) pa_nil)))))) (pw_or1 (pt_not (pt_val (pe_cd g_law_number hr psE (pa_cons (pe_ix ix_tup (pv 3) pe_int (fun _ _ => rfl)) (pa_cons pe_int (pa_cons (pe_op op_sub (pv 0) pe_int) pa_nil))))))))) (pss_one (ps_ret pe_str)) pss_nil)
      (pss_cons (ps_if (pt_cmpR op_eq (pe_ix ix_tup (pv 3) pe_int (fun _ _ => rfl)) (pe_ix ix_tup (pv 3) pe_int (fun _ _ => rfl)) (nomark _)) (pss_one (ps_ret pe_str)) pss_nil)
      (pss_cons (ps_if (PW.pt (pw_and (pt_cmpR op_eq (pe_callB call_len_seq (by rfl) B.len bt_len (pa_cons (pv 3) pa_nil)) pe_int (nomark _)) (pw_and1 (pt_not (pt_val (pe_cd g_law_number hr psE (pa_cons (pe_ix ix_tup (pv 3) pe_int (fun _ _ => rfl)) (pa_cons pe_int (pa_cons pe_int pa_nil))))))))) (pss_one (ps_ret pe_str)) pss_nil)
      (pss_cons (ps_for (passes_of rfl) rfl (pi_range1 (by rfl) B.range (pa_cons (pv 2) pa_nil)) (pg_name (i := 4) sc_law_channel_fault.nd rfl (Or.inl rfl))
        (pss_one (ps_if (PW.pt (pw_and (pt_cmpR op_eq (pe_ix ix_tup (pe_ix ix_list (pv 1) (pv 4) (fun _ _ => rfl)) pe_int (fun _ _ => rfl)) (pe_ix ix_tup (pv 3) pe_int (fun _ _ => rfl)) (nomark _)) (pw_and1 (pt_cmpR op_eq (pe_ix ix_tup (pe_ix ix_list (pv 1) (pv 4) (fun _ _ => rfl)) pe_int (fun _ _ => rfl)) (pe_ix ix_tup (pv 3) pe_int (fun _ _ => rfl)) (nomark _))))) (pss_one (ps_ret pe_str)) pss_nil)))
      (pss_one (ps_ret pe_str)))))))), ?_⟩
    refine ⟨_, rfl, _, rfl, G, _, _, _, rfl, rfl, SqL.of hG, atI_nat hv, ?_⟩
    obtain ⟨ty, tb, h1, h2, h3⟩ := chn_ty (K := K) hdA
    refine ⟨_, rfl, _, _, _, _, tb, rfl, .ty _, h1, h2, _, rfl, ?_⟩
    have chan : joinsB n d = false → Q (.str "channel") H := fun hj => by
      have z := q H (Same.refl H)
      unfold wordAt at z
      rw [if_pos hj] at z
      exact z
    rcases h3 with ⟨rfl, t, xs, rfl, rfl, ht, hk, hxl⟩ | ⟨rfl, u, rfl⟩
    rotate_left
    · exact iteT (chan rfl)
    by_cases hlen : xs.length = 2 ∨ xs.length = 3
    rotate_left
    · have hj : joinsB n (.tup xs) = false := by
        match xs, hlen with
        | [], _ => rfl
        | [_], _ => rfl
        | _ :: _ :: rest, hlen =>
          simp only [List.length_cons] at hlen
          have : ¬ rest.length ≤ 1 := by omega
          simp [joinsB, this]
      refine iteF ⟨_, rfl, t, _, rfl, .inr (SqT.of ht), _, _, rfl, rfl, _, rfl, ?_⟩
      by_cases h2' : (xs.length : Int) < 2
      · rw [decide_eq_true h2']
        exact iteT (chan hj)
      rw [decide_eq_false h2']
      refine iteF ⟨_, rfl, t, _, rfl, .inr (SqT.of ht), _, _, rfl, rfl, _, rfl, ?_⟩
      rw [decide_eq_true (show (3 : Int) < (xs.length : Int) by omega)]
      exact iteT (chan hj)
    obtain ⟨a, b, rest, rfl, hrest⟩ : ∃ a b rest, xs = a :: b :: rest ∧ rest.length ≤ 1 := by
      match xs, hlen with
      | a :: b :: rest, hlen =>
        simp only [List.length_cons] at hlen
        exact ⟨a, b, rest, rfl, by omega⟩
      | [], hlen => simp at hlen
      | [_], hlen => simp at hlen
    refine iteF ⟨_, rfl, t, _, rfl, .inr (SqT.of ht), _, _, rfl, rfl, _, rfl, ?_⟩
    have l1 : decide (((a :: b :: rest).length : Int) < 2) = false := by apply decide_eq_false; simp only [List.length_cons]; omega
    have l2 : decide ((3 : Int) < ((a :: b :: rest).length : Int)) = false := by apply decide_eq_false; simp only [List.length_cons]; omega
    rw [l1]
    refine iteF ⟨_, rfl, t, _, rfl, .inr (SqT.of ht), _, _, rfl, rfl, _, rfl, ?_⟩
    rw [l2]
    have ka := hk a List.mem_cons_self
    have kb := hk b (List.mem_cons_of_mem _ List.mem_cons_self)
    refine iteF ⟨_, rfl, t, _, _, _, rfl, rfl, SqT.of ht, atI_nat (j := 0) rfl, _, rfl, _, _, rfl, rfl, a, 0, (n : Int) - 1, rfl, ka.known, _, rfl, ?_⟩
    cases ea : btw a 0 ((n : Int) - 1) with
    | false => exact iteT (chan (by simp [joinsB, ea]))
    | true =>
    refine iteF ⟨_, rfl, t, _, _, _, rfl, rfl, SqT.of ht, atI_nat (j := 1) rfl, _, rfl, _, _, rfl, rfl, b, 0, (n : Int) - 1, rfl, kb.known, _, rfl, ?_⟩
    cases eb : btw b 0 ((n : Int) - 1) with
    | false => exact iteT (chan (by simp [joinsB, eb]))
    | true =>
    obtain ⟨x, rfl⟩ : ∃ x, a = .int x := by
      cases a with
      | int x => exact ⟨x, rfl⟩
      | _ => cases ea
    obtain ⟨y, rfl⟩ : ∃ y, b = .int y := by
      cases b with
      | int y => exact ⟨y, rfl⟩
      | _ => cases eb
    refine iteF ⟨_, rfl, t, _, _, _, rfl, rfl, SqT.of ht, atI_nat (j := 0) rfl, _, rfl, t, _, _, _, rfl, rfl, SqT.of ht, atI_nat (j := 1) rfl, rfl, _, rfl, ?_⟩
    rw [decs]
    by_cases exy : x = y
    · rw [decide_eq_true exy]
      exact iteT (chan (by simp [joinsB, ea, eb, exy]))
    rw [decide_eq_false exy]
    have hj : joinsB n (.tup (.int x :: .int y :: rest)) = true := by simp [joinsB, ea, eb, exy, hrest]
    refine iteF ?_
    dsimp only [tNext]
    refine seq_mid (fun σ H5 => σ = [some (.int n), some (.ref G), some (.int (i : Nat)), some (.ref t), none] ∧ H5 = H ∧ capB (.tup (.int x :: .int y :: rest)) = true) (fun N hN => ?_) ?_
    · refine ⟨_, rfl, t, _, rfl, .inr (SqT.of ht), rfl, _, rfl, ?_⟩
      match rest, hrest, ht, hk, q, hj with
      | [], _, _, _, _, _ => exact len_ne (show ((2 : Nat) : Int) ≠ 3 by decide) (hN _ _ ⟨rfl, rfl, rfl⟩)
      | [c2], _, ht, hk, q, hj =>
        refine len_eq (show ((3 : Nat) : Int) = 3 by decide) ⟨_, rfl, t, _, _, _, rfl, rfl, SqT.of ht, atI_nat (j := 2) rfl, c2, 1, 999, rfl, (hk c2 (by simp)).known, _, rfl, ?_⟩
        cases hcap : btw c2 1 999 with
        | true => exact iteF (hN _ _ ⟨rfl, rfl, hcap⟩)
        | false =>
          refine iteT ?_
          have z := q H (Same.refl H)
          unfold wordAt at z
          rw [if_neg (by rw [hj]; intro z; cases z), if_pos (show capB (.tup [.int x, .int y, c2]) = false from hcap)] at z
          exact z
    rintro σ H5 ⟨rfl, rfl, hcap⟩
    have gd : GoodC n (.tup (.int x :: .int y :: rest)) := ⟨hj, hcap⟩
    rw [word_dup gd] at q
    have e0 : pairC (.tup (.int x :: .int y :: rest)) = (x, y) := rfl
    rw [e0] at q
    have il := (List.getElem?_eq_some_iff.mp hd).1
    refine ⟨_, rfl, (i : Int), rfl, by omega, by omega, for_range (lo := 0) (n := i) (fun k σ H2 => (x, y) ∉ (ds.take k).map pairC ∧ ∃ v4, σ = [some (.int n), some (.ref G), some (.int (i : Nat)), some (.ref t), v4] ∧ Same H5 H2) ⟨by simp, _, rfl, Same.refl _⟩ ?_ ?_⟩
    · rintro k σ H2 hk2 ⟨nm, v4, rfl, s2⟩
      obtain ⟨e, he⟩ : ∃ e, ds[k]? = some e := ⟨_, List.getElem?_eq_getElem (show k < ds.length by omega)⟩
      obtain ⟨u, hu, heA⟩ := pr_to hp he
      obtain ⟨x2, y2, rest2, rfl, _⟩ := joins_view (hpre k e hk2 he)
      obtain ⟨t2, rfl, ht2, _⟩ := heA
      have ak : atI ws ((0 : Int) + k) = some (.ref t2) := by rw [Int.zero_add]; exact atI_nat hu
      have htk : ds.take (k + 1) = ds.take k ++ [.tup (.int x2 :: .int y2 :: rest2)] := take_snoc he
      have inm : (x, y) = (x2, y2) → (x, y) ∈ (ds.take i).map pairC := fun e3 => by
        refine List.mem_map.mpr ⟨.tup (.int x2 :: .int y2 :: rest2), List.mem_iff_getElem?.mpr ⟨k, ?_⟩, e3.symm⟩
        rw [List.getElem?_take_of_lt hk2]
        exact he
      have next : (x, y) ≠ (x2, y2) → (x, y) ∉ (ds.take (k + 1)).map pairC := fun ne m => by
        rw [htk, List.map_append] at m
        rcases List.mem_append.mp m with m | m
        · exact nm m
        · exact ne (List.mem_singleton.mp m)
      refine ⟨_, rfl, _, rfl, G, _, _, _, rfl, rfl, SqL.of (s2 _ _ hG), ak, t2, _, _, _, rfl, rfl, SqT.of (s2 _ _ ht2), atI_nat (j := 0) rfl, _, rfl, t, _, _, _, rfl, rfl, SqT.of (s2 _ _ ht), atI_nat (j := 0) rfl, rfl, _, rfl, ?_⟩
      rw [decs]
      by_cases e1 : x2 = x
      · rw [decide_eq_true e1]
        refine iteT ⟨_, rfl, _, rfl, G, _, _, _, rfl, rfl, SqL.of (s2 _ _ hG), ak, t2, _, _, _, rfl, rfl, SqT.of (s2 _ _ ht2), atI_nat (j := 1) rfl, _, rfl, t, _, _, _, rfl, rfl, SqT.of (s2 _ _ ht), atI_nat (j := 1) rfl, rfl, _, rfl, ?_⟩
        rw [decs]
        by_cases e2 : y2 = y
        · rw [decide_eq_true e2]
          refine iteT ?_
          have z := q H2 s2
          rw [if_pos (inm (by rw [e1, e2]))] at z
          exact z
        · rw [decide_eq_false e2]
          exact iteF ⟨next (fun z => e2 (by injection z with _ z; exact z.symm)), _, rfl, s2⟩
      · rw [decide_eq_false e1]
        exact iteF ⟨next (fun z => e1 (by injection z with z _; exact z.symm)), _, rfl, s2⟩
    · rintro σ H2 ⟨nm, v4, rfl, s2⟩
      have z := q H2 s2
      rw [if_neg nm] at z
      exact z
end
end WC

set_option maxHeartbeats 8000000
namespace WC
open PySem PySem.Spec PyProof.Rows L2
def AcP (ps : List (Int × Int)) : Prop := ∃ r : Int → Nat, ∀ p ∈ ps, r p.1 < r p.2
theorem good_pair {n : Int} {e : Int} {d : Chn} (h : GoodC n d) : ((triC e d).1, (triC e d).2.1) = pairC d := by
  obtain ⟨h1, h2⟩ := h
  obtain ⟨a, b, rest, rfl, hr, _⟩ := joins_view h1
  match rest, hr, h2 with
  | [], _, _ => rfl
  | [c], _, h2 =>
    cases c with
    | int c => rfl
    | _ => cases h2
theorem acyc_pairs {n e : Int} {ds : List Chn} (h : ∀ d ∈ ds, GoodC n d) : Acyc (ds.map (triC e)) ↔ AcP (ds.map pairC) := by
  refine ⟨fun ⟨r, hr⟩ => ⟨r, fun p hp => ?_⟩, fun ⟨r, hr⟩ => ⟨r, fun c hc => ?_⟩⟩
  · obtain ⟨d, hd, rfl⟩ := List.mem_map.mp hp
    have z := hr _ (List.mem_map.mpr ⟨d, hd, rfl⟩)
    rw [← good_pair (e := e) (h d hd)]
    exact z
  · obtain ⟨d, hd, rfl⟩ := List.mem_map.mp hc
    have z := hr _ (List.mem_map.mpr ⟨d, hd, rfl⟩)
    rw [← good_pair (e := e) (h d hd)] at z
    exact z
theorem eqv_ints : ∀ a b : List Int, PyData.eqvAll (a.map PyData.int) (b.map PyData.int) = decide (a = b)
  | [], [] => by simp [PyData.eqvAll]
  | [], d :: ds => by simp [PyData.eqvAll]
  | c :: cs, [] => by simp [PyData.eqvAll]
  | c :: cs, d :: ds => by
    simp only [List.map_cons, PyData.eqvAll, PyData.eqv, eqv_ints cs ds]
    by_cases h1 : c = d <;> by_cases h4 : cs = ds <;> simp [h1, h4]
theorem lay_ints : ∀ cs : List Int, PyData.canLayAll0 (cs.map PyData.int) = true
  | [] => by simp only [List.map_nil, PyData.canLayAll0]
  | c :: cs => by simp only [List.map_cons, PyData.canLayAll0, PyData.canLay0, lay_ints cs, Bool.and_true, Bool.true_and]
theorem dep_ints : ∀ cs : List Int, PyData.depthAll (cs.map PyData.int) ≤ 3
  | [] => by simp only [List.map_nil, PyData.depthAll]; omega
  | c :: cs => by
    have := dep_ints cs
    simp only [List.map_cons, PyData.depthAll, PyData.depth]
    omega
theorem shaped_ints (cs : List Int) : SeqAt.shaped (.list (cs.map PyData.int)) = true := by
  unfold SeqAt.shaped
  rw [Bool.and_eq_true, decide_eq_true_iff]
  refine ⟨by simp only [PyData.canLay0]; exact lay_ints cs, ?_⟩
  have := dep_ints cs
  simp only [PyData.depth]
  omega
theorem dp_ints {K : PySem.W.Frag} {H : Hp} : ∀ cs : List Int, DpAll K H (cs.map V.int) (cs.map PyData.int)
  | [] => .nil
  | c :: cs => .cons (.int c) (dp_ints cs)
theorem inV_ints (x : Int) (L : List Int) : inV (V.int x) (L.map V.int) = decide (x ∈ L) := by
  unfold inV
  rw [Bool.eq_iff_iff, List.any_eq_true, decide_eq_true_eq]
  refine ⟨fun ⟨y, hy, e⟩ => ?_, fun h => ⟨.int x, List.mem_map.mpr ⟨x, h, rfl⟩, ?_⟩⟩
  · obtain ⟨z, hz, rfl⟩ := List.mem_map.mp hy
    have e : (z == x) = true := e
    rw [← beq_iff_eq.mp e]
    exact hz
  · show (x == x) = true
    exact beq_self_eq_true x
theorem flat_ints (L : List Int) : (L.map V.int).all flatV = true := by
  rw [List.all_eq_true]
  intro y hy
  obtain ⟨z, _, rfl⟩ := List.mem_map.mp hy
  rfl
/-- the ends that are reached from L -/
def endsOf (ps : List (Int × Int)) (L : List Int) : List Int := (ps.filter fun p => decide (p.1 ∈ L)).map fun p => p.2
theorem mem_ends {ps : List (Int × Int)} {L : List Int} {x : Int} : x ∈ endsOf ps L ↔ ∃ p ∈ ps, p.1 ∈ L ∧ p.2 = x := by
  unfold endsOf
  rw [List.mem_map]
  refine ⟨fun ⟨p, hp, e⟩ => ?_, fun ⟨p, hp, h1, e⟩ => ⟨p, List.mem_filter.mpr ⟨hp, decide_eq_true h1⟩, e⟩⟩
  obtain ⟨h1, h2⟩ := List.mem_filter.mp hp
  exact ⟨p, h1, of_decide_eq_true h2, e⟩
/-- what is left, and a rank for the rest -/
structure Peel (ps : List (Int × Int)) (n i : Nat) (L : List Int) : Prop where
  len : L.length + i ≤ n
  rank : ∃ r : Int → Nat, (∀ x, r x ≤ i) ∧ ∀ p ∈ ps, p.2 ∉ L → p.1 ∉ L ∧ r p.1 < r p.2
theorem Peel.next {ps : List (Int × Int)} {n i : Nat} {L : List Int} (h : Peel ps n i L) (ne : L.filter (fun x => decide (x ∈ endsOf ps L)) ≠ L) : Peel ps n (i + 1) (L.filter fun x => decide (x ∈ endsOf ps L)) := by
  obtain ⟨hl, r, hr, hp⟩ := h
  refine ⟨?_, fun x => if x ∈ L then i + 1 else r x, fun x => ?_, fun p hpm hn => ?_⟩
  · have h1 : (L.filter fun x => decide (x ∈ endsOf ps L)).length ≤ L.length := List.length_filter_le _ _
    have h2 : (L.filter fun x => decide (x ∈ endsOf ps L)).length ≠ L.length := fun e => ne (List.filter_eq_self.mpr (List.length_filter_eq_length_iff.mp e))
    omega
  · dsimp only
    have := hr x
    split <;> omega
  · dsimp only
    by_cases m2 : p.2 ∈ L
    · have m1 : p.1 ∉ L := fun m => hn (List.mem_filter.mpr ⟨m2, decide_eq_true (mem_ends.mpr ⟨p, hpm, m, rfl⟩)⟩)
      refine ⟨fun z => m1 (List.mem_filter.mp z).1, ?_⟩
      rw [if_neg m1, if_pos m2]
      have := hr p.1
      omega
    · obtain ⟨m1, lt⟩ := hp p hpm m2
      refine ⟨fun z => m1 (List.mem_filter.mp z).1, ?_⟩
      rw [if_neg m1, if_neg m2]
      exact lt
theorem Peel.none {ps : List (Int × Int)} {n i : Nat} (h : Peel ps n i []) : AcP ps := by
  obtain ⟨_, r, _, hp⟩ := h
  exact ⟨r, fun p hpm => (hp p hpm (by simp)).2⟩
theorem Peel.some {ps : List (Int × Int)} {L : List Int} (e : L.filter (fun x => decide (x ∈ endsOf ps L)) = L) (ne : L ≠ []) : ¬ AcP ps := by
  rintro ⟨r, hr⟩
  obtain ⟨x, hx, hm⟩ := least_of r ne
  have hx2 := of_decide_eq_true ((List.filter_eq_self.mp e) x hx)
  obtain ⟨p, hp, h1, h2⟩ := mem_ends.mp hx2
  have a := hr p hp
  have b := hm p.1 h1
  rw [h2] at a
  omega
section
variable {P : Program} {w : World} {K : PySem.W.Frag} {mg : Str → Option Value} {base : Heap}
theorem ok_law_circle {f : Addr} {fd : FuncData} (F : Fun K "_law_circle" "_law_circle" s_law_circle f fd) (B : Blt mg) : FnOk P w K mg base (L2.CX P w) 1 f fd ["count", "given"] spCirc := by
  refine F.okX sc_law_circle (fun vs H Q E h => ?_) (fun cdv A outer s H vs Q E hr h => ?_)
  · obtain ⟨G, n, e, ds, ws, rfl, _⟩ := h
    rfl
  · obtain ⟨G, n, e, ds, ws, rfl, hG, hp, hl, hn, hgood, qT, qF⟩ := h
    -- slots: 0 count, 1 given, 2 left*, 3 k, 4 turn, 5 ends*, 6 one, 7 kept
    refine ⟨_, (pss_cons (ps_set (i := 2) sc_law_circle.nd rfl (Or.inr rfl) (pe_lc (own := [("k", 3)]) rfl sc_law_circle.nd (pi_range1 (by rfl) B.range (pa_cons (pv 0) pa_nil)) (blkOk_by (N := nn_law_circle) (sc := defScope s_law_circle) (own := [("k", 3)]) (by decide +kernel)) (fun _ _ _ _ _ => (pg_name (i := 3) sc_law_circle.nd rfl (Or.inl rfl))) (fun _ _ _ _ _ => pts_nil) (fun _ _ _ _ _ => (pv 3))))
      (pss_cons (ps_for (passes_of rfl) rfl (pi_range1 (by rfl) B.range (pa_cons (pv 0) pa_nil)) (pg_name (i := 4) sc_law_circle.nd rfl (Or.inl rfl))
        (pss_cons (ps_set (i := 5) sc_law_circle.nd rfl (Or.inr rfl) (pe_lc (own := [("one", 6)]) rfl sc_law_circle.nd (pi_list (pv 1)) (blkOk_by (N := nn_law_circle) (sc := defScope s_law_circle) (own := [("one", 6)]) (by decide +kernel)) (fun _ _ _ _ _ => (pg_name (i := 6) sc_law_circle.nd rfl (Or.inl rfl))) (fun _ _ _ _ _ => (pts_one (pt_cmpR (op_inK (K := K)) (pe_ix (i_tup (K := K)) (pv 6) pe_int (fun _ _ => rfl)) (pv 2) (by rfl)))) (fun _ _ _ _ _ => (pe_ix (i_tup (K := K)) (pv 6) pe_int (fun _ _ => rfl)))))
      (pss_cons (ps_setLc (i := 7) (own := [("k", 3)]) rfl sc_law_circle.nd rfl rfl (sw_true rfl rfl rfl (by decide +kernel)) (pi_list (pv 2)) (blkOk_by (N := nn_law_circle) (sc := defScope s_law_circle) (own := [("k", 3)]) (by decide +kernel)) (fun _ _ _ _ _ => (pg_name (i := 3) sc_law_circle.nd rfl (Or.inl rfl))) (fun _ _ _ _ _ => (pts_one (pt_cmpR (op_inK (K := K)) (pv 3) (pv 5) (by rfl)))) (fun _ _ _ _ _ => (pv 3)))
      (pss_cons (ps_if (pt_cmpR (op_eqD hr.units) (pv 7) (pv 2) (nomark _)) (pss_one ps_break) pss_nil)
      (pss_one (ps_set (i := 2) sc_law_circle.nd rfl (Or.inr rfl) (pv 7)))))))
      (pss_one (ps_ret (pe_cmpR op_gt (pe_callB call_len_seq (by rfl) B.len bt_len (pa_cons (pv 2) pa_nil)) pe_int (nomark _)))))), ?_⟩
    have hwl : ws.length = ds.length := hp.length.symm
    rw [acyc_pairs hgood] at qT qF
    obtain ⟨ps, eps⟩ : ∃ ps, ps = ds.map pairC := ⟨_, rfl⟩
    rw [← eps] at qT qF
    have hin : ∀ p ∈ ps, p.2 ∈ upto n := fun p hpm => by
      rw [eps] at hpm
      obtain ⟨d, hd, rfl⟩ := List.mem_map.mp hpm
      obtain ⟨a, b, rest, rfl, _, _, hb, _⟩ := joins_view (hgood d hd).1
      exact upto_mem.mpr hb
    refine ⟨_, rfl, (n : Int), rfl, by omega, by omega, fun D hD => lc_range (lo := 0) (n := n) (fun i H2 => Same H H2 ∧ H2 D = some (.lst ((upto i).map V.int))) ⟨Same.new hD, upd_same⟩ ?_ ?_⟩
    · rintro i H2 hi ⟨s2, hd⟩
      refine ⟨rfl, yes ⟨_, rfl, _, hd, ?_, Same.newer s2 hD, ?_⟩⟩
      · rw [List.length_map, upto_len]
        exact line_lt (by omega)
      · rw [upd_same, upto_succ, List.map_append, Int.zero_add]
        rfl
    rintro H1 ⟨s1, hA⟩
    dsimp only [gName]
    refine seq_mid (fun σ H2 => ∃ A L v3 v4 v5 v6 v7, σ = [some (.int n), some (.ref G), some (.ref A), v3, v4, v5, v6, v7] ∧ Same H H2 ∧ H2 A = some (.lst ((L : List Int).map V.int)) ∧ (L = [] → AcP ps) ∧ (L ≠ [] → ¬ AcP ps)) (fun N hN => ?_) ?_
    · refine ⟨_, rfl, (n : Int), rfl, by omega, by omega, for_range (lo := 0) (n := n) (fun i σ H2 => ∃ A L v3 v4 v5 v6 v7, σ = [some (.int n), some (.ref G), some (.ref A), v3, v4, v5, v6, v7] ∧ Same H H2 ∧ H2 A = some (.lst ((L : List Int).map V.int)) ∧ Peel ps n i L) ⟨D, upto n, _, _, _, _, _, rfl, s1, hA, ⟨by rw [upto_len]; omega, fun _ => 0, fun _ => Nat.zero_le _, fun p hpm hno => absurd (hin p hpm) hno⟩⟩ ?_ ?_⟩
      · rintro i σ H2 hi ⟨A, L, v3, v4, v5, v6, v7, rfl, s2, hA2, pe⟩
        have lL : L.length ≤ n := by have := pe.len; omega
        refine ⟨_, rfl, G, rfl, ⟨_, SqL.of (s2 _ _ hG)⟩, fun D2 hD2 => lc_list (K := K) (a := G) (xs := ws) (fun k H3 => Same H2 H3 ∧ H3 D2 = some (.lst ((endsOf (ps.take k) L).map V.int))) ⟨Same.new hD2, upd_same⟩ (fun k H3 _ z => SqL.of (z.1 _ _ (s2 _ _ hG))) ?_ ?_⟩
        · rintro k y H3 hy ⟨s3, hd⟩
          obtain ⟨d, hd2, hdA⟩ := pr_at hp hy
          obtain ⟨a, b, rest, rfl, _⟩ := joins_view (hgood d (List.mem_of_getElem? hd2)).1
          obtain ⟨t1, rfl, ht1, _⟩ := hdA
          have ht3 := (s2.trans s3) _ _ ht1
          have hk : ps[k]? = some (a, b) := by rw [eps, List.getElem?_map, hd2]; rfl
          have hlk := (List.getElem?_eq_some_iff.mp hd2).1
          have llen : (endsOf (ps.take k) L).length ≤ k := by
            unfold endsOf
            rw [List.length_map]
            exact Nat.le_trans (List.length_filter_le _ _) (by rw [List.length_take]; omega)
          refine ⟨rfl, _, rfl, t1, _, _, _, rfl, rfl, SqT.of ht3, atI_nat (j := 0) rfl, _, rfl, A, L.map V.int, rfl, .inl (SqL.of (s3 _ _ hA2)), rfl, flat_ints L, _, rfl, ?_⟩
          have ei : inV (V.int a) (L.map V.int) = decide (a ∈ L) := inV_ints a L
          have es : endsOf (ps.take (k + 1)) L = endsOf (ps.take k) L ++ (if a ∈ L then [b] else []) := by
            unfold endsOf
            rw [take_snoc hk, List.filter_append, List.map_append]
            congr 1
            by_cases m : a ∈ L
            · rw [if_pos m]; simp [List.filter, m]
            · rw [if_neg m]; simp [List.filter, m]
          show if inV (V.int a) (L.map V.int) = true then _ else _
          rw [ei]
          by_cases m : a ∈ L
          · rw [decide_eq_true m]
            refine iteT ⟨_, rfl, t1, _, _, _, rfl, rfl, SqT.of ht3, atI_nat (j := 1) rfl, _, hd, ?_, Same.newer s3 hD2, ?_⟩
            · rw [List.length_map]
              exact line_lt (by omega)
            · rw [upd_same, es, if_pos m, List.map_append]
              rfl
          · rw [decide_eq_false m]
            refine iteF ⟨s3, ?_⟩
            rw [es, if_neg m, List.append_nil]
            exact hd
        rintro H3 ⟨s3, hE⟩
        have el : ps.take ws.length = ps := List.take_of_length_le (by rw [eps, List.length_map, hwl]; exact Nat.le_refl _)
        rw [el] at hE
        have s03 := s2.trans s3
        have hA3 := s3 _ _ hA2
        refine ⟨_, rfl, A, rfl, ⟨_, SqL.of hA3⟩, fun D3 hD3 => lc_list (K := K) (a := A) (xs := L.map V.int) (fun k H4 => Same H3 H4 ∧ H4 D3 = some (.lst (((L.take k).filter fun x => decide (x ∈ endsOf ps L)).map V.int))) ⟨Same.new hD3, upd_same⟩ (fun k H4 _ z => SqL.of (z.1 _ _ hA3)) ?_ ?_⟩
        · rintro k y H4 hy ⟨s4, hd⟩
          rw [List.getElem?_map] at hy
          obtain ⟨x, hx, rfl⟩ := Option.map_eq_some_iff.mp hy
          have llen : ((L.take k).filter fun x => decide (x ∈ endsOf ps L)).length ≤ L.length := Nat.le_trans (List.length_filter_le _ _) (by rw [List.length_take]; omega)
          refine ⟨rfl, _, rfl, _, rfl, D2, (endsOf ps L).map V.int, rfl, .inl (SqL.of (s4 _ _ hE)), rfl, flat_ints _, _, rfl, ?_⟩
          show if inV (V.int x) ((endsOf ps L).map V.int) = true then _ else _
          rw [inV_ints]
          have es : (L.take (k + 1)).filter (fun x => decide (x ∈ endsOf ps L)) = (L.take k).filter (fun x => decide (x ∈ endsOf ps L)) ++ (if x ∈ endsOf ps L then [x] else []) := by
            rw [take_snoc hx, List.filter_append]
            congr 1
            by_cases m : x ∈ endsOf ps L
            · rw [if_pos m]; simp [List.filter, m]
            · rw [if_neg m]; simp [List.filter, m]
          by_cases m : x ∈ endsOf ps L
          · rw [decide_eq_true m]
            refine iteT ⟨_, rfl, _, hd, ?_, Same.newer s4 hD3, ?_⟩
            · rw [List.length_map]
              exact line_lt (by omega)
            · rw [upd_same, es, if_pos m, List.map_append]
              rfl
          · rw [decide_eq_false m]
            refine iteF ⟨s4, ?_⟩
            rw [es, if_neg m, List.append_nil]
            exact hd
        rintro H4 ⟨s4, hK⟩
        rw [List.length_map, List.take_length] at hK
        have hA4 := s4 _ _ hA3
        have s04 := s03.trans s4
        refine ⟨_, rfl, _, rfl, _, _, .lst (SqL.of hK) (dp_ints _), .lst (SqL.of hA4) (dp_ints L), shaped_ints _, shaped_ints L, _, rfl, ?_⟩
        rw [show PyData.eqv (.list ((L.filter fun x => decide (x ∈ endsOf ps L)).map PyData.int)) (.list (L.map PyData.int)) = decide ((L.filter fun x => decide (x ∈ endsOf ps L)) = L) from by simp only [PyData.eqv, eqv_ints]]
        by_cases same : (L.filter fun x => decide (x ∈ endsOf ps L)) = L
        · rw [decide_eq_true same]
          refine iteT (hN _ _ ⟨A, L, _, _, _, _, _, rfl, s04, hA4, fun z => ?_, fun z => Peel.some same z⟩)
          rw [z] at pe
          exact pe.none
        · rw [decide_eq_false same]
          exact iteF ⟨_, rfl, D3, _, _, _, _, _, _, rfl, s04, hK, pe.next same⟩
      · rintro σ H2 ⟨A, L, v3, v4, v5, v6, v7, rfl, s2, hA2, pe⟩
        have : L.length = 0 := by have := pe.len; omega
        obtain rfl := List.length_eq_zero_iff.mp this
        exact hN _ _ ⟨A, [], _, _, _, _, _, rfl, s2, hA2, fun _ => pe.none, fun z => absurd rfl z⟩
    rintro σ H2 ⟨A, L, v3, v4, v5, v6, v7, rfl, s2, hA2, h0, h1⟩
    refine ⟨_, rfl, A, _, rfl, .inl (SqL.of hA2), _, _, rfl, rfl, ?_⟩
    rw [List.length_map]
    cases L with
    | nil => exact qF (h0 rfl) H2 s2
    | cons x L =>
      show Q (.bl (decide ((0 : Int) < ((x :: L).length : Int)))) H2
      rw [decide_eq_true (show (0 : Int) < ((x :: L).length : Int) by simp only [List.length_cons]; omega)]
      exact qT (h1 (by simp)) H2 s2
theorem ok_law_fault {f : Addr} {fd : FuncData} (F : Fun K "_law_fault" "_law_fault" s_law_fault f fd) (B : Blt mg) (g_law_number : DefR P w K mg base "_law_number" 1 (spBtw K)) (g_law_channel_fault : DefR P w K mg base "_law_channel_fault" 2 spChF) (g_law_circle : DefR P w K mg base "_law_circle" 1 spCirc) : FnOk P w K mg base (L2.CX P w) 3 f fd ["count", "given", "extra"] (spLFault K) := by
  refine F.okX sc_law_fault (fun vs H Q E h => ?_) (fun cdv A outer s H vs Q E hr h => ?_)
  · obtain ⟨G, cnt, extra, ds, ws, rfl, _⟩ := h
    rfl
  · obtain ⟨G, cnt, extra, ds, ws, rfl, kc, ke, hG, hp, hlen, q⟩ := h
    have hwl : ws.length = ds.length := hp.length.symm
    -- slots: 0 count, 1 given, 2 extra, 3 place, 4 word
    refine ⟨_, (pss_cons (ps_if (pt_not (pt_val (pe_cd g_law_number hr psE (pa_cons (pv 0) (pa_cons pe_int (pa_cons pe_int pa_nil)))))) (pss_one (ps_ret (pe_tup (pa_cons pe_str (pa_cons pe_non pa_nil))))) pss_nil)
      (pss_cons (ps_if (pt_cmpR op_gt (pe_callB call_len_seq (by rfl) B.len bt_len (pa_cons (pv 1) pa_nil)) pe_int (nomark _)) (pss_one (ps_ret (pe_tup (pa_cons pe_str (pa_cons pe_non pa_nil))))) pss_nil)
      (pss_cons (ps_for (passes_of rfl) rfl (pi_range1 (by rfl) B.range (pa_cons (pe_callB call_len_seq (by rfl) B.len bt_len (pa_cons (pv 1) pa_nil)) pa_nil)) (pg_name (i := 3) sc_law_fault.nd rfl (Or.inl rfl))
        (pss_cons (ps_set (i := 4) sc_law_fault.nd rfl (Or.inl rfl) (pe_cd g_law_channel_fault hr psE (pa_cons (pv 0) (pa_cons (pv 1) (pa_cons (pv 3) pa_nil)))))
      (pss_one (ps_if (pt_cmpR op_ne (pv 4) pe_str (nomark _)) (pss_one (ps_ret (pe_tup (pa_cons (pv 4) (pa_cons (pv 3) pa_nil))))) pss_nil))))
      (pss_cons (ps_if (pt_not (pt_val (pe_cd g_law_number hr psE (pa_cons (pv 2) (pa_cons pe_int (pa_cons pe_int pa_nil)))))) (pss_one (ps_ret (pe_tup (pa_cons pe_str (pa_cons pe_non pa_nil))))) pss_nil)
      (pss_cons (ps_if (pt_val (pe_cd g_law_circle hr psE (pa_cons (pv 0) (pa_cons (pv 1) pa_nil)))) (pss_one (ps_ret (pe_tup (pa_cons pe_str (pa_cons pe_non pa_nil))))) pss_nil)
      (pss_one (ps_ret pe_non))))))), ?_⟩
    refine ⟨_, rfl, cnt, 1, 40, rfl, kc, _, rfl, ?_⟩
    cases hc : btw cnt 1 40 with
    | false => exact iteT ⟨by show 2 ≤ sizeLine; decide, fun t ht => q _ _ _ (Same.new ht) (.inl ⟨hc, rfl⟩) ⟨t, rfl, upd_same⟩⟩
    | true =>
    obtain ⟨n, rfl, n1, n40⟩ : ∃ n : Nat, cnt = .int n ∧ 1 ≤ n ∧ n ≤ 40 := by
      cases cnt with
      | int i =>
        simp only [btw, Bool.and_eq_true, decide_eq_true_eq] at hc
        exact ⟨i.toNat, by rw [Int.toNat_of_nonneg (by omega)], by omega, by omega⟩
      | _ => cases hc
    refine iteF ⟨_, rfl, G, _, rfl, .inl (SqL.of hG), _, _, rfl, rfl, _, rfl, ?_⟩
    by_cases h120 : 120 < ds.length
    · rw [decide_eq_true (show (120 : Int) < (ws.length : Int) by omega)]
      exact iteT ⟨by show 2 ≤ sizeLine; decide, fun t ht => q _ _ _ (Same.new ht) (.inr ⟨n, rfl, n1, n40, .inl ⟨h120, rfl⟩⟩) ⟨t, rfl, upd_same⟩⟩
    rw [decide_eq_false (show ¬ (120 : Int) < (ws.length : Int) by omega)]
    refine iteF ⟨_, rfl, G, _, rfl, .inl (SqL.of hG), ?_⟩
    refine ⟨(ws.length : Int), rfl, by omega, by omega, for_range (lo := 0) (n := ws.length) (fun i σ H2 => (∀ j d, j < i → ds[j]? = some d → wordAt n (ds.take j) d = none) ∧ ∃ v3 v4, σ = [some (.int n), some (.ref G), some extra, v3, v4] ∧ Same H H2) ⟨fun j d hj => absurd hj (Nat.not_lt_zero _), _, _, rfl, Same.refl H⟩ ?_ ?_⟩
    · rintro i σ H2 hi ⟨pre, v3, v4, rfl, s2⟩
      obtain ⟨d, hd⟩ : ∃ d, ds[i]? = some d := ⟨_, List.getElem?_eq_getElem (show i < ds.length by omega)⟩
      refine ⟨_, rfl, _, rfl, _, rfl, G, n, i, ds, ws, d, by rw [Int.zero_add], s2 _ _ hG, chs_same s2 hp, by omega, hd, fun j e hj he => (word_none (pre j e hj he)).1.1, fun H3 s3 => ?_⟩
      have s03 := s2.trans s3
      refine ⟨_, rfl, rfl, _, rfl, ?_⟩
      cases ew : wordAt n (ds.take i) d with
      | none =>
        refine iteF ⟨fun j e hj he => ?_, _, _, rfl, s03⟩
        rcases Nat.lt_or_ge j i with z | z
        · exact pre j e z he
        · have : j = i := by omega
          subst this
          rw [hd] at he
          cases he
          exact ew
      | some ww =>
        have ne : ww ≠ ("" : Str) := by
          unfold wordAt at ew
          split at ew
          · rw [← Option.some.inj ew]; decide +kernel
          · split at ew
            · rw [← Option.some.inj ew]; decide +kernel
            · split at ew
              · rw [← Option.some.inj ew]; decide +kernel
              · cases ew
        rw [show (!decide (V.str (wordS (some ww)) = V.str "")) = true by
          rw [decide_eq_false (fun z => ne (by injection z))]; rfl]
        refine iteT ⟨_, rfl, _, rfl, by show 2 ≤ sizeLine; decide, fun t ht => q _ _ _ (Same.newer s03 (s03.free ht)) (.inr ⟨n, rfl, n1, n40, .inr ⟨by omega, .inl ⟨i, ww, ⟨⟨d, hd, ew⟩, pre⟩, rfl⟩⟩⟩) ⟨t, rfl, ?_⟩⟩
        rw [upd_same, Int.zero_add]
        rfl
    rintro σ H2 ⟨pre, v3, v4, rfl, s2⟩
    have hok : AllOk n ds := fun j d hj => pre j d (by rw [hwl]; exact (List.getElem?_eq_some_iff.mp hj).1) hj
    have hgood : ∀ d ∈ ds, GoodC n d := fun d hd => by
      obtain ⟨j, hj⟩ := List.mem_iff_getElem?.mp hd
      exact (word_none (hok j d hj)).1
    refine ⟨_, rfl, extra, 1, 999, rfl, ke.same s2, _, rfl, ?_⟩
    cases he : btw extra 1 999 with
    | false => exact iteT ⟨by show 2 ≤ sizeLine; decide, fun t ht => q _ _ _ (Same.newer s2 (s2.free ht)) (.inr ⟨n, rfl, n1, n40, .inr ⟨by omega, .inr ⟨hok, .inl ⟨he, rfl⟩⟩⟩⟩) ⟨t, rfl, upd_same⟩⟩
    | true =>
    obtain ⟨e, rfl, e1, e2⟩ : ∃ e : Int, extra = .int e ∧ 1 ≤ e ∧ e ≤ 999 := by
      cases extra with
      | int i =>
        simp only [btw, Bool.and_eq_true, decide_eq_true_eq] at he
        exact ⟨i, rfl, he.1, he.2⟩
      | _ => cases he
    refine iteF ⟨_, rfl, _, rfl, G, n, e, ds, ws, rfl, s2 _ _ hG, chs_same s2 hp, by omega, by omega, hgood, fun na H3 s3 => ⟨_, rfl, iteT ⟨by show 2 ≤ sizeLine; decide, fun t ht => ?_⟩⟩, fun ac H3 s3 => ⟨_, rfl, iteF ?_⟩⟩
    · have s03 := s2.trans s3
      exact q _ _ _ (Same.newer s03 (s03.free ht)) (.inr ⟨n, rfl, n1, n40, .inr ⟨by omega, .inr ⟨hok, .inr ⟨e, rfl, ⟨e1, e2⟩, .inl ⟨na, rfl⟩⟩⟩⟩⟩) ⟨t, rfl, upd_same⟩
    · exact q none _ _ (s2.trans s3) (.inr ⟨n, rfl, n1, n40, .inr ⟨by omega, .inr ⟨hok, .inr ⟨e, rfl, ⟨e1, e2⟩, .inr ⟨ac, rfl⟩⟩⟩⟩⟩) rfl
end
end WC

set_option maxHeartbeats 16000000
namespace WC
open PySem PySem.Spec PyProof.Rows L2 L2H
theorem mk_same {H H1 H2 : Hp} {x dx C : Addr} (s : Same H H1) (hx : H1 x = none) (hdx : H1 dx = none) (h : ∀ b o, upd (upd H1 dx (.own x)) x (.ins C dx []) b = some o → b ≠ x → H2 b = some o) : Same H H2 := fun b o e => by
  have e1 := s b o e
  have n1 := ne_of_none e1 hx
  exact h b o (by rw [upd_ne n1, upd_ne (ne_of_none e1 hdx)]; exact e1) n1

theorem mk_up {H : Hp} {x dx C : Addr} (hx : H x = none) (hdx : H dx = none) : Same H (upd (upd H dx (.own x)) x (.ins C dx [])) := fun b o e => by
  rw [upd_ne (ne_of_none e hx), upd_ne (ne_of_none e hdx)]
  exact e
/-- what is wanted of Pipeline(..) -/
structure PipeW (K : PySem.W.Frag) (C CI : Addr) (cnt extra : V) (ds : List Chn) (ws : List V) (H : Hp) (Q : VK) (E : XK) : Prop where
  kc : Known K H cnt
  ke : Known K H extra
  hp : Paired (ChA H) ds ws
  len : ds.length ≤ 130
  er : ∀ w p, DueP cnt ds extra (some (w, p)) → ErrI E CI H w p
  mkd : ∀ (n : Nat) (e : Int), cnt = .int n → extra = .int e → DueP cnt ds extra none → ∀ H2 x cs2, Same H H2 → H x = none → cs2.Perm (ds.map (triC e)) → cs2.Pairwise (fun a b => key a ≤ key b) → NetAt H2 x C n cs2 → Q (.ref x) H2
theorem PipeW.use {K : PySem.W.Frag} {C CI : Addr} {cnt extra : V} {ds : List Chn} {ws : List V} {H : Hp} {Q : VK} {E : XK} (h : PipeW K C CI cnt extra ds ws H Q E) : ∀ x dx, H x = none → H dx = none → dx ≠ x → spPipeK K C CI extra (V.ref x :: cnt :: ws) (upd (upd H dx (.own x)) x (.ins C dx [])) (fun v H2 => v = .non ∧ Q (.ref x) H2) E := by
  intro x dx hx hdx hne
  have up := mk_up (C := C) hx hdx
  exact ⟨x, dx, cnt, ds, ws, rfl, upd_same, h.kc.same up, h.ke.same up, chs_same up h.hp, h.len, fun w p d => ErrX.on (h.er w p d) up, fun n e h1 h2 d H3 cs2 a b c N => ⟨rfl, h.mkd n e h1 h2 d H3 x cs2 (mk_same (Same.refl H) hx hdx c) hx a b N⟩⟩
def spMkN (K : PySem.W.Frag) (C CI : Addr) (N : Nat) : Sp := fun vs H Q E => ∃ (l : Addr) (cnt : V) (ds : List Chn) (us : List V), vs = [cnt, .ref l] ∧ H l = some (.lst us) ∧ us.length = N ∧ PipeW K C CI cnt (.int 1) ds us H Q E
def spLeft (K : PySem.W.Frag) (C CI : Addr) : Sp := fun vs H Q E => ∃ (l : Addr) (cnt : V) (ds : List Chn) (us : List V), vs = [cnt, .ref l] ∧ H l = some (.lst us) ∧ (us.length ≤ 7 ∨ us.length = 40 ∨ us.length = 120 ∨ us.length = 121) ∧ PipeW K C CI cnt (.int 1) ds us H Q E
def spKeyed (K : PySem.W.Frag) (C CI : Addr) : Sp := fun vs H Q E => ∃ (l : Addr) (cnt extra : V) (ds : List Chn) (us : List V), vs = [cnt, .ref l, extra] ∧ H l = some (.lst us) ∧ us.length ≤ 7 ∧ PipeW K C CI cnt extra ds us H Q E
section
variable {P : Program} {w : World} {K : PySem.W.Frag} {mg : Str → Option Value} {base : Heap}
theorem pe_ccn {X : Cx} {j k : Nat} {C : Addr} {sp : Sp} {E : XK} {x : Str} {e : Expr} {es : List Expr} {t : TA} {p_ pos : Pos} (D : ClsN X.prog X.w X.K X.mg X.base C k sp) (hm : X.mg x = some (.ref C)) (hr : Room j X.A) (hx : Passes (L2N.CX X.prog X.w) X E) (ha : PA X (e :: es) t) (hle : k + 1 ≤ j := by decide) (hg : Gl X x := by rfl) (hdb : (x == ("__debug__" : Str)) = false := by decide)
    (he : starEach (e :: es) X.env = (false, eval e X.env) :: starEach es X.env := by rfl) (hpl : (backTo pos (starEach es X.env)).any (·.1) = false := by rfl) : PE X (.Call (.Name x p_) (e :: es) [] pos) (StX.tMakeR C sp E t) := by
  obtain ⟨f, M, F⟩ := D.ex
  exact StX.pe_makeR M F (hr.mono hle) hg hm hx ha hdb he hpl
theorem ok_law_forty {f C CI : Addr} {fd : FuncData} (F : Fun K "_law_forty" "_law_forty" s_law_forty f fd) (gP : mg "Pipeline" = some (.ref C)) (D : ClsN P w K mg base C 4 (spPipeX K C CI)) : FnOk P w K mg base (L2N.CX P w) 6 f fd ["count", "c"] (spMkN K C CI 40) := by
  refine okN F sc_law_forty (fun vs H Q E h => ?_) (fun cdv A outer s H vs Q E hr h => ?_)
  · obtain ⟨l, cnt, ds, us, rfl, _⟩ := h
    rfl
  · obtain ⟨l, cnt, ds, us, rfl, hl, hn, R⟩ := h
    have use := R.use
    clear R
    obtain ⟨u0, us0, e0, z0⟩ := len_succ hn
    subst e0
    obtain ⟨u1, us1, e1, z1⟩ := len_succ z0
    subst e1
    obtain ⟨u2, us2, e2, z2⟩ := len_succ z1
    subst e2
    obtain ⟨u3, us3, e3, z3⟩ := len_succ z2
    subst e3
    obtain ⟨u4, us4, e4, z4⟩ := len_succ z3
    subst e4
    obtain ⟨u5, us5, e5, z5⟩ := len_succ z4
    subst e5
    obtain ⟨u6, us6, e6, z6⟩ := len_succ z5
    subst e6
    obtain ⟨u7, us7, e7, z7⟩ := len_succ z6
    subst e7
    obtain ⟨u8, us8, e8, z8⟩ := len_succ z7
    subst e8
    obtain ⟨u9, us9, e9, z9⟩ := len_succ z8
    subst e9
    obtain ⟨u10, us10, e10, z10⟩ := len_succ z9
    subst e10
    obtain ⟨u11, us11, e11, z11⟩ := len_succ z10
    subst e11
    obtain ⟨u12, us12, e12, z12⟩ := len_succ z11
    subst e12
    obtain ⟨u13, us13, e13, z13⟩ := len_succ z12
    subst e13
    obtain ⟨u14, us14, e14, z14⟩ := len_succ z13
    subst e14
    obtain ⟨u15, us15, e15, z15⟩ := len_succ z14
    subst e15
    obtain ⟨u16, us16, e16, z16⟩ := len_succ z15
    subst e16
    obtain ⟨u17, us17, e17, z17⟩ := len_succ z16
    subst e17
    obtain ⟨u18, us18, e18, z18⟩ := len_succ z17
    subst e18
    obtain ⟨u19, us19, e19, z19⟩ := len_succ z18
    subst e19
    obtain ⟨u20, us20, e20, z20⟩ := len_succ z19
    subst e20
    obtain ⟨u21, us21, e21, z21⟩ := len_succ z20
    subst e21
    obtain ⟨u22, us22, e22, z22⟩ := len_succ z21
    subst e22
    obtain ⟨u23, us23, e23, z23⟩ := len_succ z22
    subst e23
    obtain ⟨u24, us24, e24, z24⟩ := len_succ z23
    subst e24
    obtain ⟨u25, us25, e25, z25⟩ := len_succ z24
    subst e25
    obtain ⟨u26, us26, e26, z26⟩ := len_succ z25
    subst e26
    obtain ⟨u27, us27, e27, z27⟩ := len_succ z26
    subst e27
    obtain ⟨u28, us28, e28, z28⟩ := len_succ z27
    subst e28
    obtain ⟨u29, us29, e29, z29⟩ := len_succ z28
    subst e29
    obtain ⟨u30, us30, e30, z30⟩ := len_succ z29
    subst e30
    obtain ⟨u31, us31, e31, z31⟩ := len_succ z30
    subst e31
    obtain ⟨u32, us32, e32, z32⟩ := len_succ z31
    subst e32
    obtain ⟨u33, us33, e33, z33⟩ := len_succ z32
    subst e33
    obtain ⟨u34, us34, e34, z34⟩ := len_succ z33
    subst e34
    obtain ⟨u35, us35, e35, z35⟩ := len_succ z34
    subst e35
    obtain ⟨u36, us36, e36, z36⟩ := len_succ z35
    subst e36
    obtain ⟨u37, us37, e37, z37⟩ := len_succ z36
    subst e37
    obtain ⟨u38, us38, e38, z38⟩ := len_succ z37
    subst e38
    obtain ⟨u39, us39, e39, z39⟩ := len_succ z38
    subst e39
    obtain rfl := List.length_eq_zero_iff.mp z39
    refine ⟨_, pss_one (ps_ret (pe_ccn D gP hr psEn (pa_cons (pv 0) (pa_cons (pe_ix ix_list (pv 1) pe_int (fun _ _ => rfl)) (pa_cons (pe_ix ix_list (pv 1) pe_int (fun _ _ => rfl)) (pa_cons (pe_ix ix_list (pv 1) pe_int (fun _ _ => rfl)) (pa_cons (pe_ix ix_list (pv 1) pe_int (fun _ _ => rfl)) (pa_cons (pe_ix ix_list (pv 1) pe_int (fun _ _ => rfl)) (pa_cons (pe_ix ix_list (pv 1) pe_int (fun _ _ => rfl)) (pa_cons (pe_ix ix_list (pv 1) pe_int (fun _ _ => rfl)) (pa_cons (pe_ix ix_list (pv 1) pe_int (fun _ _ => rfl)) (pa_cons (pe_ix ix_list (pv 1) pe_int (fun _ _ => rfl)) (pa_cons (pe_ix ix_list (pv 1) pe_int (fun _ _ => rfl)) (pa_cons (pe_ix ix_list (pv 1) pe_int (fun _ _ => rfl)) (pa_cons (pe_ix ix_list (pv 1) pe_int (fun _ _ => rfl)) (pa_cons (pe_ix ix_list (pv 1) pe_int (fun _ _ => rfl)) (pa_cons (pe_ix ix_list (pv 1) pe_int (fun _ _ => rfl)) (pa_cons (pe_ix ix_list (pv 1) pe_int (fun _ _ => rfl)) (pa_cons (pe_ix ix_list (pv 1) pe_int (fun _ _ => rfl)) (pa_cons (pe_ix ix_list (pv 1) pe_int (fun _ _ => rfl)) (pa_cons (pe_ix ix_list (pv 1) pe_int (fun _ _ => rfl)) (pa_cons (pe_ix ix_list (pv 1) pe_int (fun _ _ => rfl)) (pa_cons (pe_ix ix_list (pv 1) pe_int (fun _ _ => rfl)) (pa_cons (pe_ix ix_list (pv 1) pe_int (fun _ _ => rfl)) (pa_cons (pe_ix ix_list (pv 1) pe_int (fun _ _ => rfl)) (pa_cons (pe_ix ix_list (pv 1) pe_int (fun _ _ => rfl)) (pa_cons (pe_ix ix_list (pv 1) pe_int (fun _ _ => rfl)) (pa_cons (pe_ix ix_list (pv 1) pe_int (fun _ _ => rfl)) (pa_cons (pe_ix ix_list (pv 1) pe_int (fun _ _ => rfl)) (pa_cons (pe_ix ix_list (pv 1) pe_int (fun _ _ => rfl)) (pa_cons (pe_ix ix_list (pv 1) pe_int (fun _ _ => rfl)) (pa_cons (pe_ix ix_list (pv 1) pe_int (fun _ _ => rfl)) (pa_cons (pe_ix ix_list (pv 1) pe_int (fun _ _ => rfl)) (pa_cons (pe_ix ix_list (pv 1) pe_int (fun _ _ => rfl)) (pa_cons (pe_ix ix_list (pv 1) pe_int (fun _ _ => rfl)) (pa_cons (pe_ix ix_list (pv 1) pe_int (fun _ _ => rfl)) (pa_cons (pe_ix ix_list (pv 1) pe_int (fun _ _ => rfl)) (pa_cons (pe_ix ix_list (pv 1) pe_int (fun _ _ => rfl)) (pa_cons (pe_ix ix_list (pv 1) pe_int (fun _ _ => rfl)) (pa_cons (pe_ix ix_list (pv 1) pe_int (fun _ _ => rfl)) (pa_cons (pe_ix ix_list (pv 1) pe_int (fun _ _ => rfl)) (pa_cons (pe_ix ix_list (pv 1) pe_int (fun _ _ => rfl)) (pa_cons (pe_ix ix_list (pv 1) pe_int (fun _ _ => rfl)) pa_nil))))))))))))))))))))))))))))))))))))))))))), ?_⟩
    exact ⟨_, rfl, _, rfl, l, _, _, _, rfl, rfl, SqL.of hl, atI_nat (j := 0) rfl, _, rfl, l, _, _, _, rfl, rfl, SqL.of hl, atI_nat (j := 1) rfl, _, rfl, l, _, _, _, rfl, rfl, SqL.of hl, atI_nat (j := 2) rfl, _, rfl, l, _, _, _, rfl, rfl, SqL.of hl, atI_nat (j := 3) rfl, _, rfl, l, _, _, _, rfl, rfl, SqL.of hl, atI_nat (j := 4) rfl, _, rfl, l, _, _, _, rfl, rfl, SqL.of hl, atI_nat (j := 5) rfl, _, rfl, l, _, _, _, rfl, rfl, SqL.of hl, atI_nat (j := 6) rfl, _, rfl, l, _, _, _, rfl, rfl, SqL.of hl, atI_nat (j := 7) rfl, _, rfl, l, _, _, _, rfl, rfl, SqL.of hl, atI_nat (j := 8) rfl, _, rfl, l, _, _, _, rfl, rfl, SqL.of hl, atI_nat (j := 9) rfl, _, rfl, l, _, _, _, rfl, rfl, SqL.of hl, atI_nat (j := 10) rfl, _, rfl, l, _, _, _, rfl, rfl, SqL.of hl, atI_nat (j := 11) rfl, _, rfl, l, _, _, _, rfl, rfl, SqL.of hl, atI_nat (j := 12) rfl, _, rfl, l, _, _, _, rfl, rfl, SqL.of hl, atI_nat (j := 13) rfl, _, rfl, l, _, _, _, rfl, rfl, SqL.of hl, atI_nat (j := 14) rfl, _, rfl, l, _, _, _, rfl, rfl, SqL.of hl, atI_nat (j := 15) rfl, _, rfl, l, _, _, _, rfl, rfl, SqL.of hl, atI_nat (j := 16) rfl, _, rfl, l, _, _, _, rfl, rfl, SqL.of hl, atI_nat (j := 17) rfl, _, rfl, l, _, _, _, rfl, rfl, SqL.of hl, atI_nat (j := 18) rfl, _, rfl, l, _, _, _, rfl, rfl, SqL.of hl, atI_nat (j := 19) rfl, _, rfl, l, _, _, _, rfl, rfl, SqL.of hl, atI_nat (j := 20) rfl, _, rfl, l, _, _, _, rfl, rfl, SqL.of hl, atI_nat (j := 21) rfl, _, rfl, l, _, _, _, rfl, rfl, SqL.of hl, atI_nat (j := 22) rfl, _, rfl, l, _, _, _, rfl, rfl, SqL.of hl, atI_nat (j := 23) rfl, _, rfl, l, _, _, _, rfl, rfl, SqL.of hl, atI_nat (j := 24) rfl, _, rfl, l, _, _, _, rfl, rfl, SqL.of hl, atI_nat (j := 25) rfl, _, rfl, l, _, _, _, rfl, rfl, SqL.of hl, atI_nat (j := 26) rfl, _, rfl, l, _, _, _, rfl, rfl, SqL.of hl, atI_nat (j := 27) rfl, _, rfl, l, _, _, _, rfl, rfl, SqL.of hl, atI_nat (j := 28) rfl, _, rfl, l, _, _, _, rfl, rfl, SqL.of hl, atI_nat (j := 29) rfl, _, rfl, l, _, _, _, rfl, rfl, SqL.of hl, atI_nat (j := 30) rfl, _, rfl, l, _, _, _, rfl, rfl, SqL.of hl, atI_nat (j := 31) rfl, _, rfl, l, _, _, _, rfl, rfl, SqL.of hl, atI_nat (j := 32) rfl, _, rfl, l, _, _, _, rfl, rfl, SqL.of hl, atI_nat (j := 33) rfl, _, rfl, l, _, _, _, rfl, rfl, SqL.of hl, atI_nat (j := 34) rfl, _, rfl, l, _, _, _, rfl, rfl, SqL.of hl, atI_nat (j := 35) rfl, _, rfl, l, _, _, _, rfl, rfl, SqL.of hl, atI_nat (j := 36) rfl, _, rfl, l, _, _, _, rfl, rfl, SqL.of hl, atI_nat (j := 37) rfl, _, rfl, l, _, _, _, rfl, rfl, SqL.of hl, atI_nat (j := 38) rfl, _, rfl, l, _, _, _, rfl, rfl, SqL.of hl, atI_nat (j := 39) rfl, use⟩
end
end WC

set_option maxHeartbeats 16000000
namespace WC
open PySem PySem.Spec PyProof.Rows L2 L2H
section
variable {P : Program} {w : World} {K : PySem.W.Frag} {mg : Str → Option Value} {base : Heap}
theorem ok_law_full {f C CI : Addr} {fd : FuncData} (F : Fun K "_law_full" "_law_full" s_law_full f fd) (gP : mg "Pipeline" = some (.ref C)) (D : ClsN P w K mg base C 4 (spPipeX K C CI)) : FnOk P w K mg base (L2N.CX P w) 6 f fd ["count", "c"] (spMkN K C CI 120) := by
  refine okN F sc_law_full (fun vs H Q E h => ?_) (fun cdv A outer s H vs Q E hr h => ?_)
  · obtain ⟨l, cnt, ds, us, rfl, _⟩ := h
    rfl
  · obtain ⟨l, cnt, ds, us, rfl, hl, hn, R⟩ := h
    have use := R.use
    clear R
    obtain ⟨u0, us0, e0, z0⟩ := len_succ hn
    subst e0
    obtain ⟨u1, us1, e1, z1⟩ := len_succ z0
    subst e1
    obtain ⟨u2, us2, e2, z2⟩ := len_succ z1
    subst e2
    obtain ⟨u3, us3, e3, z3⟩ := len_succ z2
    subst e3
    obtain ⟨u4, us4, e4, z4⟩ := len_succ z3
    subst e4
    obtain ⟨u5, us5, e5, z5⟩ := len_succ z4
    subst e5
    obtain ⟨u6, us6, e6, z6⟩ := len_succ z5
    subst e6
    obtain ⟨u7, us7, e7, z7⟩ := len_succ z6
    subst e7
    obtain ⟨u8, us8, e8, z8⟩ := len_succ z7
    subst e8
    obtain ⟨u9, us9, e9, z9⟩ := len_succ z8
    subst e9
    obtain ⟨u10, us10, e10, z10⟩ := len_succ z9
    subst e10
    obtain ⟨u11, us11, e11, z11⟩ := len_succ z10
    subst e11
    obtain ⟨u12, us12, e12, z12⟩ := len_succ z11
    subst e12
    obtain ⟨u13, us13, e13, z13⟩ := len_succ z12
    subst e13
    obtain ⟨u14, us14, e14, z14⟩ := len_succ z13
    subst e14
    obtain ⟨u15, us15, e15, z15⟩ := len_succ z14
    subst e15
    obtain ⟨u16, us16, e16, z16⟩ := len_succ z15
    subst e16
    obtain ⟨u17, us17, e17, z17⟩ := len_succ z16
    subst e17
    obtain ⟨u18, us18, e18, z18⟩ := len_succ z17
    subst e18
    obtain ⟨u19, us19, e19, z19⟩ := len_succ z18
    subst e19
    obtain ⟨u20, us20, e20, z20⟩ := len_succ z19
    subst e20
    obtain ⟨u21, us21, e21, z21⟩ := len_succ z20
    subst e21
    obtain ⟨u22, us22, e22, z22⟩ := len_succ z21
    subst e22
    obtain ⟨u23, us23, e23, z23⟩ := len_succ z22
    subst e23
    obtain ⟨u24, us24, e24, z24⟩ := len_succ z23
    subst e24
    obtain ⟨u25, us25, e25, z25⟩ := len_succ z24
    subst e25
    obtain ⟨u26, us26, e26, z26⟩ := len_succ z25
    subst e26
    obtain ⟨u27, us27, e27, z27⟩ := len_succ z26
    subst e27
    obtain ⟨u28, us28, e28, z28⟩ := len_succ z27
    subst e28
    obtain ⟨u29, us29, e29, z29⟩ := len_succ z28
    subst e29
    obtain ⟨u30, us30, e30, z30⟩ := len_succ z29
    subst e30
    obtain ⟨u31, us31, e31, z31⟩ := len_succ z30
    subst e31
    obtain ⟨u32, us32, e32, z32⟩ := len_succ z31
    subst e32
    obtain ⟨u33, us33, e33, z33⟩ := len_succ z32
    subst e33
    obtain ⟨u34, us34, e34, z34⟩ := len_succ z33
    subst e34
    obtain ⟨u35, us35, e35, z35⟩ := len_succ z34
    subst e35
    obtain ⟨u36, us36, e36, z36⟩ := len_succ z35
    subst e36
    obtain ⟨u37, us37, e37, z37⟩ := len_succ z36
    subst e37
    obtain ⟨u38, us38, e38, z38⟩ := len_succ z37
    subst e38
    obtain ⟨u39, us39, e39, z39⟩ := len_succ z38
    subst e39
    obtain ⟨u40, us40, e40, z40⟩ := len_succ z39
    subst e40
    obtain ⟨u41, us41, e41, z41⟩ := len_succ z40
    subst e41
    obtain ⟨u42, us42, e42, z42⟩ := len_succ z41
    subst e42
    obtain ⟨u43, us43, e43, z43⟩ := len_succ z42
    subst e43
    obtain ⟨u44, us44, e44, z44⟩ := len_succ z43
    subst e44
    obtain ⟨u45, us45, e45, z45⟩ := len_succ z44
    subst e45
    obtain ⟨u46, us46, e46, z46⟩ := len_succ z45
    subst e46
    obtain ⟨u47, us47, e47, z47⟩ := len_succ z46
    subst e47
    obtain ⟨u48, us48, e48, z48⟩ := len_succ z47
    subst e48
    obtain ⟨u49, us49, e49, z49⟩ := len_succ z48
    subst e49
    obtain ⟨u50, us50, e50, z50⟩ := len_succ z49
    subst e50
    obtain ⟨u51, us51, e51, z51⟩ := len_succ z50
    subst e51
    obtain ⟨u52, us52, e52, z52⟩ := len_succ z51
    subst e52
    obtain ⟨u53, us53, e53, z53⟩ := len_succ z52
    subst e53
    obtain ⟨u54, us54, e54, z54⟩ := len_succ z53
    subst e54
    obtain ⟨u55, us55, e55, z55⟩ := len_succ z54
    subst e55
    obtain ⟨u56, us56, e56, z56⟩ := len_succ z55
    subst e56
    obtain ⟨u57, us57, e57, z57⟩ := len_succ z56
    subst e57
    obtain ⟨u58, us58, e58, z58⟩ := len_succ z57
    subst e58
    obtain ⟨u59, us59, e59, z59⟩ := len_succ z58
    subst e59
    obtain ⟨u60, us60, e60, z60⟩ := len_succ z59
    subst e60
    obtain ⟨u61, us61, e61, z61⟩ := len_succ z60
    subst e61
    obtain ⟨u62, us62, e62, z62⟩ := len_succ z61
    subst e62
    obtain ⟨u63, us63, e63, z63⟩ := len_succ z62
    subst e63
    obtain ⟨u64, us64, e64, z64⟩ := len_succ z63
    subst e64
    obtain ⟨u65, us65, e65, z65⟩ := len_succ z64
    subst e65
    obtain ⟨u66, us66, e66, z66⟩ := len_succ z65
    subst e66
    obtain ⟨u67, us67, e67, z67⟩ := len_succ z66
    subst e67
    obtain ⟨u68, us68, e68, z68⟩ := len_succ z67
    subst e68
    obtain ⟨u69, us69, e69, z69⟩ := len_succ z68
    subst e69
    obtain ⟨u70, us70, e70, z70⟩ := len_succ z69
    subst e70
    obtain ⟨u71, us71, e71, z71⟩ := len_succ z70
    subst e71
    obtain ⟨u72, us72, e72, z72⟩ := len_succ z71
    subst e72
    obtain ⟨u73, us73, e73, z73⟩ := len_succ z72
    subst e73
    obtain ⟨u74, us74, e74, z74⟩ := len_succ z73
    subst e74
    obtain ⟨u75, us75, e75, z75⟩ := len_succ z74
    subst e75
    obtain ⟨u76, us76, e76, z76⟩ := len_succ z75
    subst e76
    obtain ⟨u77, us77, e77, z77⟩ := len_succ z76
    subst e77
    obtain ⟨u78, us78, e78, z78⟩ := len_succ z77
    subst e78
    obtain ⟨u79, us79, e79, z79⟩ := len_succ z78
    subst e79
    obtain ⟨u80, us80, e80, z80⟩ := len_succ z79
    subst e80
    obtain ⟨u81, us81, e81, z81⟩ := len_succ z80
    subst e81
    obtain ⟨u82, us82, e82, z82⟩ := len_succ z81
    subst e82
    obtain ⟨u83, us83, e83, z83⟩ := len_succ z82
    subst e83
    obtain ⟨u84, us84, e84, z84⟩ := len_succ z83
    subst e84
    obtain ⟨u85, us85, e85, z85⟩ := len_succ z84
    subst e85
    obtain ⟨u86, us86, e86, z86⟩ := len_succ z85
    subst e86
    obtain ⟨u87, us87, e87, z87⟩ := len_succ z86
    subst e87
    obtain ⟨u88, us88, e88, z88⟩ := len_succ z87
    subst e88
    obtain ⟨u89, us89, e89, z89⟩ := len_succ z88
    subst e89
    obtain ⟨u90, us90, e90, z90⟩ := len_succ z89
    subst e90
    obtain ⟨u91, us91, e91, z91⟩ := len_succ z90
    subst e91
    obtain ⟨u92, us92, e92, z92⟩ := len_succ z91
    subst e92
    obtain ⟨u93, us93, e93, z93⟩ := len_succ z92
    subst e93
    obtain ⟨u94, us94, e94, z94⟩ := len_succ z93
    subst e94
    obtain ⟨u95, us95, e95, z95⟩ := len_succ z94
    subst e95
    obtain ⟨u96, us96, e96, z96⟩ := len_succ z95
    subst e96
    obtain ⟨u97, us97, e97, z97⟩ := len_succ z96
    subst e97
    obtain ⟨u98, us98, e98, z98⟩ := len_succ z97
    subst e98
    obtain ⟨u99, us99, e99, z99⟩ := len_succ z98
    subst e99
    obtain ⟨u100, us100, e100, z100⟩ := len_succ z99
    subst e100
    obtain ⟨u101, us101, e101, z101⟩ := len_succ z100
    subst e101
    obtain ⟨u102, us102, e102, z102⟩ := len_succ z101
    subst e102
    obtain ⟨u103, us103, e103, z103⟩ := len_succ z102
    subst e103
    obtain ⟨u104, us104, e104, z104⟩ := len_succ z103
    subst e104
    obtain ⟨u105, us105, e105, z105⟩ := len_succ z104
    subst e105
    obtain ⟨u106, us106, e106, z106⟩ := len_succ z105
    subst e106
    obtain ⟨u107, us107, e107, z107⟩ := len_succ z106
    subst e107
    obtain ⟨u108, us108, e108, z108⟩ := len_succ z107
    subst e108
    obtain ⟨u109, us109, e109, z109⟩ := len_succ z108
    subst e109
    obtain ⟨u110, us110, e110, z110⟩ := len_succ z109
    subst e110
    obtain ⟨u111, us111, e111, z111⟩ := len_succ z110
    subst e111
    obtain ⟨u112, us112, e112, z112⟩ := len_succ z111
    subst e112
    obtain ⟨u113, us113, e113, z113⟩ := len_succ z112
    subst e113
    obtain ⟨u114, us114, e114, z114⟩ := len_succ z113
    subst e114
    obtain ⟨u115, us115, e115, z115⟩ := len_succ z114
    subst e115
    obtain ⟨u116, us116, e116, z116⟩ := len_succ z115
    subst e116
    obtain ⟨u117, us117, e117, z117⟩ := len_succ z116
    subst e117
    obtain ⟨u118, us118, e118, z118⟩ := len_succ z117
    subst e118
    obtain ⟨u119, us119, e119, z119⟩ := len_succ z118
    subst e119
    obtain rfl := List.length_eq_zero_iff.mp z119
    refine ⟨_, pss_one (ps_ret (pe_ccn D gP hr psEn (pa_cons (pv 0) (pa_cons (pe_ix ix_list (pv 1) pe_int (fun _ _ => rfl)) (pa_cons (pe_ix ix_list (pv 1) pe_int (fun _ _ => rfl)) (pa_cons (pe_ix ix_list (pv 1) pe_int (fun _ _ => rfl)) (pa_cons (pe_ix ix_list (pv 1) pe_int (fun _ _ => rfl)) (pa_cons (pe_ix ix_list (pv 1) pe_int (fun _ _ => rfl)) (pa_cons (pe_ix ix_list (pv 1) pe_int (fun _ _ => rfl)) (pa_cons (pe_ix ix_list (pv 1) pe_int (fun _ _ => rfl)) (pa_cons (pe_ix ix_list (pv 1) pe_int (fun _ _ => rfl)) (pa_cons (pe_ix ix_list (pv 1) pe_int (fun _ _ => rfl)) (pa_cons (pe_ix ix_list (pv 1) pe_int (fun _ _ => rfl)) (pa_cons (pe_ix ix_list (pv 1) pe_int (fun _ _ => rfl)) (pa_cons (pe_ix ix_list (pv 1) pe_int (fun _ _ => rfl)) (pa_cons (pe_ix ix_list (pv 1) pe_int (fun _ _ => rfl)) (pa_cons (pe_ix ix_list (pv 1) pe_int (fun _ _ => rfl)) (pa_cons (pe_ix ix_list (pv 1) pe_int (fun _ _ => rfl)) (pa_cons (pe_ix ix_list (pv 1) pe_int (fun _ _ => rfl)) (pa_cons (pe_ix ix_list (pv 1) pe_int (fun _ _ => rfl)) (pa_cons (pe_ix ix_list (pv 1) pe_int (fun _ _ => rfl)) (pa_cons (pe_ix ix_list (pv 1) pe_int (fun _ _ => rfl)) (pa_cons (pe_ix ix_list (pv 1) pe_int (fun _ _ => rfl)) (pa_cons (pe_ix ix_list (pv 1) pe_int (fun _ _ => rfl)) (pa_cons (pe_ix ix_list (pv 1) pe_int (fun _ _ => rfl)) (pa_cons (pe_ix ix_list (pv 1) pe_int (fun _ _ => rfl)) (pa_cons (pe_ix ix_list (pv 1) pe_int (fun _ _ => rfl)) (pa_cons (pe_ix ix_list (pv 1) pe_int (fun _ _ => rfl)) (pa_cons (pe_ix ix_list (pv 1) pe_int (fun _ _ => rfl)) (pa_cons (pe_ix ix_list (pv 1) pe_int (fun _ _ => rfl)) (pa_cons (pe_ix ix_list (pv 1) pe_int (fun _ _ => rfl)) (pa_cons (pe_ix ix_list (pv 1) pe_int (fun _ _ => rfl)) (pa_cons (pe_ix ix_list (pv 1) pe_int (fun _ _ => rfl)) (pa_cons (pe_ix ix_list (pv 1) pe_int (fun _ _ => rfl)) (pa_cons (pe_ix ix_list (pv 1) pe_int (fun _ _ => rfl)) (pa_cons (pe_ix ix_list (pv 1) pe_int (fun _ _ => rfl)) (pa_cons (pe_ix ix_list (pv 1) pe_int (fun _ _ => rfl)) (pa_cons (pe_ix ix_list (pv 1) pe_int (fun _ _ => rfl)) (pa_cons (pe_ix ix_list (pv 1) pe_int (fun _ _ => rfl)) (pa_cons (pe_ix ix_list (pv 1) pe_int (fun _ _ => rfl)) (pa_cons (pe_ix ix_list (pv 1) pe_int (fun _ _ => rfl)) (pa_cons (pe_ix ix_list (pv 1) pe_int (fun _ _ => rfl)) (pa_cons (pe_ix ix_list (pv 1) pe_int (fun _ _ => rfl)) (pa_cons (pe_ix ix_list (pv 1) pe_int (fun _ _ => rfl)) (pa_cons (pe_ix ix_list (pv 1) pe_int (fun _ _ => rfl)) (pa_cons (pe_ix ix_list (pv 1) pe_int (fun _ _ => rfl)) (pa_cons (pe_ix ix_list (pv 1) pe_int (fun _ _ => rfl)) (pa_cons (pe_ix ix_list (pv 1) pe_int (fun _ _ => rfl)) (pa_cons (pe_ix ix_list (pv 1) pe_int (fun _ _ => rfl)) (pa_cons (pe_ix ix_list (pv 1) pe_int (fun _ _ => rfl)) (pa_cons (pe_ix ix_list (pv 1) pe_int (fun _ _ => rfl)) (pa_cons (pe_ix ix_list (pv 1) pe_int (fun _ _ => rfl)) (pa_cons (pe_ix ix_list (pv 1) pe_int (fun _ _ => rfl)) (pa_cons (pe_ix ix_list (pv 1) pe_int (fun _ _ => rfl)) (pa_cons (pe_ix ix_list (pv 1) pe_int (fun _ _ => rfl)) (pa_cons (pe_ix ix_list (pv 1) pe_int (fun _ _ => rfl)) (pa_cons (pe_ix ix_list (pv 1) pe_int (fun _ _ => rfl)) (pa_cons (pe_ix ix_list (pv 1) pe_int (fun _ _ => rfl)) (pa_cons (pe_ix ix_list (pv 1) pe_int (fun _ _ => rfl)) (pa_cons (pe_ix ix_list (pv 1) pe_int (fun _ _ => rfl)) (pa_cons (pe_ix ix_list (pv 1) pe_int (fun _ _ => rfl)) (pa_cons (pe_ix ix_list (pv 1) pe_int (fun _ _ => rfl)) (pa_cons (pe_ix ix_list (pv 1) pe_int (fun _ _ => rfl)) (pa_cons (pe_ix ix_list (pv 1) pe_int (fun _ _ => rfl)) (pa_cons (pe_ix ix_list (pv 1) pe_int (fun _ _ => rfl)) (pa_cons (pe_ix ix_list (pv 1) pe_int (fun _ _ => rfl)) (pa_cons (pe_ix ix_list (pv 1) pe_int (fun _ _ => rfl)) (pa_cons (pe_ix ix_list (pv 1) pe_int (fun _ _ => rfl)) (pa_cons (pe_ix ix_list (pv 1) pe_int (fun _ _ => rfl)) (pa_cons (pe_ix ix_list (pv 1) pe_int (fun _ _ => rfl)) (pa_cons (pe_ix ix_list (pv 1) pe_int (fun _ _ => rfl)) (pa_cons (pe_ix ix_list (pv 1) pe_int (fun _ _ => rfl)) (pa_cons (pe_ix ix_list (pv 1) pe_int (fun _ _ => rfl)) (pa_cons (pe_ix ix_list (pv 1) pe_int (fun _ _ => rfl)) (pa_cons (pe_ix ix_list (pv 1) pe_int (fun _ _ => rfl)) (pa_cons (pe_ix ix_list (pv 1) pe_int (fun _ _ => rfl)) (pa_cons (pe_ix ix_list (pv 1) pe_int (fun _ _ => rfl)) (pa_cons (pe_ix ix_list (pv 1) pe_int (fun _ _ => rfl)) (pa_cons (pe_ix ix_list (pv 1) pe_int (fun _ _ => rfl)) (pa_cons (pe_ix ix_list (pv 1) pe_int (fun _ _ => rfl)) (pa_cons (pe_ix ix_list (pv 1) pe_int (fun _ _ => rfl)) (pa_cons (pe_ix ix_list (pv 1) pe_int (fun _ _ => rfl)) (pa_cons (pe_ix ix_list (pv 1) pe_int (fun _ _ => rfl)) (pa_cons (pe_ix ix_list (pv 1) pe_int (fun _ _ => rfl)) (pa_cons (pe_ix ix_list (pv 1) pe_int (fun _ _ => rfl)) (pa_cons (pe_ix ix_list (pv 1) pe_int (fun _ _ => rfl)) (pa_cons (pe_ix ix_list (pv 1) pe_int (fun _ _ => rfl)) (pa_cons (pe_ix ix_list (pv 1) pe_int (fun _ _ => rfl)) (pa_cons (pe_ix ix_list (pv 1) pe_int (fun _ _ => rfl)) (pa_cons (pe_ix ix_list (pv 1) pe_int (fun _ _ => rfl)) (pa_cons (pe_ix ix_list (pv 1) pe_int (fun _ _ => rfl)) (pa_cons (pe_ix ix_list (pv 1) pe_int (fun _ _ => rfl)) (pa_cons (pe_ix ix_list (pv 1) pe_int (fun _ _ => rfl)) (pa_cons (pe_ix ix_list (pv 1) pe_int (fun _ _ => rfl)) (pa_cons (pe_ix ix_list (pv 1) pe_int (fun _ _ => rfl)) (pa_cons (pe_ix ix_list (pv 1) pe_int (fun _ _ => rfl)) (pa_cons (pe_ix ix_list (pv 1) pe_int (fun _ _ => rfl)) (pa_cons (pe_ix ix_list (pv 1) pe_int (fun _ _ => rfl)) (pa_cons (pe_ix ix_list (pv 1) pe_int (fun _ _ => rfl)) (pa_cons (pe_ix ix_list (pv 1) pe_int (fun _ _ => rfl)) (pa_cons (pe_ix ix_list (pv 1) pe_int (fun _ _ => rfl)) (pa_cons (pe_ix ix_list (pv 1) pe_int (fun _ _ => rfl)) (pa_cons (pe_ix ix_list (pv 1) pe_int (fun _ _ => rfl)) (pa_cons (pe_ix ix_list (pv 1) pe_int (fun _ _ => rfl)) (pa_cons (pe_ix ix_list (pv 1) pe_int (fun _ _ => rfl)) (pa_cons (pe_ix ix_list (pv 1) pe_int (fun _ _ => rfl)) (pa_cons (pe_ix ix_list (pv 1) pe_int (fun _ _ => rfl)) (pa_cons (pe_ix ix_list (pv 1) pe_int (fun _ _ => rfl)) (pa_cons (pe_ix ix_list (pv 1) pe_int (fun _ _ => rfl)) (pa_cons (pe_ix ix_list (pv 1) pe_int (fun _ _ => rfl)) (pa_cons (pe_ix ix_list (pv 1) pe_int (fun _ _ => rfl)) (pa_cons (pe_ix ix_list (pv 1) pe_int (fun _ _ => rfl)) (pa_cons (pe_ix ix_list (pv 1) pe_int (fun _ _ => rfl)) (pa_cons (pe_ix ix_list (pv 1) pe_int (fun _ _ => rfl)) (pa_cons (pe_ix ix_list (pv 1) pe_int (fun _ _ => rfl)) (pa_cons (pe_ix ix_list (pv 1) pe_int (fun _ _ => rfl)) (pa_cons (pe_ix ix_list (pv 1) pe_int (fun _ _ => rfl)) (pa_cons (pe_ix ix_list (pv 1) pe_int (fun _ _ => rfl)) (pa_cons (pe_ix ix_list (pv 1) pe_int (fun _ _ => rfl)) (pa_cons (pe_ix ix_list (pv 1) pe_int (fun _ _ => rfl)) (pa_cons (pe_ix ix_list (pv 1) pe_int (fun _ _ => rfl)) (pa_cons (pe_ix ix_list (pv 1) pe_int (fun _ _ => rfl)) (pa_cons (pe_ix ix_list (pv 1) pe_int (fun _ _ => rfl)) pa_nil))))))))))))))))))))))))))))))))))))))))))))))))))))))))))))))))))))))))))))))))))))))))))))))))))))))))))))))))))))))))))), ?_⟩
    exact ⟨_, rfl, _, rfl, l, _, _, _, rfl, rfl, SqL.of hl, atI_nat (j := 0) rfl, _, rfl, l, _, _, _, rfl, rfl, SqL.of hl, atI_nat (j := 1) rfl, _, rfl, l, _, _, _, rfl, rfl, SqL.of hl, atI_nat (j := 2) rfl, _, rfl, l, _, _, _, rfl, rfl, SqL.of hl, atI_nat (j := 3) rfl, _, rfl, l, _, _, _, rfl, rfl, SqL.of hl, atI_nat (j := 4) rfl, _, rfl, l, _, _, _, rfl, rfl, SqL.of hl, atI_nat (j := 5) rfl, _, rfl, l, _, _, _, rfl, rfl, SqL.of hl, atI_nat (j := 6) rfl, _, rfl, l, _, _, _, rfl, rfl, SqL.of hl, atI_nat (j := 7) rfl, _, rfl, l, _, _, _, rfl, rfl, SqL.of hl, atI_nat (j := 8) rfl, _, rfl, l, _, _, _, rfl, rfl, SqL.of hl, atI_nat (j := 9) rfl, _, rfl, l, _, _, _, rfl, rfl, SqL.of hl, atI_nat (j := 10) rfl, _, rfl, l, _, _, _, rfl, rfl, SqL.of hl, atI_nat (j := 11) rfl, _, rfl, l, _, _, _, rfl, rfl, SqL.of hl, atI_nat (j := 12) rfl, _, rfl, l, _, _, _, rfl, rfl, SqL.of hl, atI_nat (j := 13) rfl, _, rfl, l, _, _, _, rfl, rfl, SqL.of hl, atI_nat (j := 14) rfl, _, rfl, l, _, _, _, rfl, rfl, SqL.of hl, atI_nat (j := 15) rfl, _, rfl, l, _, _, _, rfl, rfl, SqL.of hl, atI_nat (j := 16) rfl, _, rfl, l, _, _, _, rfl, rfl, SqL.of hl, atI_nat (j := 17) rfl, _, rfl, l, _, _, _, rfl, rfl, SqL.of hl, atI_nat (j := 18) rfl, _, rfl, l, _, _, _, rfl, rfl, SqL.of hl, atI_nat (j := 19) rfl, _, rfl, l, _, _, _, rfl, rfl, SqL.of hl, atI_nat (j := 20) rfl, _, rfl, l, _, _, _, rfl, rfl, SqL.of hl, atI_nat (j := 21) rfl, _, rfl, l, _, _, _, rfl, rfl, SqL.of hl, atI_nat (j := 22) rfl, _, rfl, l, _, _, _, rfl, rfl, SqL.of hl, atI_nat (j := 23) rfl, _, rfl, l, _, _, _, rfl, rfl, SqL.of hl, atI_nat (j := 24) rfl, _, rfl, l, _, _, _, rfl, rfl, SqL.of hl, atI_nat (j := 25) rfl, _, rfl, l, _, _, _, rfl, rfl, SqL.of hl, atI_nat (j := 26) rfl, _, rfl, l, _, _, _, rfl, rfl, SqL.of hl, atI_nat (j := 27) rfl, _, rfl, l, _, _, _, rfl, rfl, SqL.of hl, atI_nat (j := 28) rfl, _, rfl, l, _, _, _, rfl, rfl, SqL.of hl, atI_nat (j := 29) rfl, _, rfl, l, _, _, _, rfl, rfl, SqL.of hl, atI_nat (j := 30) rfl, _, rfl, l, _, _, _, rfl, rfl, SqL.of hl, atI_nat (j := 31) rfl, _, rfl, l, _, _, _, rfl, rfl, SqL.of hl, atI_nat (j := 32) rfl, _, rfl, l, _, _, _, rfl, rfl, SqL.of hl, atI_nat (j := 33) rfl, _, rfl, l, _, _, _, rfl, rfl, SqL.of hl, atI_nat (j := 34) rfl, _, rfl, l, _, _, _, rfl, rfl, SqL.of hl, atI_nat (j := 35) rfl, _, rfl, l, _, _, _, rfl, rfl, SqL.of hl, atI_nat (j := 36) rfl, _, rfl, l, _, _, _, rfl, rfl, SqL.of hl, atI_nat (j := 37) rfl, _, rfl, l, _, _, _, rfl, rfl, SqL.of hl, atI_nat (j := 38) rfl, _, rfl, l, _, _, _, rfl, rfl, SqL.of hl, atI_nat (j := 39) rfl, _, rfl, l, _, _, _, rfl, rfl, SqL.of hl, atI_nat (j := 40) rfl, _, rfl, l, _, _, _, rfl, rfl, SqL.of hl, atI_nat (j := 41) rfl, _, rfl, l, _, _, _, rfl, rfl, SqL.of hl, atI_nat (j := 42) rfl, _, rfl, l, _, _, _, rfl, rfl, SqL.of hl, atI_nat (j := 43) rfl, _, rfl, l, _, _, _, rfl, rfl, SqL.of hl, atI_nat (j := 44) rfl, _, rfl, l, _, _, _, rfl, rfl, SqL.of hl, atI_nat (j := 45) rfl, _, rfl, l, _, _, _, rfl, rfl, SqL.of hl, atI_nat (j := 46) rfl, _, rfl, l, _, _, _, rfl, rfl, SqL.of hl, atI_nat (j := 47) rfl, _, rfl, l, _, _, _, rfl, rfl, SqL.of hl, atI_nat (j := 48) rfl, _, rfl, l, _, _, _, rfl, rfl, SqL.of hl, atI_nat (j := 49) rfl, _, rfl, l, _, _, _, rfl, rfl, SqL.of hl, atI_nat (j := 50) rfl, _, rfl, l, _, _, _, rfl, rfl, SqL.of hl, atI_nat (j := 51) rfl, _, rfl, l, _, _, _, rfl, rfl, SqL.of hl, atI_nat (j := 52) rfl, _, rfl, l, _, _, _, rfl, rfl, SqL.of hl, atI_nat (j := 53) rfl, _, rfl, l, _, _, _, rfl, rfl, SqL.of hl, atI_nat (j := 54) rfl, _, rfl, l, _, _, _, rfl, rfl, SqL.of hl, atI_nat (j := 55) rfl, _, rfl, l, _, _, _, rfl, rfl, SqL.of hl, atI_nat (j := 56) rfl, _, rfl, l, _, _, _, rfl, rfl, SqL.of hl, atI_nat (j := 57) rfl, _, rfl, l, _, _, _, rfl, rfl, SqL.of hl, atI_nat (j := 58) rfl, _, rfl, l, _, _, _, rfl, rfl, SqL.of hl, atI_nat (j := 59) rfl, _, rfl, l, _, _, _, rfl, rfl, SqL.of hl, atI_nat (j := 60) rfl, _, rfl, l, _, _, _, rfl, rfl, SqL.of hl, atI_nat (j := 61) rfl, _, rfl, l, _, _, _, rfl, rfl, SqL.of hl, atI_nat (j := 62) rfl, _, rfl, l, _, _, _, rfl, rfl, SqL.of hl, atI_nat (j := 63) rfl, _, rfl, l, _, _, _, rfl, rfl, SqL.of hl, atI_nat (j := 64) rfl, _, rfl, l, _, _, _, rfl, rfl, SqL.of hl, atI_nat (j := 65) rfl, _, rfl, l, _, _, _, rfl, rfl, SqL.of hl, atI_nat (j := 66) rfl, _, rfl, l, _, _, _, rfl, rfl, SqL.of hl, atI_nat (j := 67) rfl, _, rfl, l, _, _, _, rfl, rfl, SqL.of hl, atI_nat (j := 68) rfl, _, rfl, l, _, _, _, rfl, rfl, SqL.of hl, atI_nat (j := 69) rfl, _, rfl, l, _, _, _, rfl, rfl, SqL.of hl, atI_nat (j := 70) rfl, _, rfl, l, _, _, _, rfl, rfl, SqL.of hl, atI_nat (j := 71) rfl, _, rfl, l, _, _, _, rfl, rfl, SqL.of hl, atI_nat (j := 72) rfl, _, rfl, l, _, _, _, rfl, rfl, SqL.of hl, atI_nat (j := 73) rfl, _, rfl, l, _, _, _, rfl, rfl, SqL.of hl, atI_nat (j := 74) rfl, _, rfl, l, _, _, _, rfl, rfl, SqL.of hl, atI_nat (j := 75) rfl, _, rfl, l, _, _, _, rfl, rfl, SqL.of hl, atI_nat (j := 76) rfl, _, rfl, l, _, _, _, rfl, rfl, SqL.of hl, atI_nat (j := 77) rfl, _, rfl, l, _, _, _, rfl, rfl, SqL.of hl, atI_nat (j := 78) rfl, _, rfl, l, _, _, _, rfl, rfl, SqL.of hl, atI_nat (j := 79) rfl, _, rfl, l, _, _, _, rfl, rfl, SqL.of hl, atI_nat (j := 80) rfl, _, rfl, l, _, _, _, rfl, rfl, SqL.of hl, atI_nat (j := 81) rfl, _, rfl, l, _, _, _, rfl, rfl, SqL.of hl, atI_nat (j := 82) rfl, _, rfl, l, _, _, _, rfl, rfl, SqL.of hl, atI_nat (j := 83) rfl, _, rfl, l, _, _, _, rfl, rfl, SqL.of hl, atI_nat (j := 84) rfl, _, rfl, l, _, _, _, rfl, rfl, SqL.of hl, atI_nat (j := 85) rfl, _, rfl, l, _, _, _, rfl, rfl, SqL.of hl, atI_nat (j := 86) rfl, _, rfl, l, _, _, _, rfl, rfl, SqL.of hl, atI_nat (j := 87) rfl, _, rfl, l, _, _, _, rfl, rfl, SqL.of hl, atI_nat (j := 88) rfl, _, rfl, l, _, _, _, rfl, rfl, SqL.of hl, atI_nat (j := 89) rfl, _, rfl, l, _, _, _, rfl, rfl, SqL.of hl, atI_nat (j := 90) rfl, _, rfl, l, _, _, _, rfl, rfl, SqL.of hl, atI_nat (j := 91) rfl, _, rfl, l, _, _, _, rfl, rfl, SqL.of hl, atI_nat (j := 92) rfl, _, rfl, l, _, _, _, rfl, rfl, SqL.of hl, atI_nat (j := 93) rfl, _, rfl, l, _, _, _, rfl, rfl, SqL.of hl, atI_nat (j := 94) rfl, _, rfl, l, _, _, _, rfl, rfl, SqL.of hl, atI_nat (j := 95) rfl, _, rfl, l, _, _, _, rfl, rfl, SqL.of hl, atI_nat (j := 96) rfl, _, rfl, l, _, _, _, rfl, rfl, SqL.of hl, atI_nat (j := 97) rfl, _, rfl, l, _, _, _, rfl, rfl, SqL.of hl, atI_nat (j := 98) rfl, _, rfl, l, _, _, _, rfl, rfl, SqL.of hl, atI_nat (j := 99) rfl, _, rfl, l, _, _, _, rfl, rfl, SqL.of hl, atI_nat (j := 100) rfl, _, rfl, l, _, _, _, rfl, rfl, SqL.of hl, atI_nat (j := 101) rfl, _, rfl, l, _, _, _, rfl, rfl, SqL.of hl, atI_nat (j := 102) rfl, _, rfl, l, _, _, _, rfl, rfl, SqL.of hl, atI_nat (j := 103) rfl, _, rfl, l, _, _, _, rfl, rfl, SqL.of hl, atI_nat (j := 104) rfl, _, rfl, l, _, _, _, rfl, rfl, SqL.of hl, atI_nat (j := 105) rfl, _, rfl, l, _, _, _, rfl, rfl, SqL.of hl, atI_nat (j := 106) rfl, _, rfl, l, _, _, _, rfl, rfl, SqL.of hl, atI_nat (j := 107) rfl, _, rfl, l, _, _, _, rfl, rfl, SqL.of hl, atI_nat (j := 108) rfl, _, rfl, l, _, _, _, rfl, rfl, SqL.of hl, atI_nat (j := 109) rfl, _, rfl, l, _, _, _, rfl, rfl, SqL.of hl, atI_nat (j := 110) rfl, _, rfl, l, _, _, _, rfl, rfl, SqL.of hl, atI_nat (j := 111) rfl, _, rfl, l, _, _, _, rfl, rfl, SqL.of hl, atI_nat (j := 112) rfl, _, rfl, l, _, _, _, rfl, rfl, SqL.of hl, atI_nat (j := 113) rfl, _, rfl, l, _, _, _, rfl, rfl, SqL.of hl, atI_nat (j := 114) rfl, _, rfl, l, _, _, _, rfl, rfl, SqL.of hl, atI_nat (j := 115) rfl, _, rfl, l, _, _, _, rfl, rfl, SqL.of hl, atI_nat (j := 116) rfl, _, rfl, l, _, _, _, rfl, rfl, SqL.of hl, atI_nat (j := 117) rfl, _, rfl, l, _, _, _, rfl, rfl, SqL.of hl, atI_nat (j := 118) rfl, _, rfl, l, _, _, _, rfl, rfl, SqL.of hl, atI_nat (j := 119) rfl, use⟩
end
end WC

set_option maxHeartbeats 16000000
namespace WC
open PySem PySem.Spec PyProof.Rows L2 L2H
section
variable {P : Program} {w : World} {K : PySem.W.Frag} {mg : Str → Option Value} {base : Heap}
theorem ok_law_over {f C CI : Addr} {fd : FuncData} (F : Fun K "_law_over" "_law_over" s_law_over f fd) (gP : mg "Pipeline" = some (.ref C)) (D : ClsN P w K mg base C 4 (spPipeX K C CI)) : FnOk P w K mg base (L2N.CX P w) 6 f fd ["count", "c"] (spMkN K C CI 121) := by
  refine okN F sc_law_over (fun vs H Q E h => ?_) (fun cdv A outer s H vs Q E hr h => ?_)
  · obtain ⟨l, cnt, ds, us, rfl, _⟩ := h
    rfl
  · obtain ⟨l, cnt, ds, us, rfl, hl, hn, R⟩ := h
    have use := R.use
    clear R
    obtain ⟨u0, us0, e0, z0⟩ := len_succ hn
    subst e0
    obtain ⟨u1, us1, e1, z1⟩ := len_succ z0
    subst e1
    obtain ⟨u2, us2, e2, z2⟩ := len_succ z1
    subst e2
    obtain ⟨u3, us3, e3, z3⟩ := len_succ z2
    subst e3
    obtain ⟨u4, us4, e4, z4⟩ := len_succ z3
    subst e4
    obtain ⟨u5, us5, e5, z5⟩ := len_succ z4
    subst e5
    obtain ⟨u6, us6, e6, z6⟩ := len_succ z5
    subst e6
    obtain ⟨u7, us7, e7, z7⟩ := len_succ z6
    subst e7
    obtain ⟨u8, us8, e8, z8⟩ := len_succ z7
    subst e8
    obtain ⟨u9, us9, e9, z9⟩ := len_succ z8
    subst e9
    obtain ⟨u10, us10, e10, z10⟩ := len_succ z9
    subst e10
    obtain ⟨u11, us11, e11, z11⟩ := len_succ z10
    subst e11
    obtain ⟨u12, us12, e12, z12⟩ := len_succ z11
    subst e12
    obtain ⟨u13, us13, e13, z13⟩ := len_succ z12
    subst e13
    obtain ⟨u14, us14, e14, z14⟩ := len_succ z13
    subst e14
    obtain ⟨u15, us15, e15, z15⟩ := len_succ z14
    subst e15
    obtain ⟨u16, us16, e16, z16⟩ := len_succ z15
    subst e16
    obtain ⟨u17, us17, e17, z17⟩ := len_succ z16
    subst e17
    obtain ⟨u18, us18, e18, z18⟩ := len_succ z17
    subst e18
    obtain ⟨u19, us19, e19, z19⟩ := len_succ z18
    subst e19
    obtain ⟨u20, us20, e20, z20⟩ := len_succ z19
    subst e20
    obtain ⟨u21, us21, e21, z21⟩ := len_succ z20
    subst e21
    obtain ⟨u22, us22, e22, z22⟩ := len_succ z21
    subst e22
    obtain ⟨u23, us23, e23, z23⟩ := len_succ z22
    subst e23
    obtain ⟨u24, us24, e24, z24⟩ := len_succ z23
    subst e24
    obtain ⟨u25, us25, e25, z25⟩ := len_succ z24
    subst e25
    obtain ⟨u26, us26, e26, z26⟩ := len_succ z25
    subst e26
    obtain ⟨u27, us27, e27, z27⟩ := len_succ z26
    subst e27
    obtain ⟨u28, us28, e28, z28⟩ := len_succ z27
    subst e28
    obtain ⟨u29, us29, e29, z29⟩ := len_succ z28
    subst e29
    obtain ⟨u30, us30, e30, z30⟩ := len_succ z29
    subst e30
    obtain ⟨u31, us31, e31, z31⟩ := len_succ z30
    subst e31
    obtain ⟨u32, us32, e32, z32⟩ := len_succ z31
    subst e32
    obtain ⟨u33, us33, e33, z33⟩ := len_succ z32
    subst e33
    obtain ⟨u34, us34, e34, z34⟩ := len_succ z33
    subst e34
    obtain ⟨u35, us35, e35, z35⟩ := len_succ z34
    subst e35
    obtain ⟨u36, us36, e36, z36⟩ := len_succ z35
    subst e36
    obtain ⟨u37, us37, e37, z37⟩ := len_succ z36
    subst e37
    obtain ⟨u38, us38, e38, z38⟩ := len_succ z37
    subst e38
    obtain ⟨u39, us39, e39, z39⟩ := len_succ z38
    subst e39
    obtain ⟨u40, us40, e40, z40⟩ := len_succ z39
    subst e40
    obtain ⟨u41, us41, e41, z41⟩ := len_succ z40
    subst e41
    obtain ⟨u42, us42, e42, z42⟩ := len_succ z41
    subst e42
    obtain ⟨u43, us43, e43, z43⟩ := len_succ z42
    subst e43
    obtain ⟨u44, us44, e44, z44⟩ := len_succ z43
    subst e44
    obtain ⟨u45, us45, e45, z45⟩ := len_succ z44
    subst e45
    obtain ⟨u46, us46, e46, z46⟩ := len_succ z45
    subst e46
    obtain ⟨u47, us47, e47, z47⟩ := len_succ z46
    subst e47
    obtain ⟨u48, us48, e48, z48⟩ := len_succ z47
    subst e48
    obtain ⟨u49, us49, e49, z49⟩ := len_succ z48
    subst e49
    obtain ⟨u50, us50, e50, z50⟩ := len_succ z49
    subst e50
    obtain ⟨u51, us51, e51, z51⟩ := len_succ z50
    subst e51
    obtain ⟨u52, us52, e52, z52⟩ := len_succ z51
    subst e52
    obtain ⟨u53, us53, e53, z53⟩ := len_succ z52
    subst e53
    obtain ⟨u54, us54, e54, z54⟩ := len_succ z53
    subst e54
    obtain ⟨u55, us55, e55, z55⟩ := len_succ z54
    subst e55
    obtain ⟨u56, us56, e56, z56⟩ := len_succ z55
    subst e56
    obtain ⟨u57, us57, e57, z57⟩ := len_succ z56
    subst e57
    obtain ⟨u58, us58, e58, z58⟩ := len_succ z57
    subst e58
    obtain ⟨u59, us59, e59, z59⟩ := len_succ z58
    subst e59
    obtain ⟨u60, us60, e60, z60⟩ := len_succ z59
    subst e60
    obtain ⟨u61, us61, e61, z61⟩ := len_succ z60
    subst e61
    obtain ⟨u62, us62, e62, z62⟩ := len_succ z61
    subst e62
    obtain ⟨u63, us63, e63, z63⟩ := len_succ z62
    subst e63
    obtain ⟨u64, us64, e64, z64⟩ := len_succ z63
    subst e64
    obtain ⟨u65, us65, e65, z65⟩ := len_succ z64
    subst e65
    obtain ⟨u66, us66, e66, z66⟩ := len_succ z65
    subst e66
    obtain ⟨u67, us67, e67, z67⟩ := len_succ z66
    subst e67
    obtain ⟨u68, us68, e68, z68⟩ := len_succ z67
    subst e68
    obtain ⟨u69, us69, e69, z69⟩ := len_succ z68
    subst e69
    obtain ⟨u70, us70, e70, z70⟩ := len_succ z69
    subst e70
    obtain ⟨u71, us71, e71, z71⟩ := len_succ z70
    subst e71
    obtain ⟨u72, us72, e72, z72⟩ := len_succ z71
    subst e72
    obtain ⟨u73, us73, e73, z73⟩ := len_succ z72
    subst e73
    obtain ⟨u74, us74, e74, z74⟩ := len_succ z73
    subst e74
    obtain ⟨u75, us75, e75, z75⟩ := len_succ z74
    subst e75
    obtain ⟨u76, us76, e76, z76⟩ := len_succ z75
    subst e76
    obtain ⟨u77, us77, e77, z77⟩ := len_succ z76
    subst e77
    obtain ⟨u78, us78, e78, z78⟩ := len_succ z77
    subst e78
    obtain ⟨u79, us79, e79, z79⟩ := len_succ z78
    subst e79
    obtain ⟨u80, us80, e80, z80⟩ := len_succ z79
    subst e80
    obtain ⟨u81, us81, e81, z81⟩ := len_succ z80
    subst e81
    obtain ⟨u82, us82, e82, z82⟩ := len_succ z81
    subst e82
    obtain ⟨u83, us83, e83, z83⟩ := len_succ z82
    subst e83
    obtain ⟨u84, us84, e84, z84⟩ := len_succ z83
    subst e84
    obtain ⟨u85, us85, e85, z85⟩ := len_succ z84
    subst e85
    obtain ⟨u86, us86, e86, z86⟩ := len_succ z85
    subst e86
    obtain ⟨u87, us87, e87, z87⟩ := len_succ z86
    subst e87
    obtain ⟨u88, us88, e88, z88⟩ := len_succ z87
    subst e88
    obtain ⟨u89, us89, e89, z89⟩ := len_succ z88
    subst e89
    obtain ⟨u90, us90, e90, z90⟩ := len_succ z89
    subst e90
    obtain ⟨u91, us91, e91, z91⟩ := len_succ z90
    subst e91
    obtain ⟨u92, us92, e92, z92⟩ := len_succ z91
    subst e92
    obtain ⟨u93, us93, e93, z93⟩ := len_succ z92
    subst e93
    obtain ⟨u94, us94, e94, z94⟩ := len_succ z93
    subst e94
    obtain ⟨u95, us95, e95, z95⟩ := len_succ z94
    subst e95
    obtain ⟨u96, us96, e96, z96⟩ := len_succ z95
    subst e96
    obtain ⟨u97, us97, e97, z97⟩ := len_succ z96
    subst e97
    obtain ⟨u98, us98, e98, z98⟩ := len_succ z97
    subst e98
    obtain ⟨u99, us99, e99, z99⟩ := len_succ z98
    subst e99
    obtain ⟨u100, us100, e100, z100⟩ := len_succ z99
    subst e100
    obtain ⟨u101, us101, e101, z101⟩ := len_succ z100
    subst e101
    obtain ⟨u102, us102, e102, z102⟩ := len_succ z101
    subst e102
    obtain ⟨u103, us103, e103, z103⟩ := len_succ z102
    subst e103
    obtain ⟨u104, us104, e104, z104⟩ := len_succ z103
    subst e104
    obtain ⟨u105, us105, e105, z105⟩ := len_succ z104
    subst e105
    obtain ⟨u106, us106, e106, z106⟩ := len_succ z105
    subst e106
    obtain ⟨u107, us107, e107, z107⟩ := len_succ z106
    subst e107
    obtain ⟨u108, us108, e108, z108⟩ := len_succ z107
    subst e108
    obtain ⟨u109, us109, e109, z109⟩ := len_succ z108
    subst e109
    obtain ⟨u110, us110, e110, z110⟩ := len_succ z109
    subst e110
    obtain ⟨u111, us111, e111, z111⟩ := len_succ z110
    subst e111
    obtain ⟨u112, us112, e112, z112⟩ := len_succ z111
    subst e112
    obtain ⟨u113, us113, e113, z113⟩ := len_succ z112
    subst e113
    obtain ⟨u114, us114, e114, z114⟩ := len_succ z113
    subst e114
    obtain ⟨u115, us115, e115, z115⟩ := len_succ z114
    subst e115
    obtain ⟨u116, us116, e116, z116⟩ := len_succ z115
    subst e116
    obtain ⟨u117, us117, e117, z117⟩ := len_succ z116
    subst e117
    obtain ⟨u118, us118, e118, z118⟩ := len_succ z117
    subst e118
    obtain ⟨u119, us119, e119, z119⟩ := len_succ z118
    subst e119
    obtain ⟨u120, us120, e120, z120⟩ := len_succ z119
    subst e120
    obtain rfl := List.length_eq_zero_iff.mp z120
    refine ⟨_, pss_one (ps_ret (pe_ccn D gP hr psEn (pa_cons (pv 0) (pa_cons (pe_ix ix_list (pv 1) pe_int (fun _ _ => rfl)) (pa_cons (pe_ix ix_list (pv 1) pe_int (fun _ _ => rfl)) (pa_cons (pe_ix ix_list (pv 1) pe_int (fun _ _ => rfl)) (pa_cons (pe_ix ix_list (pv 1) pe_int (fun _ _ => rfl)) (pa_cons (pe_ix ix_list (pv 1) pe_int (fun _ _ => rfl)) (pa_cons (pe_ix ix_list (pv 1) pe_int (fun _ _ => rfl)) (pa_cons (pe_ix ix_list (pv 1) pe_int (fun _ _ => rfl)) (pa_cons (pe_ix ix_list (pv 1) pe_int (fun _ _ => rfl)) (pa_cons (pe_ix ix_list (pv 1) pe_int (fun _ _ => rfl)) (pa_cons (pe_ix ix_list (pv 1) pe_int (fun _ _ => rfl)) (pa_cons (pe_ix ix_list (pv 1) pe_int (fun _ _ => rfl)) (pa_cons (pe_ix ix_list (pv 1) pe_int (fun _ _ => rfl)) (pa_cons (pe_ix ix_list (pv 1) pe_int (fun _ _ => rfl)) (pa_cons (pe_ix ix_list (pv 1) pe_int (fun _ _ => rfl)) (pa_cons (pe_ix ix_list (pv 1) pe_int (fun _ _ => rfl)) (pa_cons (pe_ix ix_list (pv 1) pe_int (fun _ _ => rfl)) (pa_cons (pe_ix ix_list (pv 1) pe_int (fun _ _ => rfl)) (pa_cons (pe_ix ix_list (pv 1) pe_int (fun _ _ => rfl)) (pa_cons (pe_ix ix_list (pv 1) pe_int (fun _ _ => rfl)) (pa_cons (pe_ix ix_list (pv 1) pe_int (fun _ _ => rfl)) (pa_cons (pe_ix ix_list (pv 1) pe_int (fun _ _ => rfl)) (pa_cons (pe_ix ix_list (pv 1) pe_int (fun _ _ => rfl)) (pa_cons (pe_ix ix_list (pv 1) pe_int (fun _ _ => rfl)) (pa_cons (pe_ix ix_list (pv 1) pe_int (fun _ _ => rfl)) (pa_cons (pe_ix ix_list (pv 1) pe_int (fun _ _ => rfl)) (pa_cons (pe_ix ix_list (pv 1) pe_int (fun _ _ => rfl)) (pa_cons (pe_ix ix_list (pv 1) pe_int (fun _ _ => rfl)) (pa_cons (pe_ix ix_list (pv 1) pe_int (fun _ _ => rfl)) (pa_cons (pe_ix ix_list (pv 1) pe_int (fun _ _ => rfl)) (pa_cons (pe_ix ix_list (pv 1) pe_int (fun _ _ => rfl)) (pa_cons (pe_ix ix_list (pv 1) pe_int (fun _ _ => rfl)) (pa_cons (pe_ix ix_list (pv 1) pe_int (fun _ _ => rfl)) (pa_cons (pe_ix ix_list (pv 1) pe_int (fun _ _ => rfl)) (pa_cons (pe_ix ix_list (pv 1) pe_int (fun _ _ => rfl)) (pa_cons (pe_ix ix_list (pv 1) pe_int (fun _ _ => rfl)) (pa_cons (pe_ix ix_list (pv 1) pe_int (fun _ _ => rfl)) (pa_cons (pe_ix ix_list (pv 1) pe_int (fun _ _ => rfl)) (pa_cons (pe_ix ix_list (pv 1) pe_int (fun _ _ => rfl)) (pa_cons (pe_ix ix_list (pv 1) pe_int (fun _ _ => rfl)) (pa_cons (pe_ix ix_list (pv 1) pe_int (fun _ _ => rfl)) (pa_cons (pe_ix ix_list (pv 1) pe_int (fun _ _ => rfl)) (pa_cons (pe_ix ix_list (pv 1) pe_int (fun _ _ => rfl)) (pa_cons (pe_ix ix_list (pv 1) pe_int (fun _ _ => rfl)) (pa_cons (pe_ix ix_list (pv 1) pe_int (fun _ _ => rfl)) (pa_cons (pe_ix ix_list (pv 1) pe_int (fun _ _ => rfl)) (pa_cons (pe_ix ix_list (pv 1) pe_int (fun _ _ => rfl)) (pa_cons (pe_ix ix_list (pv 1) pe_int (fun _ _ => rfl)) (pa_cons (pe_ix ix_list (pv 1) pe_int (fun _ _ => rfl)) (pa_cons (pe_ix ix_list (pv 1) pe_int (fun _ _ => rfl)) (pa_cons (pe_ix ix_list (pv 1) pe_int (fun _ _ => rfl)) (pa_cons (pe_ix ix_list (pv 1) pe_int (fun _ _ => rfl)) (pa_cons (pe_ix ix_list (pv 1) pe_int (fun _ _ => rfl)) (pa_cons (pe_ix ix_list (pv 1) pe_int (fun _ _ => rfl)) (pa_cons (pe_ix ix_list (pv 1) pe_int (fun _ _ => rfl)) (pa_cons (pe_ix ix_list (pv 1) pe_int (fun _ _ => rfl)) (pa_cons (pe_ix ix_list (pv 1) pe_int (fun _ _ => rfl)) (pa_cons (pe_ix ix_list (pv 1) pe_int (fun _ _ => rfl)) (pa_cons (pe_ix ix_list (pv 1) pe_int (fun _ _ => rfl)) (pa_cons (pe_ix ix_list (pv 1) pe_int (fun _ _ => rfl)) (pa_cons (pe_ix ix_list (pv 1) pe_int (fun _ _ => rfl)) (pa_cons (pe_ix ix_list (pv 1) pe_int (fun _ _ => rfl)) (pa_cons (pe_ix ix_list (pv 1) pe_int (fun _ _ => rfl)) (pa_cons (pe_ix ix_list (pv 1) pe_int (fun _ _ => rfl)) (pa_cons (pe_ix ix_list (pv 1) pe_int (fun _ _ => rfl)) (pa_cons (pe_ix ix_list (pv 1) pe_int (fun _ _ => rfl)) (pa_cons (pe_ix ix_list (pv 1) pe_int (fun _ _ => rfl)) (pa_cons (pe_ix ix_list (pv 1) pe_int (fun _ _ => rfl)) (pa_cons (pe_ix ix_list (pv 1) pe_int (fun _ _ => rfl)) (pa_cons (pe_ix ix_list (pv 1) pe_int (fun _ _ => rfl)) (pa_cons (pe_ix ix_list (pv 1) pe_int (fun _ _ => rfl)) (pa_cons (pe_ix ix_list (pv 1) pe_int (fun _ _ => rfl)) (pa_cons (pe_ix ix_list (pv 1) pe_int (fun _ _ => rfl)) (pa_cons (pe_ix ix_list (pv 1) pe_int (fun _ _ => rfl)) (pa_cons (pe_ix ix_list (pv 1) pe_int (fun _ _ => rfl)) (pa_cons (pe_ix ix_list (pv 1) pe_int (fun _ _ => rfl)) (pa_cons (pe_ix ix_list (pv 1) pe_int (fun _ _ => rfl)) (pa_cons (pe_ix ix_list (pv 1) pe_int (fun _ _ => rfl)) (pa_cons (pe_ix ix_list (pv 1) pe_int (fun _ _ => rfl)) (pa_cons (pe_ix ix_list (pv 1) pe_int (fun _ _ => rfl)) (pa_cons (pe_ix ix_list (pv 1) pe_int (fun _ _ => rfl)) (pa_cons (pe_ix ix_list (pv 1) pe_int (fun _ _ => rfl)) (pa_cons (pe_ix ix_list (pv 1) pe_int (fun _ _ => rfl)) (pa_cons (pe_ix ix_list (pv 1) pe_int (fun _ _ => rfl)) (pa_cons (pe_ix ix_list (pv 1) pe_int (fun _ _ => rfl)) (pa_cons (pe_ix ix_list (pv 1) pe_int (fun _ _ => rfl)) (pa_cons (pe_ix ix_list (pv 1) pe_int (fun _ _ => rfl)) (pa_cons (pe_ix ix_list (pv 1) pe_int (fun _ _ => rfl)) (pa_cons (pe_ix ix_list (pv 1) pe_int (fun _ _ => rfl)) (pa_cons (pe_ix ix_list (pv 1) pe_int (fun _ _ => rfl)) (pa_cons (pe_ix ix_list (pv 1) pe_int (fun _ _ => rfl)) (pa_cons (pe_ix ix_list (pv 1) pe_int (fun _ _ => rfl)) (pa_cons (pe_ix ix_list (pv 1) pe_int (fun _ _ => rfl)) (pa_cons (pe_ix ix_list (pv 1) pe_int (fun _ _ => rfl)) (pa_cons (pe_ix ix_list (pv 1) pe_int (fun _ _ => rfl)) (pa_cons (pe_ix ix_list (pv 1) pe_int (fun _ _ => rfl)) (pa_cons (pe_ix ix_list (pv 1) pe_int (fun _ _ => rfl)) (pa_cons (pe_ix ix_list (pv 1) pe_int (fun _ _ => rfl)) (pa_cons (pe_ix ix_list (pv 1) pe_int (fun _ _ => rfl)) (pa_cons (pe_ix ix_list (pv 1) pe_int (fun _ _ => rfl)) (pa_cons (pe_ix ix_list (pv 1) pe_int (fun _ _ => rfl)) (pa_cons (pe_ix ix_list (pv 1) pe_int (fun _ _ => rfl)) (pa_cons (pe_ix ix_list (pv 1) pe_int (fun _ _ => rfl)) (pa_cons (pe_ix ix_list (pv 1) pe_int (fun _ _ => rfl)) (pa_cons (pe_ix ix_list (pv 1) pe_int (fun _ _ => rfl)) (pa_cons (pe_ix ix_list (pv 1) pe_int (fun _ _ => rfl)) (pa_cons (pe_ix ix_list (pv 1) pe_int (fun _ _ => rfl)) (pa_cons (pe_ix ix_list (pv 1) pe_int (fun _ _ => rfl)) (pa_cons (pe_ix ix_list (pv 1) pe_int (fun _ _ => rfl)) (pa_cons (pe_ix ix_list (pv 1) pe_int (fun _ _ => rfl)) (pa_cons (pe_ix ix_list (pv 1) pe_int (fun _ _ => rfl)) (pa_cons (pe_ix ix_list (pv 1) pe_int (fun _ _ => rfl)) (pa_cons (pe_ix ix_list (pv 1) pe_int (fun _ _ => rfl)) (pa_cons (pe_ix ix_list (pv 1) pe_int (fun _ _ => rfl)) (pa_cons (pe_ix ix_list (pv 1) pe_int (fun _ _ => rfl)) (pa_cons (pe_ix ix_list (pv 1) pe_int (fun _ _ => rfl)) (pa_cons (pe_ix ix_list (pv 1) pe_int (fun _ _ => rfl)) (pa_cons (pe_ix ix_list (pv 1) pe_int (fun _ _ => rfl)) (pa_cons (pe_ix ix_list (pv 1) pe_int (fun _ _ => rfl)) (pa_cons (pe_ix ix_list (pv 1) pe_int (fun _ _ => rfl)) (pa_cons (pe_ix ix_list (pv 1) pe_int (fun _ _ => rfl)) (pa_cons (pe_ix ix_list (pv 1) pe_int (fun _ _ => rfl)) pa_nil)))))))))))))))))))))))))))))))))))))))))))))))))))))))))))))))))))))))))))))))))))))))))))))))))))))))))))))))))))))))))))), ?_⟩
    exact ⟨_, rfl, _, rfl, l, _, _, _, rfl, rfl, SqL.of hl, atI_nat (j := 0) rfl, _, rfl, l, _, _, _, rfl, rfl, SqL.of hl, atI_nat (j := 1) rfl, _, rfl, l, _, _, _, rfl, rfl, SqL.of hl, atI_nat (j := 2) rfl, _, rfl, l, _, _, _, rfl, rfl, SqL.of hl, atI_nat (j := 3) rfl, _, rfl, l, _, _, _, rfl, rfl, SqL.of hl, atI_nat (j := 4) rfl, _, rfl, l, _, _, _, rfl, rfl, SqL.of hl, atI_nat (j := 5) rfl, _, rfl, l, _, _, _, rfl, rfl, SqL.of hl, atI_nat (j := 6) rfl, _, rfl, l, _, _, _, rfl, rfl, SqL.of hl, atI_nat (j := 7) rfl, _, rfl, l, _, _, _, rfl, rfl, SqL.of hl, atI_nat (j := 8) rfl, _, rfl, l, _, _, _, rfl, rfl, SqL.of hl, atI_nat (j := 9) rfl, _, rfl, l, _, _, _, rfl, rfl, SqL.of hl, atI_nat (j := 10) rfl, _, rfl, l, _, _, _, rfl, rfl, SqL.of hl, atI_nat (j := 11) rfl, _, rfl, l, _, _, _, rfl, rfl, SqL.of hl, atI_nat (j := 12) rfl, _, rfl, l, _, _, _, rfl, rfl, SqL.of hl, atI_nat (j := 13) rfl, _, rfl, l, _, _, _, rfl, rfl, SqL.of hl, atI_nat (j := 14) rfl, _, rfl, l, _, _, _, rfl, rfl, SqL.of hl, atI_nat (j := 15) rfl, _, rfl, l, _, _, _, rfl, rfl, SqL.of hl, atI_nat (j := 16) rfl, _, rfl, l, _, _, _, rfl, rfl, SqL.of hl, atI_nat (j := 17) rfl, _, rfl, l, _, _, _, rfl, rfl, SqL.of hl, atI_nat (j := 18) rfl, _, rfl, l, _, _, _, rfl, rfl, SqL.of hl, atI_nat (j := 19) rfl, _, rfl, l, _, _, _, rfl, rfl, SqL.of hl, atI_nat (j := 20) rfl, _, rfl, l, _, _, _, rfl, rfl, SqL.of hl, atI_nat (j := 21) rfl, _, rfl, l, _, _, _, rfl, rfl, SqL.of hl, atI_nat (j := 22) rfl, _, rfl, l, _, _, _, rfl, rfl, SqL.of hl, atI_nat (j := 23) rfl, _, rfl, l, _, _, _, rfl, rfl, SqL.of hl, atI_nat (j := 24) rfl, _, rfl, l, _, _, _, rfl, rfl, SqL.of hl, atI_nat (j := 25) rfl, _, rfl, l, _, _, _, rfl, rfl, SqL.of hl, atI_nat (j := 26) rfl, _, rfl, l, _, _, _, rfl, rfl, SqL.of hl, atI_nat (j := 27) rfl, _, rfl, l, _, _, _, rfl, rfl, SqL.of hl, atI_nat (j := 28) rfl, _, rfl, l, _, _, _, rfl, rfl, SqL.of hl, atI_nat (j := 29) rfl, _, rfl, l, _, _, _, rfl, rfl, SqL.of hl, atI_nat (j := 30) rfl, _, rfl, l, _, _, _, rfl, rfl, SqL.of hl, atI_nat (j := 31) rfl, _, rfl, l, _, _, _, rfl, rfl, SqL.of hl, atI_nat (j := 32) rfl, _, rfl, l, _, _, _, rfl, rfl, SqL.of hl, atI_nat (j := 33) rfl, _, rfl, l, _, _, _, rfl, rfl, SqL.of hl, atI_nat (j := 34) rfl, _, rfl, l, _, _, _, rfl, rfl, SqL.of hl, atI_nat (j := 35) rfl, _, rfl, l, _, _, _, rfl, rfl, SqL.of hl, atI_nat (j := 36) rfl, _, rfl, l, _, _, _, rfl, rfl, SqL.of hl, atI_nat (j := 37) rfl, _, rfl, l, _, _, _, rfl, rfl, SqL.of hl, atI_nat (j := 38) rfl, _, rfl, l, _, _, _, rfl, rfl, SqL.of hl, atI_nat (j := 39) rfl, _, rfl, l, _, _, _, rfl, rfl, SqL.of hl, atI_nat (j := 40) rfl, _, rfl, l, _, _, _, rfl, rfl, SqL.of hl, atI_nat (j := 41) rfl, _, rfl, l, _, _, _, rfl, rfl, SqL.of hl, atI_nat (j := 42) rfl, _, rfl, l, _, _, _, rfl, rfl, SqL.of hl, atI_nat (j := 43) rfl, _, rfl, l, _, _, _, rfl, rfl, SqL.of hl, atI_nat (j := 44) rfl, _, rfl, l, _, _, _, rfl, rfl, SqL.of hl, atI_nat (j := 45) rfl, _, rfl, l, _, _, _, rfl, rfl, SqL.of hl, atI_nat (j := 46) rfl, _, rfl, l, _, _, _, rfl, rfl, SqL.of hl, atI_nat (j := 47) rfl, _, rfl, l, _, _, _, rfl, rfl, SqL.of hl, atI_nat (j := 48) rfl, _, rfl, l, _, _, _, rfl, rfl, SqL.of hl, atI_nat (j := 49) rfl, _, rfl, l, _, _, _, rfl, rfl, SqL.of hl, atI_nat (j := 50) rfl, _, rfl, l, _, _, _, rfl, rfl, SqL.of hl, atI_nat (j := 51) rfl, _, rfl, l, _, _, _, rfl, rfl, SqL.of hl, atI_nat (j := 52) rfl, _, rfl, l, _, _, _, rfl, rfl, SqL.of hl, atI_nat (j := 53) rfl, _, rfl, l, _, _, _, rfl, rfl, SqL.of hl, atI_nat (j := 54) rfl, _, rfl, l, _, _, _, rfl, rfl, SqL.of hl, atI_nat (j := 55) rfl, _, rfl, l, _, _, _, rfl, rfl, SqL.of hl, atI_nat (j := 56) rfl, _, rfl, l, _, _, _, rfl, rfl, SqL.of hl, atI_nat (j := 57) rfl, _, rfl, l, _, _, _, rfl, rfl, SqL.of hl, atI_nat (j := 58) rfl, _, rfl, l, _, _, _, rfl, rfl, SqL.of hl, atI_nat (j := 59) rfl, _, rfl, l, _, _, _, rfl, rfl, SqL.of hl, atI_nat (j := 60) rfl, _, rfl, l, _, _, _, rfl, rfl, SqL.of hl, atI_nat (j := 61) rfl, _, rfl, l, _, _, _, rfl, rfl, SqL.of hl, atI_nat (j := 62) rfl, _, rfl, l, _, _, _, rfl, rfl, SqL.of hl, atI_nat (j := 63) rfl, _, rfl, l, _, _, _, rfl, rfl, SqL.of hl, atI_nat (j := 64) rfl, _, rfl, l, _, _, _, rfl, rfl, SqL.of hl, atI_nat (j := 65) rfl, _, rfl, l, _, _, _, rfl, rfl, SqL.of hl, atI_nat (j := 66) rfl, _, rfl, l, _, _, _, rfl, rfl, SqL.of hl, atI_nat (j := 67) rfl, _, rfl, l, _, _, _, rfl, rfl, SqL.of hl, atI_nat (j := 68) rfl, _, rfl, l, _, _, _, rfl, rfl, SqL.of hl, atI_nat (j := 69) rfl, _, rfl, l, _, _, _, rfl, rfl, SqL.of hl, atI_nat (j := 70) rfl, _, rfl, l, _, _, _, rfl, rfl, SqL.of hl, atI_nat (j := 71) rfl, _, rfl, l, _, _, _, rfl, rfl, SqL.of hl, atI_nat (j := 72) rfl, _, rfl, l, _, _, _, rfl, rfl, SqL.of hl, atI_nat (j := 73) rfl, _, rfl, l, _, _, _, rfl, rfl, SqL.of hl, atI_nat (j := 74) rfl, _, rfl, l, _, _, _, rfl, rfl, SqL.of hl, atI_nat (j := 75) rfl, _, rfl, l, _, _, _, rfl, rfl, SqL.of hl, atI_nat (j := 76) rfl, _, rfl, l, _, _, _, rfl, rfl, SqL.of hl, atI_nat (j := 77) rfl, _, rfl, l, _, _, _, rfl, rfl, SqL.of hl, atI_nat (j := 78) rfl, _, rfl, l, _, _, _, rfl, rfl, SqL.of hl, atI_nat (j := 79) rfl, _, rfl, l, _, _, _, rfl, rfl, SqL.of hl, atI_nat (j := 80) rfl, _, rfl, l, _, _, _, rfl, rfl, SqL.of hl, atI_nat (j := 81) rfl, _, rfl, l, _, _, _, rfl, rfl, SqL.of hl, atI_nat (j := 82) rfl, _, rfl, l, _, _, _, rfl, rfl, SqL.of hl, atI_nat (j := 83) rfl, _, rfl, l, _, _, _, rfl, rfl, SqL.of hl, atI_nat (j := 84) rfl, _, rfl, l, _, _, _, rfl, rfl, SqL.of hl, atI_nat (j := 85) rfl, _, rfl, l, _, _, _, rfl, rfl, SqL.of hl, atI_nat (j := 86) rfl, _, rfl, l, _, _, _, rfl, rfl, SqL.of hl, atI_nat (j := 87) rfl, _, rfl, l, _, _, _, rfl, rfl, SqL.of hl, atI_nat (j := 88) rfl, _, rfl, l, _, _, _, rfl, rfl, SqL.of hl, atI_nat (j := 89) rfl, _, rfl, l, _, _, _, rfl, rfl, SqL.of hl, atI_nat (j := 90) rfl, _, rfl, l, _, _, _, rfl, rfl, SqL.of hl, atI_nat (j := 91) rfl, _, rfl, l, _, _, _, rfl, rfl, SqL.of hl, atI_nat (j := 92) rfl, _, rfl, l, _, _, _, rfl, rfl, SqL.of hl, atI_nat (j := 93) rfl, _, rfl, l, _, _, _, rfl, rfl, SqL.of hl, atI_nat (j := 94) rfl, _, rfl, l, _, _, _, rfl, rfl, SqL.of hl, atI_nat (j := 95) rfl, _, rfl, l, _, _, _, rfl, rfl, SqL.of hl, atI_nat (j := 96) rfl, _, rfl, l, _, _, _, rfl, rfl, SqL.of hl, atI_nat (j := 97) rfl, _, rfl, l, _, _, _, rfl, rfl, SqL.of hl, atI_nat (j := 98) rfl, _, rfl, l, _, _, _, rfl, rfl, SqL.of hl, atI_nat (j := 99) rfl, _, rfl, l, _, _, _, rfl, rfl, SqL.of hl, atI_nat (j := 100) rfl, _, rfl, l, _, _, _, rfl, rfl, SqL.of hl, atI_nat (j := 101) rfl, _, rfl, l, _, _, _, rfl, rfl, SqL.of hl, atI_nat (j := 102) rfl, _, rfl, l, _, _, _, rfl, rfl, SqL.of hl, atI_nat (j := 103) rfl, _, rfl, l, _, _, _, rfl, rfl, SqL.of hl, atI_nat (j := 104) rfl, _, rfl, l, _, _, _, rfl, rfl, SqL.of hl, atI_nat (j := 105) rfl, _, rfl, l, _, _, _, rfl, rfl, SqL.of hl, atI_nat (j := 106) rfl, _, rfl, l, _, _, _, rfl, rfl, SqL.of hl, atI_nat (j := 107) rfl, _, rfl, l, _, _, _, rfl, rfl, SqL.of hl, atI_nat (j := 108) rfl, _, rfl, l, _, _, _, rfl, rfl, SqL.of hl, atI_nat (j := 109) rfl, _, rfl, l, _, _, _, rfl, rfl, SqL.of hl, atI_nat (j := 110) rfl, _, rfl, l, _, _, _, rfl, rfl, SqL.of hl, atI_nat (j := 111) rfl, _, rfl, l, _, _, _, rfl, rfl, SqL.of hl, atI_nat (j := 112) rfl, _, rfl, l, _, _, _, rfl, rfl, SqL.of hl, atI_nat (j := 113) rfl, _, rfl, l, _, _, _, rfl, rfl, SqL.of hl, atI_nat (j := 114) rfl, _, rfl, l, _, _, _, rfl, rfl, SqL.of hl, atI_nat (j := 115) rfl, _, rfl, l, _, _, _, rfl, rfl, SqL.of hl, atI_nat (j := 116) rfl, _, rfl, l, _, _, _, rfl, rfl, SqL.of hl, atI_nat (j := 117) rfl, _, rfl, l, _, _, _, rfl, rfl, SqL.of hl, atI_nat (j := 118) rfl, _, rfl, l, _, _, _, rfl, rfl, SqL.of hl, atI_nat (j := 119) rfl, _, rfl, l, _, _, _, rfl, rfl, SqL.of hl, atI_nat (j := 120) rfl, use⟩
end
end WC

set_option maxHeartbeats 16000000
namespace WC
open PySem PySem.Spec PyProof.Rows L2 L2H
section
variable {P : Program} {w : World} {K : PySem.W.Frag} {mg : Str → Option Value} {base : Heap}
theorem ok_law_left_out {f C CI : Addr} {fd : FuncData} (F : Fun K "_law_left_out" "_law_left_out" s_law_left_out f fd) (B : Blt mg) (gP : mg "Pipeline" = some (.ref C)) (D : ClsN P w K mg base C 4 (spPipeX K C CI)) (g_law_forty : DefN P w K mg base "_law_forty" 6 (spMkN K C CI 40)) (g_law_full : DefN P w K mg base "_law_full" 6 (spMkN K C CI 120)) (g_law_over : DefN P w K mg base "_law_over" 6 (spMkN K C CI 121)) : FnOk P w K mg base (L2N.CX P w) 7 f fd ["count", "c"] (spLeft K C CI) := by
  refine okN F sc_law_left_out (fun vs H Q E h => ?_) (fun cdv A outer s H vs Q E hr h => ?_)
  · obtain ⟨l, cnt, ds, us, rfl, _⟩ := h
    rfl
  · obtain ⟨l, cnt, ds, us, rfl, hl, hn, R⟩ := h
    have use := R.use
    refine ⟨_, (pss_cons (ps_if (pt_cmpR op_eq (pe_callB call_len_seq (by rfl) B.len bt_len (pa_cons (pv 1) pa_nil)) pe_int (nomark _)) (pss_one (ps_ret (pe_ccn D gP hr psEn (pa_cons (pv 0) pa_nil)))) pss_nil)
      (pss_cons (ps_if (pt_cmpR op_eq (pe_callB call_len_seq (by rfl) B.len bt_len (pa_cons (pv 1) pa_nil)) pe_int (nomark _)) (pss_one (ps_ret (pe_ccn D gP hr psEn (pa_cons (pv 0) (pa_cons (pe_ix ix_list (pv 1) pe_int (fun _ _ => rfl)) pa_nil))))) pss_nil)
      (pss_cons (ps_if (pt_cmpR op_eq (pe_callB call_len_seq (by rfl) B.len bt_len (pa_cons (pv 1) pa_nil)) pe_int (nomark _)) (pss_one (ps_ret (pe_ccn D gP hr psEn (pa_cons (pv 0) (pa_cons (pe_ix ix_list (pv 1) pe_int (fun _ _ => rfl)) (pa_cons (pe_ix ix_list (pv 1) pe_int (fun _ _ => rfl)) pa_nil)))))) pss_nil)
      (pss_cons (ps_if (pt_cmpR op_eq (pe_callB call_len_seq (by rfl) B.len bt_len (pa_cons (pv 1) pa_nil)) pe_int (nomark _)) (pss_one (ps_ret (pe_ccn D gP hr psEn (pa_cons (pv 0) (pa_cons (pe_ix ix_list (pv 1) pe_int (fun _ _ => rfl)) (pa_cons (pe_ix ix_list (pv 1) pe_int (fun _ _ => rfl)) (pa_cons (pe_ix ix_list (pv 1) pe_int (fun _ _ => rfl)) pa_nil))))))) pss_nil)
      (pss_cons (ps_if (pt_cmpR op_eq (pe_callB call_len_seq (by rfl) B.len bt_len (pa_cons (pv 1) pa_nil)) pe_int (nomark _)) (pss_one (ps_ret (pe_ccn D gP hr psEn (pa_cons (pv 0) (pa_cons (pe_ix ix_list (pv 1) pe_int (fun _ _ => rfl)) (pa_cons (pe_ix ix_list (pv 1) pe_int (fun _ _ => rfl)) (pa_cons (pe_ix ix_list (pv 1) pe_int (fun _ _ => rfl)) (pa_cons (pe_ix ix_list (pv 1) pe_int (fun _ _ => rfl)) pa_nil)))))))) pss_nil)
      (pss_cons (ps_if (pt_cmpR op_eq (pe_callB call_len_seq (by rfl) B.len bt_len (pa_cons (pv 1) pa_nil)) pe_int (nomark _)) (pss_one (ps_ret (pe_ccn D gP hr psEn (pa_cons (pv 0) (pa_cons (pe_ix ix_list (pv 1) pe_int (fun _ _ => rfl)) (pa_cons (pe_ix ix_list (pv 1) pe_int (fun _ _ => rfl)) (pa_cons (pe_ix ix_list (pv 1) pe_int (fun _ _ => rfl)) (pa_cons (pe_ix ix_list (pv 1) pe_int (fun _ _ => rfl)) (pa_cons (pe_ix ix_list (pv 1) pe_int (fun _ _ => rfl)) pa_nil))))))))) pss_nil)
      (pss_cons (ps_if (pt_cmpR op_eq (pe_callB call_len_seq (by rfl) B.len bt_len (pa_cons (pv 1) pa_nil)) pe_int (nomark _)) (pss_one (ps_ret (pe_ccn D gP hr psEn (pa_cons (pv 0) (pa_cons (pe_ix ix_list (pv 1) pe_int (fun _ _ => rfl)) (pa_cons (pe_ix ix_list (pv 1) pe_int (fun _ _ => rfl)) (pa_cons (pe_ix ix_list (pv 1) pe_int (fun _ _ => rfl)) (pa_cons (pe_ix ix_list (pv 1) pe_int (fun _ _ => rfl)) (pa_cons (pe_ix ix_list (pv 1) pe_int (fun _ _ => rfl)) (pa_cons (pe_ix ix_list (pv 1) pe_int (fun _ _ => rfl)) pa_nil)))))))))) pss_nil)
      (pss_cons (ps_if (pt_cmpR op_eq (pe_callB call_len_seq (by rfl) B.len bt_len (pa_cons (pv 1) pa_nil)) pe_int (nomark _)) (pss_one (ps_ret (pe_ccn D gP hr psEn (pa_cons (pv 0) (pa_cons (pe_ix ix_list (pv 1) pe_int (fun _ _ => rfl)) (pa_cons (pe_ix ix_list (pv 1) pe_int (fun _ _ => rfl)) (pa_cons (pe_ix ix_list (pv 1) pe_int (fun _ _ => rfl)) (pa_cons (pe_ix ix_list (pv 1) pe_int (fun _ _ => rfl)) (pa_cons (pe_ix ix_list (pv 1) pe_int (fun _ _ => rfl)) (pa_cons (pe_ix ix_list (pv 1) pe_int (fun _ _ => rfl)) (pa_cons (pe_ix ix_list (pv 1) pe_int (fun _ _ => rfl)) pa_nil))))))))))) pss_nil)
      (pss_cons (ps_if (pt_cmpR op_eq (pe_callB call_len_seq (by rfl) B.len bt_len (pa_cons (pv 1) pa_nil)) pe_int (nomark _)) (pss_one (ps_ret (pe_cdn g_law_forty hr psEn (pa_cons (pv 0) (pa_cons (pv 1) pa_nil))))) pss_nil)
      (pss_cons (ps_if (pt_cmpR op_eq (pe_callB call_len_seq (by rfl) B.len bt_len (pa_cons (pv 1) pa_nil)) pe_int (nomark _)) (pss_one (ps_ret (pe_cdn g_law_full hr psEn (pa_cons (pv 0) (pa_cons (pv 1) pa_nil))))) pss_nil)
      (pss_one (ps_ret (pe_cdn g_law_over hr psEn (pa_cons (pv 0) (pa_cons (pv 1) pa_nil))))))))))))))), ?_⟩
    obtain ⟨m, hm⟩ : ∃ m, us.length = m := ⟨_, rfl⟩
    rcases (by omega : m = 0 ∨ m = 1 ∨ m = 2 ∨ m = 3 ∨ m = 4 ∨ m = 5 ∨ m = 6 ∨ m = 7 ∨ m = 40 ∨ m = 120 ∨ m = 121) with rfl | rfl | rfl | rfl | rfl | rfl | rfl | rfl | rfl | rfl | rfl
    · clear R
      obtain rfl := List.length_eq_zero_iff.mp hm
      refine ⟨_, rfl, l, _, rfl, .inl (SqL.of hl), rfl, _, rfl, len_eq rfl ?_⟩
      exact ⟨_, rfl, use⟩
    · clear R
      obtain ⟨u0, us0, e0, z0⟩ := len_succ hm
      subst e0
      obtain rfl := List.length_eq_zero_iff.mp z0
      refine ⟨_, rfl, l, _, rfl, .inl (SqL.of hl), rfl, _, rfl, len_ne (show ((1 : Nat) : Int) ≠ 0 by decide) ?_⟩
      refine ⟨_, rfl, l, _, rfl, .inl (SqL.of hl), rfl, _, rfl, len_eq rfl ?_⟩
      exact ⟨_, rfl, _, rfl, l, _, _, _, rfl, rfl, SqL.of hl, atI_nat (j := 0) rfl, use⟩
    · clear R
      obtain ⟨u0, us0, e0, z0⟩ := len_succ hm
      subst e0
      obtain ⟨u1, us1, e1, z1⟩ := len_succ z0
      subst e1
      obtain rfl := List.length_eq_zero_iff.mp z1
      refine ⟨_, rfl, l, _, rfl, .inl (SqL.of hl), rfl, _, rfl, len_ne (show ((2 : Nat) : Int) ≠ 0 by decide) ?_⟩
      refine ⟨_, rfl, l, _, rfl, .inl (SqL.of hl), rfl, _, rfl, len_ne (show ((2 : Nat) : Int) ≠ 1 by decide) ?_⟩
      refine ⟨_, rfl, l, _, rfl, .inl (SqL.of hl), rfl, _, rfl, len_eq rfl ?_⟩
      exact ⟨_, rfl, _, rfl, l, _, _, _, rfl, rfl, SqL.of hl, atI_nat (j := 0) rfl, _, rfl, l, _, _, _, rfl, rfl, SqL.of hl, atI_nat (j := 1) rfl, use⟩
    · clear R
      obtain ⟨u0, us0, e0, z0⟩ := len_succ hm
      subst e0
      obtain ⟨u1, us1, e1, z1⟩ := len_succ z0
      subst e1
      obtain ⟨u2, us2, e2, z2⟩ := len_succ z1
      subst e2
      obtain rfl := List.length_eq_zero_iff.mp z2
      refine ⟨_, rfl, l, _, rfl, .inl (SqL.of hl), rfl, _, rfl, len_ne (show ((3 : Nat) : Int) ≠ 0 by decide) ?_⟩
      refine ⟨_, rfl, l, _, rfl, .inl (SqL.of hl), rfl, _, rfl, len_ne (show ((3 : Nat) : Int) ≠ 1 by decide) ?_⟩
      refine ⟨_, rfl, l, _, rfl, .inl (SqL.of hl), rfl, _, rfl, len_ne (show ((3 : Nat) : Int) ≠ 2 by decide) ?_⟩
      refine ⟨_, rfl, l, _, rfl, .inl (SqL.of hl), rfl, _, rfl, len_eq rfl ?_⟩
      exact ⟨_, rfl, _, rfl, l, _, _, _, rfl, rfl, SqL.of hl, atI_nat (j := 0) rfl, _, rfl, l, _, _, _, rfl, rfl, SqL.of hl, atI_nat (j := 1) rfl, _, rfl, l, _, _, _, rfl, rfl, SqL.of hl, atI_nat (j := 2) rfl, use⟩
    · clear R
      obtain ⟨u0, us0, e0, z0⟩ := len_succ hm
      subst e0
      obtain ⟨u1, us1, e1, z1⟩ := len_succ z0
      subst e1
      obtain ⟨u2, us2, e2, z2⟩ := len_succ z1
      subst e2
      obtain ⟨u3, us3, e3, z3⟩ := len_succ z2
      subst e3
      obtain rfl := List.length_eq_zero_iff.mp z3
      refine ⟨_, rfl, l, _, rfl, .inl (SqL.of hl), rfl, _, rfl, len_ne (show ((4 : Nat) : Int) ≠ 0 by decide) ?_⟩
      refine ⟨_, rfl, l, _, rfl, .inl (SqL.of hl), rfl, _, rfl, len_ne (show ((4 : Nat) : Int) ≠ 1 by decide) ?_⟩
      refine ⟨_, rfl, l, _, rfl, .inl (SqL.of hl), rfl, _, rfl, len_ne (show ((4 : Nat) : Int) ≠ 2 by decide) ?_⟩
      refine ⟨_, rfl, l, _, rfl, .inl (SqL.of hl), rfl, _, rfl, len_ne (show ((4 : Nat) : Int) ≠ 3 by decide) ?_⟩
      refine ⟨_, rfl, l, _, rfl, .inl (SqL.of hl), rfl, _, rfl, len_eq rfl ?_⟩
      exact ⟨_, rfl, _, rfl, l, _, _, _, rfl, rfl, SqL.of hl, atI_nat (j := 0) rfl, _, rfl, l, _, _, _, rfl, rfl, SqL.of hl, atI_nat (j := 1) rfl, _, rfl, l, _, _, _, rfl, rfl, SqL.of hl, atI_nat (j := 2) rfl, _, rfl, l, _, _, _, rfl, rfl, SqL.of hl, atI_nat (j := 3) rfl, use⟩
    · clear R
      obtain ⟨u0, us0, e0, z0⟩ := len_succ hm
      subst e0
      obtain ⟨u1, us1, e1, z1⟩ := len_succ z0
      subst e1
      obtain ⟨u2, us2, e2, z2⟩ := len_succ z1
      subst e2
      obtain ⟨u3, us3, e3, z3⟩ := len_succ z2
      subst e3
      obtain ⟨u4, us4, e4, z4⟩ := len_succ z3
      subst e4
      obtain rfl := List.length_eq_zero_iff.mp z4
      refine ⟨_, rfl, l, _, rfl, .inl (SqL.of hl), rfl, _, rfl, len_ne (show ((5 : Nat) : Int) ≠ 0 by decide) ?_⟩
      refine ⟨_, rfl, l, _, rfl, .inl (SqL.of hl), rfl, _, rfl, len_ne (show ((5 : Nat) : Int) ≠ 1 by decide) ?_⟩
      refine ⟨_, rfl, l, _, rfl, .inl (SqL.of hl), rfl, _, rfl, len_ne (show ((5 : Nat) : Int) ≠ 2 by decide) ?_⟩
      refine ⟨_, rfl, l, _, rfl, .inl (SqL.of hl), rfl, _, rfl, len_ne (show ((5 : Nat) : Int) ≠ 3 by decide) ?_⟩
      refine ⟨_, rfl, l, _, rfl, .inl (SqL.of hl), rfl, _, rfl, len_ne (show ((5 : Nat) : Int) ≠ 4 by decide) ?_⟩
      refine ⟨_, rfl, l, _, rfl, .inl (SqL.of hl), rfl, _, rfl, len_eq rfl ?_⟩
      exact ⟨_, rfl, _, rfl, l, _, _, _, rfl, rfl, SqL.of hl, atI_nat (j := 0) rfl, _, rfl, l, _, _, _, rfl, rfl, SqL.of hl, atI_nat (j := 1) rfl, _, rfl, l, _, _, _, rfl, rfl, SqL.of hl, atI_nat (j := 2) rfl, _, rfl, l, _, _, _, rfl, rfl, SqL.of hl, atI_nat (j := 3) rfl, _, rfl, l, _, _, _, rfl, rfl, SqL.of hl, atI_nat (j := 4) rfl, use⟩
    · clear R
      obtain ⟨u0, us0, e0, z0⟩ := len_succ hm
      subst e0
      obtain ⟨u1, us1, e1, z1⟩ := len_succ z0
      subst e1
      obtain ⟨u2, us2, e2, z2⟩ := len_succ z1
      subst e2
      obtain ⟨u3, us3, e3, z3⟩ := len_succ z2
      subst e3
      obtain ⟨u4, us4, e4, z4⟩ := len_succ z3
      subst e4
      obtain ⟨u5, us5, e5, z5⟩ := len_succ z4
      subst e5
      obtain rfl := List.length_eq_zero_iff.mp z5
      refine ⟨_, rfl, l, _, rfl, .inl (SqL.of hl), rfl, _, rfl, len_ne (show ((6 : Nat) : Int) ≠ 0 by decide) ?_⟩
      refine ⟨_, rfl, l, _, rfl, .inl (SqL.of hl), rfl, _, rfl, len_ne (show ((6 : Nat) : Int) ≠ 1 by decide) ?_⟩
      refine ⟨_, rfl, l, _, rfl, .inl (SqL.of hl), rfl, _, rfl, len_ne (show ((6 : Nat) : Int) ≠ 2 by decide) ?_⟩
      refine ⟨_, rfl, l, _, rfl, .inl (SqL.of hl), rfl, _, rfl, len_ne (show ((6 : Nat) : Int) ≠ 3 by decide) ?_⟩
      refine ⟨_, rfl, l, _, rfl, .inl (SqL.of hl), rfl, _, rfl, len_ne (show ((6 : Nat) : Int) ≠ 4 by decide) ?_⟩
      refine ⟨_, rfl, l, _, rfl, .inl (SqL.of hl), rfl, _, rfl, len_ne (show ((6 : Nat) : Int) ≠ 5 by decide) ?_⟩
      refine ⟨_, rfl, l, _, rfl, .inl (SqL.of hl), rfl, _, rfl, len_eq rfl ?_⟩
      exact ⟨_, rfl, _, rfl, l, _, _, _, rfl, rfl, SqL.of hl, atI_nat (j := 0) rfl, _, rfl, l, _, _, _, rfl, rfl, SqL.of hl, atI_nat (j := 1) rfl, _, rfl, l, _, _, _, rfl, rfl, SqL.of hl, atI_nat (j := 2) rfl, _, rfl, l, _, _, _, rfl, rfl, SqL.of hl, atI_nat (j := 3) rfl, _, rfl, l, _, _, _, rfl, rfl, SqL.of hl, atI_nat (j := 4) rfl, _, rfl, l, _, _, _, rfl, rfl, SqL.of hl, atI_nat (j := 5) rfl, use⟩
    · clear R
      obtain ⟨u0, us0, e0, z0⟩ := len_succ hm
      subst e0
      obtain ⟨u1, us1, e1, z1⟩ := len_succ z0
      subst e1
      obtain ⟨u2, us2, e2, z2⟩ := len_succ z1
      subst e2
      obtain ⟨u3, us3, e3, z3⟩ := len_succ z2
      subst e3
      obtain ⟨u4, us4, e4, z4⟩ := len_succ z3
      subst e4
      obtain ⟨u5, us5, e5, z5⟩ := len_succ z4
      subst e5
      obtain ⟨u6, us6, e6, z6⟩ := len_succ z5
      subst e6
      obtain rfl := List.length_eq_zero_iff.mp z6
      refine ⟨_, rfl, l, _, rfl, .inl (SqL.of hl), rfl, _, rfl, len_ne (show ((7 : Nat) : Int) ≠ 0 by decide) ?_⟩
      refine ⟨_, rfl, l, _, rfl, .inl (SqL.of hl), rfl, _, rfl, len_ne (show ((7 : Nat) : Int) ≠ 1 by decide) ?_⟩
      refine ⟨_, rfl, l, _, rfl, .inl (SqL.of hl), rfl, _, rfl, len_ne (show ((7 : Nat) : Int) ≠ 2 by decide) ?_⟩
      refine ⟨_, rfl, l, _, rfl, .inl (SqL.of hl), rfl, _, rfl, len_ne (show ((7 : Nat) : Int) ≠ 3 by decide) ?_⟩
      refine ⟨_, rfl, l, _, rfl, .inl (SqL.of hl), rfl, _, rfl, len_ne (show ((7 : Nat) : Int) ≠ 4 by decide) ?_⟩
      refine ⟨_, rfl, l, _, rfl, .inl (SqL.of hl), rfl, _, rfl, len_ne (show ((7 : Nat) : Int) ≠ 5 by decide) ?_⟩
      refine ⟨_, rfl, l, _, rfl, .inl (SqL.of hl), rfl, _, rfl, len_ne (show ((7 : Nat) : Int) ≠ 6 by decide) ?_⟩
      refine ⟨_, rfl, l, _, rfl, .inl (SqL.of hl), rfl, _, rfl, len_eq rfl ?_⟩
      exact ⟨_, rfl, _, rfl, l, _, _, _, rfl, rfl, SqL.of hl, atI_nat (j := 0) rfl, _, rfl, l, _, _, _, rfl, rfl, SqL.of hl, atI_nat (j := 1) rfl, _, rfl, l, _, _, _, rfl, rfl, SqL.of hl, atI_nat (j := 2) rfl, _, rfl, l, _, _, _, rfl, rfl, SqL.of hl, atI_nat (j := 3) rfl, _, rfl, l, _, _, _, rfl, rfl, SqL.of hl, atI_nat (j := 4) rfl, _, rfl, l, _, _, _, rfl, rfl, SqL.of hl, atI_nat (j := 5) rfl, _, rfl, l, _, _, _, rfl, rfl, SqL.of hl, atI_nat (j := 6) rfl, use⟩
    · refine ⟨_, rfl, l, _, rfl, .inl (SqL.of hl), rfl, _, rfl, len_ne (show (us.length : Int) ≠ 0 by omega) ?_⟩
      refine ⟨_, rfl, l, _, rfl, .inl (SqL.of hl), rfl, _, rfl, len_ne (show (us.length : Int) ≠ 1 by omega) ?_⟩
      refine ⟨_, rfl, l, _, rfl, .inl (SqL.of hl), rfl, _, rfl, len_ne (show (us.length : Int) ≠ 2 by omega) ?_⟩
      refine ⟨_, rfl, l, _, rfl, .inl (SqL.of hl), rfl, _, rfl, len_ne (show (us.length : Int) ≠ 3 by omega) ?_⟩
      refine ⟨_, rfl, l, _, rfl, .inl (SqL.of hl), rfl, _, rfl, len_ne (show (us.length : Int) ≠ 4 by omega) ?_⟩
      refine ⟨_, rfl, l, _, rfl, .inl (SqL.of hl), rfl, _, rfl, len_ne (show (us.length : Int) ≠ 5 by omega) ?_⟩
      refine ⟨_, rfl, l, _, rfl, .inl (SqL.of hl), rfl, _, rfl, len_ne (show (us.length : Int) ≠ 6 by omega) ?_⟩
      refine ⟨_, rfl, l, _, rfl, .inl (SqL.of hl), rfl, _, rfl, len_ne (show (us.length : Int) ≠ 7 by omega) ?_⟩
      refine ⟨_, rfl, l, _, rfl, .inl (SqL.of hl), rfl, _, rfl, len_eq (by omega) ?_⟩
      exact ⟨_, rfl, _, rfl, l, cnt, ds, us, rfl, hl, hm, R⟩
    · refine ⟨_, rfl, l, _, rfl, .inl (SqL.of hl), rfl, _, rfl, len_ne (show (us.length : Int) ≠ 0 by omega) ?_⟩
      refine ⟨_, rfl, l, _, rfl, .inl (SqL.of hl), rfl, _, rfl, len_ne (show (us.length : Int) ≠ 1 by omega) ?_⟩
      refine ⟨_, rfl, l, _, rfl, .inl (SqL.of hl), rfl, _, rfl, len_ne (show (us.length : Int) ≠ 2 by omega) ?_⟩
      refine ⟨_, rfl, l, _, rfl, .inl (SqL.of hl), rfl, _, rfl, len_ne (show (us.length : Int) ≠ 3 by omega) ?_⟩
      refine ⟨_, rfl, l, _, rfl, .inl (SqL.of hl), rfl, _, rfl, len_ne (show (us.length : Int) ≠ 4 by omega) ?_⟩
      refine ⟨_, rfl, l, _, rfl, .inl (SqL.of hl), rfl, _, rfl, len_ne (show (us.length : Int) ≠ 5 by omega) ?_⟩
      refine ⟨_, rfl, l, _, rfl, .inl (SqL.of hl), rfl, _, rfl, len_ne (show (us.length : Int) ≠ 6 by omega) ?_⟩
      refine ⟨_, rfl, l, _, rfl, .inl (SqL.of hl), rfl, _, rfl, len_ne (show (us.length : Int) ≠ 7 by omega) ?_⟩
      refine ⟨_, rfl, l, _, rfl, .inl (SqL.of hl), rfl, _, rfl, len_ne (show (us.length : Int) ≠ 40 by omega) ?_⟩
      refine ⟨_, rfl, l, _, rfl, .inl (SqL.of hl), rfl, _, rfl, len_eq (by omega) ?_⟩
      exact ⟨_, rfl, _, rfl, l, cnt, ds, us, rfl, hl, hm, R⟩
    · refine ⟨_, rfl, l, _, rfl, .inl (SqL.of hl), rfl, _, rfl, len_ne (show (us.length : Int) ≠ 0 by omega) ?_⟩
      refine ⟨_, rfl, l, _, rfl, .inl (SqL.of hl), rfl, _, rfl, len_ne (show (us.length : Int) ≠ 1 by omega) ?_⟩
      refine ⟨_, rfl, l, _, rfl, .inl (SqL.of hl), rfl, _, rfl, len_ne (show (us.length : Int) ≠ 2 by omega) ?_⟩
      refine ⟨_, rfl, l, _, rfl, .inl (SqL.of hl), rfl, _, rfl, len_ne (show (us.length : Int) ≠ 3 by omega) ?_⟩
      refine ⟨_, rfl, l, _, rfl, .inl (SqL.of hl), rfl, _, rfl, len_ne (show (us.length : Int) ≠ 4 by omega) ?_⟩
      refine ⟨_, rfl, l, _, rfl, .inl (SqL.of hl), rfl, _, rfl, len_ne (show (us.length : Int) ≠ 5 by omega) ?_⟩
      refine ⟨_, rfl, l, _, rfl, .inl (SqL.of hl), rfl, _, rfl, len_ne (show (us.length : Int) ≠ 6 by omega) ?_⟩
      refine ⟨_, rfl, l, _, rfl, .inl (SqL.of hl), rfl, _, rfl, len_ne (show (us.length : Int) ≠ 7 by omega) ?_⟩
      refine ⟨_, rfl, l, _, rfl, .inl (SqL.of hl), rfl, _, rfl, len_ne (show (us.length : Int) ≠ 40 by omega) ?_⟩
      refine ⟨_, rfl, l, _, rfl, .inl (SqL.of hl), rfl, _, rfl, len_ne (show (us.length : Int) ≠ 120 by omega) ?_⟩
      exact ⟨_, rfl, _, rfl, l, cnt, ds, us, rfl, hl, hm, R⟩
theorem ok_law_keyed {f C CI : Addr} {fd : FuncData} (F : Fun K "_law_keyed" "_law_keyed" s_law_keyed f fd) (B : Blt mg) (gP : mg "Pipeline" = some (.ref C)) (D : ClsK P w K mg base C 4 "capacity" (spPipeK K C CI)) : FnOk P w K mg base (L2N.CX P w) 6 f fd ["count", "c", "extra"] (spKeyed K C CI) := by
  refine okN F sc_law_keyed (fun vs H Q E h => ?_) (fun cdv A outer s H vs Q E hr h => ?_)
  · obtain ⟨l, cnt, extra, ds, us, rfl, _⟩ := h
    rfl
  · obtain ⟨l, cnt, extra, ds, us, rfl, hl, hn, R⟩ := h
    have use := R.use
    clear R
    refine ⟨_, (pss_cons (ps_if (pt_cmpR op_eq (pe_callB call_len_seq (by rfl) B.len bt_len (pa_cons (pv 1) pa_nil)) pe_int (nomark _)) (pss_one (ps_ret (pe_cck D gP hr psEn (pa_cons (pv 0) pa_nil) (pv 2)))) pss_nil)
      (pss_cons (ps_if (pt_cmpR op_eq (pe_callB call_len_seq (by rfl) B.len bt_len (pa_cons (pv 1) pa_nil)) pe_int (nomark _)) (pss_one (ps_ret (pe_cck D gP hr psEn (pa_cons (pv 0) (pa_cons (pe_ix ix_list (pv 1) pe_int (fun _ _ => rfl)) pa_nil)) (pv 2)))) pss_nil)
      (pss_cons (ps_if (pt_cmpR op_eq (pe_callB call_len_seq (by rfl) B.len bt_len (pa_cons (pv 1) pa_nil)) pe_int (nomark _)) (pss_one (ps_ret (pe_cck D gP hr psEn (pa_cons (pv 0) (pa_cons (pe_ix ix_list (pv 1) pe_int (fun _ _ => rfl)) (pa_cons (pe_ix ix_list (pv 1) pe_int (fun _ _ => rfl)) pa_nil))) (pv 2)))) pss_nil)
      (pss_cons (ps_if (pt_cmpR op_eq (pe_callB call_len_seq (by rfl) B.len bt_len (pa_cons (pv 1) pa_nil)) pe_int (nomark _)) (pss_one (ps_ret (pe_cck D gP hr psEn (pa_cons (pv 0) (pa_cons (pe_ix ix_list (pv 1) pe_int (fun _ _ => rfl)) (pa_cons (pe_ix ix_list (pv 1) pe_int (fun _ _ => rfl)) (pa_cons (pe_ix ix_list (pv 1) pe_int (fun _ _ => rfl)) pa_nil)))) (pv 2)))) pss_nil)
      (pss_cons (ps_if (pt_cmpR op_eq (pe_callB call_len_seq (by rfl) B.len bt_len (pa_cons (pv 1) pa_nil)) pe_int (nomark _)) (pss_one (ps_ret (pe_cck D gP hr psEn (pa_cons (pv 0) (pa_cons (pe_ix ix_list (pv 1) pe_int (fun _ _ => rfl)) (pa_cons (pe_ix ix_list (pv 1) pe_int (fun _ _ => rfl)) (pa_cons (pe_ix ix_list (pv 1) pe_int (fun _ _ => rfl)) (pa_cons (pe_ix ix_list (pv 1) pe_int (fun _ _ => rfl)) pa_nil))))) (pv 2)))) pss_nil)
      (pss_cons (ps_if (pt_cmpR op_eq (pe_callB call_len_seq (by rfl) B.len bt_len (pa_cons (pv 1) pa_nil)) pe_int (nomark _)) (pss_one (ps_ret (pe_cck D gP hr psEn (pa_cons (pv 0) (pa_cons (pe_ix ix_list (pv 1) pe_int (fun _ _ => rfl)) (pa_cons (pe_ix ix_list (pv 1) pe_int (fun _ _ => rfl)) (pa_cons (pe_ix ix_list (pv 1) pe_int (fun _ _ => rfl)) (pa_cons (pe_ix ix_list (pv 1) pe_int (fun _ _ => rfl)) (pa_cons (pe_ix ix_list (pv 1) pe_int (fun _ _ => rfl)) pa_nil)))))) (pv 2)))) pss_nil)
      (pss_cons (ps_if (pt_cmpR op_eq (pe_callB call_len_seq (by rfl) B.len bt_len (pa_cons (pv 1) pa_nil)) pe_int (nomark _)) (pss_one (ps_ret (pe_cck D gP hr psEn (pa_cons (pv 0) (pa_cons (pe_ix ix_list (pv 1) pe_int (fun _ _ => rfl)) (pa_cons (pe_ix ix_list (pv 1) pe_int (fun _ _ => rfl)) (pa_cons (pe_ix ix_list (pv 1) pe_int (fun _ _ => rfl)) (pa_cons (pe_ix ix_list (pv 1) pe_int (fun _ _ => rfl)) (pa_cons (pe_ix ix_list (pv 1) pe_int (fun _ _ => rfl)) (pa_cons (pe_ix ix_list (pv 1) pe_int (fun _ _ => rfl)) pa_nil))))))) (pv 2)))) pss_nil)
      (pss_one (ps_ret (pe_cck D gP hr psEn (pa_cons (pv 0) (pa_cons (pe_ix ix_list (pv 1) pe_int (fun _ _ => rfl)) (pa_cons (pe_ix ix_list (pv 1) pe_int (fun _ _ => rfl)) (pa_cons (pe_ix ix_list (pv 1) pe_int (fun _ _ => rfl)) (pa_cons (pe_ix ix_list (pv 1) pe_int (fun _ _ => rfl)) (pa_cons (pe_ix ix_list (pv 1) pe_int (fun _ _ => rfl)) (pa_cons (pe_ix ix_list (pv 1) pe_int (fun _ _ => rfl)) (pa_cons (pe_ix ix_list (pv 1) pe_int (fun _ _ => rfl)) pa_nil)))))))) (pv 2))))))))))), ?_⟩
    obtain ⟨m, hm⟩ : ∃ m, us.length = m := ⟨_, rfl⟩
    rcases (by omega : m = 0 ∨ m = 1 ∨ m = 2 ∨ m = 3 ∨ m = 4 ∨ m = 5 ∨ m = 6 ∨ m = 7) with rfl | rfl | rfl | rfl | rfl | rfl | rfl | rfl
    · obtain rfl := List.length_eq_zero_iff.mp hm
      refine ⟨_, rfl, l, _, rfl, .inl (SqL.of hl), rfl, _, rfl, len_eq rfl ?_⟩
      exact ⟨_, rfl, _, rfl, use⟩
    · obtain ⟨u0, us0, e0, z0⟩ := len_succ hm
      subst e0
      obtain rfl := List.length_eq_zero_iff.mp z0
      refine ⟨_, rfl, l, _, rfl, .inl (SqL.of hl), rfl, _, rfl, len_ne (show ((1 : Nat) : Int) ≠ 0 by decide) ?_⟩
      refine ⟨_, rfl, l, _, rfl, .inl (SqL.of hl), rfl, _, rfl, len_eq rfl ?_⟩
      exact ⟨_, rfl, _, rfl, l, _, _, _, rfl, rfl, SqL.of hl, atI_nat (j := 0) rfl, _, rfl, use⟩
    · obtain ⟨u0, us0, e0, z0⟩ := len_succ hm
      subst e0
      obtain ⟨u1, us1, e1, z1⟩ := len_succ z0
      subst e1
      obtain rfl := List.length_eq_zero_iff.mp z1
      refine ⟨_, rfl, l, _, rfl, .inl (SqL.of hl), rfl, _, rfl, len_ne (show ((2 : Nat) : Int) ≠ 0 by decide) ?_⟩
      refine ⟨_, rfl, l, _, rfl, .inl (SqL.of hl), rfl, _, rfl, len_ne (show ((2 : Nat) : Int) ≠ 1 by decide) ?_⟩
      refine ⟨_, rfl, l, _, rfl, .inl (SqL.of hl), rfl, _, rfl, len_eq rfl ?_⟩
      exact ⟨_, rfl, _, rfl, l, _, _, _, rfl, rfl, SqL.of hl, atI_nat (j := 0) rfl, _, rfl, l, _, _, _, rfl, rfl, SqL.of hl, atI_nat (j := 1) rfl, _, rfl, use⟩
    · obtain ⟨u0, us0, e0, z0⟩ := len_succ hm
      subst e0
      obtain ⟨u1, us1, e1, z1⟩ := len_succ z0
      subst e1
      obtain ⟨u2, us2, e2, z2⟩ := len_succ z1
      subst e2
      obtain rfl := List.length_eq_zero_iff.mp z2
      refine ⟨_, rfl, l, _, rfl, .inl (SqL.of hl), rfl, _, rfl, len_ne (show ((3 : Nat) : Int) ≠ 0 by decide) ?_⟩
      refine ⟨_, rfl, l, _, rfl, .inl (SqL.of hl), rfl, _, rfl, len_ne (show ((3 : Nat) : Int) ≠ 1 by decide) ?_⟩
      refine ⟨_, rfl, l, _, rfl, .inl (SqL.of hl), rfl, _, rfl, len_ne (show ((3 : Nat) : Int) ≠ 2 by decide) ?_⟩
      refine ⟨_, rfl, l, _, rfl, .inl (SqL.of hl), rfl, _, rfl, len_eq rfl ?_⟩
      exact ⟨_, rfl, _, rfl, l, _, _, _, rfl, rfl, SqL.of hl, atI_nat (j := 0) rfl, _, rfl, l, _, _, _, rfl, rfl, SqL.of hl, atI_nat (j := 1) rfl, _, rfl, l, _, _, _, rfl, rfl, SqL.of hl, atI_nat (j := 2) rfl, _, rfl, use⟩
    · obtain ⟨u0, us0, e0, z0⟩ := len_succ hm
      subst e0
      obtain ⟨u1, us1, e1, z1⟩ := len_succ z0
      subst e1
      obtain ⟨u2, us2, e2, z2⟩ := len_succ z1
      subst e2
      obtain ⟨u3, us3, e3, z3⟩ := len_succ z2
      subst e3
      obtain rfl := List.length_eq_zero_iff.mp z3
      refine ⟨_, rfl, l, _, rfl, .inl (SqL.of hl), rfl, _, rfl, len_ne (show ((4 : Nat) : Int) ≠ 0 by decide) ?_⟩
      refine ⟨_, rfl, l, _, rfl, .inl (SqL.of hl), rfl, _, rfl, len_ne (show ((4 : Nat) : Int) ≠ 1 by decide) ?_⟩
      refine ⟨_, rfl, l, _, rfl, .inl (SqL.of hl), rfl, _, rfl, len_ne (show ((4 : Nat) : Int) ≠ 2 by decide) ?_⟩
      refine ⟨_, rfl, l, _, rfl, .inl (SqL.of hl), rfl, _, rfl, len_ne (show ((4 : Nat) : Int) ≠ 3 by decide) ?_⟩
      refine ⟨_, rfl, l, _, rfl, .inl (SqL.of hl), rfl, _, rfl, len_eq rfl ?_⟩
      exact ⟨_, rfl, _, rfl, l, _, _, _, rfl, rfl, SqL.of hl, atI_nat (j := 0) rfl, _, rfl, l, _, _, _, rfl, rfl, SqL.of hl, atI_nat (j := 1) rfl, _, rfl, l, _, _, _, rfl, rfl, SqL.of hl, atI_nat (j := 2) rfl, _, rfl, l, _, _, _, rfl, rfl, SqL.of hl, atI_nat (j := 3) rfl, _, rfl, use⟩
    · obtain ⟨u0, us0, e0, z0⟩ := len_succ hm
      subst e0
      obtain ⟨u1, us1, e1, z1⟩ := len_succ z0
      subst e1
      obtain ⟨u2, us2, e2, z2⟩ := len_succ z1
      subst e2
      obtain ⟨u3, us3, e3, z3⟩ := len_succ z2
      subst e3
      obtain ⟨u4, us4, e4, z4⟩ := len_succ z3
      subst e4
      obtain rfl := List.length_eq_zero_iff.mp z4
      refine ⟨_, rfl, l, _, rfl, .inl (SqL.of hl), rfl, _, rfl, len_ne (show ((5 : Nat) : Int) ≠ 0 by decide) ?_⟩
      refine ⟨_, rfl, l, _, rfl, .inl (SqL.of hl), rfl, _, rfl, len_ne (show ((5 : Nat) : Int) ≠ 1 by decide) ?_⟩
      refine ⟨_, rfl, l, _, rfl, .inl (SqL.of hl), rfl, _, rfl, len_ne (show ((5 : Nat) : Int) ≠ 2 by decide) ?_⟩
      refine ⟨_, rfl, l, _, rfl, .inl (SqL.of hl), rfl, _, rfl, len_ne (show ((5 : Nat) : Int) ≠ 3 by decide) ?_⟩
      refine ⟨_, rfl, l, _, rfl, .inl (SqL.of hl), rfl, _, rfl, len_ne (show ((5 : Nat) : Int) ≠ 4 by decide) ?_⟩
      refine ⟨_, rfl, l, _, rfl, .inl (SqL.of hl), rfl, _, rfl, len_eq rfl ?_⟩
      exact ⟨_, rfl, _, rfl, l, _, _, _, rfl, rfl, SqL.of hl, atI_nat (j := 0) rfl, _, rfl, l, _, _, _, rfl, rfl, SqL.of hl, atI_nat (j := 1) rfl, _, rfl, l, _, _, _, rfl, rfl, SqL.of hl, atI_nat (j := 2) rfl, _, rfl, l, _, _, _, rfl, rfl, SqL.of hl, atI_nat (j := 3) rfl, _, rfl, l, _, _, _, rfl, rfl, SqL.of hl, atI_nat (j := 4) rfl, _, rfl, use⟩
    · obtain ⟨u0, us0, e0, z0⟩ := len_succ hm
      subst e0
      obtain ⟨u1, us1, e1, z1⟩ := len_succ z0
      subst e1
      obtain ⟨u2, us2, e2, z2⟩ := len_succ z1
      subst e2
      obtain ⟨u3, us3, e3, z3⟩ := len_succ z2
      subst e3
      obtain ⟨u4, us4, e4, z4⟩ := len_succ z3
      subst e4
      obtain ⟨u5, us5, e5, z5⟩ := len_succ z4
      subst e5
      obtain rfl := List.length_eq_zero_iff.mp z5
      refine ⟨_, rfl, l, _, rfl, .inl (SqL.of hl), rfl, _, rfl, len_ne (show ((6 : Nat) : Int) ≠ 0 by decide) ?_⟩
      refine ⟨_, rfl, l, _, rfl, .inl (SqL.of hl), rfl, _, rfl, len_ne (show ((6 : Nat) : Int) ≠ 1 by decide) ?_⟩
      refine ⟨_, rfl, l, _, rfl, .inl (SqL.of hl), rfl, _, rfl, len_ne (show ((6 : Nat) : Int) ≠ 2 by decide) ?_⟩
      refine ⟨_, rfl, l, _, rfl, .inl (SqL.of hl), rfl, _, rfl, len_ne (show ((6 : Nat) : Int) ≠ 3 by decide) ?_⟩
      refine ⟨_, rfl, l, _, rfl, .inl (SqL.of hl), rfl, _, rfl, len_ne (show ((6 : Nat) : Int) ≠ 4 by decide) ?_⟩
      refine ⟨_, rfl, l, _, rfl, .inl (SqL.of hl), rfl, _, rfl, len_ne (show ((6 : Nat) : Int) ≠ 5 by decide) ?_⟩
      refine ⟨_, rfl, l, _, rfl, .inl (SqL.of hl), rfl, _, rfl, len_eq rfl ?_⟩
      exact ⟨_, rfl, _, rfl, l, _, _, _, rfl, rfl, SqL.of hl, atI_nat (j := 0) rfl, _, rfl, l, _, _, _, rfl, rfl, SqL.of hl, atI_nat (j := 1) rfl, _, rfl, l, _, _, _, rfl, rfl, SqL.of hl, atI_nat (j := 2) rfl, _, rfl, l, _, _, _, rfl, rfl, SqL.of hl, atI_nat (j := 3) rfl, _, rfl, l, _, _, _, rfl, rfl, SqL.of hl, atI_nat (j := 4) rfl, _, rfl, l, _, _, _, rfl, rfl, SqL.of hl, atI_nat (j := 5) rfl, _, rfl, use⟩
    · obtain ⟨u0, us0, e0, z0⟩ := len_succ hm
      subst e0
      obtain ⟨u1, us1, e1, z1⟩ := len_succ z0
      subst e1
      obtain ⟨u2, us2, e2, z2⟩ := len_succ z1
      subst e2
      obtain ⟨u3, us3, e3, z3⟩ := len_succ z2
      subst e3
      obtain ⟨u4, us4, e4, z4⟩ := len_succ z3
      subst e4
      obtain ⟨u5, us5, e5, z5⟩ := len_succ z4
      subst e5
      obtain ⟨u6, us6, e6, z6⟩ := len_succ z5
      subst e6
      obtain rfl := List.length_eq_zero_iff.mp z6
      refine ⟨_, rfl, l, _, rfl, .inl (SqL.of hl), rfl, _, rfl, len_ne (show ((7 : Nat) : Int) ≠ 0 by decide) ?_⟩
      refine ⟨_, rfl, l, _, rfl, .inl (SqL.of hl), rfl, _, rfl, len_ne (show ((7 : Nat) : Int) ≠ 1 by decide) ?_⟩
      refine ⟨_, rfl, l, _, rfl, .inl (SqL.of hl), rfl, _, rfl, len_ne (show ((7 : Nat) : Int) ≠ 2 by decide) ?_⟩
      refine ⟨_, rfl, l, _, rfl, .inl (SqL.of hl), rfl, _, rfl, len_ne (show ((7 : Nat) : Int) ≠ 3 by decide) ?_⟩
      refine ⟨_, rfl, l, _, rfl, .inl (SqL.of hl), rfl, _, rfl, len_ne (show ((7 : Nat) : Int) ≠ 4 by decide) ?_⟩
      refine ⟨_, rfl, l, _, rfl, .inl (SqL.of hl), rfl, _, rfl, len_ne (show ((7 : Nat) : Int) ≠ 5 by decide) ?_⟩
      refine ⟨_, rfl, l, _, rfl, .inl (SqL.of hl), rfl, _, rfl, len_ne (show ((7 : Nat) : Int) ≠ 6 by decide) ?_⟩
      exact ⟨_, rfl, _, rfl, l, _, _, _, rfl, rfl, SqL.of hl, atI_nat (j := 0) rfl, _, rfl, l, _, _, _, rfl, rfl, SqL.of hl, atI_nat (j := 1) rfl, _, rfl, l, _, _, _, rfl, rfl, SqL.of hl, atI_nat (j := 2) rfl, _, rfl, l, _, _, _, rfl, rfl, SqL.of hl, atI_nat (j := 3) rfl, _, rfl, l, _, _, _, rfl, rfl, SqL.of hl, atI_nat (j := 4) rfl, _, rfl, l, _, _, _, rfl, rfl, SqL.of hl, atI_nat (j := 5) rfl, _, rfl, l, _, _, _, rfl, rfl, SqL.of hl, atI_nat (j := 6) rfl, _, rfl, use⟩
end
end WC

set_option maxHeartbeats 8000000
namespace WC
open PySem PySem.Spec PyProof.Rows L2 L2H
structure NOk (n : Nat) (cs : List Tri) : Prop where
  ok : ∀ c ∈ cs, ChOk n c
  len : cs.length ≤ 130
def triV (c : Tri) : List V := [.int c.1, .int c.2.1, .int c.2.2]
theorem rows_tris {H : Hp} : ∀ {cs : List Tri} {vs : List V}, Paired (TriA H) cs vs → Paired (RowV H) (cs.map triV) vs
  | _, _, .nil => .nil
  | _, _, .cons ⟨t, e, h⟩ r => .cons ⟨t, e, h⟩ (rows_tris r)
theorem rows_plain (cs : List Tri) : ∀ r ∈ cs.map triV, r.length ≤ 1000 ∧ ∀ x ∈ r, plainV x = true := fun r hr => by
  obtain ⟨c, _, rfl⟩ := List.mem_map.mp hr
  refine ⟨by show 3 ≤ 1000; decide, fun x hx => ?_⟩
  simp only [triV, List.mem_cons, List.not_mem_nil, or_false] at hx
  rcases hx with e | e | e <;> rw [e] <;> rfl
def slotsM (cs : List Tri) : Int := (cs.map fun c => c.2.2).sum
def spSlots (CS : List Addr) : Sp := fun vs H Q _ => ∃ (C x : Addr) (n : Nat) (cs : List Tri), C ∈ CS ∧ vs = [.ref x] ∧ NetAt H x C n cs ∧ NOk n cs ∧ ∀ H2, Same H H2 → Q (.int (slotsM cs)) H2
structure SlotR (P : Program) (w : World) (K : PySem.W.Frag) (mg : Str → Option Value) (base : Heap) (CS : List Addr) : Prop where
  ex : ∀ C ∈ CS, ∃ p g fd ps, Cls K C ∧ PropOf K C "slots" p g ∧ FnOk P w K mg base (L2.CX P w) 1 g fd ps (spSlots CS) ∧ Binds K fd ps []
theorem pe_slots {X : Cx} {C : Addr} {CS : List Addr} {e : Expr} {ta : TE} {pos : Pos} (D : SlotR X.prog X.w X.K X.mg X.base CS) (hC : C ∈ CS) (he : PE X e ta) (hr : Room 2 X.A) (hab : attributeBase e "slots" X.env (eval e X.env) = eval e X.env := by rfl) : PE X (.Attribute e "slots" pos) (tProp C (spSlots CS) [] E0 ta) := by
  obtain ⟨p, g, fd, ps, c, hp, F, hb⟩ := D.ex C hC
  exact pe_prop he c hp F hr hb .nil passL hab
theorem srt_strict {n : Nat} {cs : List Tri} (hn : n ≤ 40) (ok : ∀ c ∈ cs, ChOk n c) (nd : (cs.map pairOf2).Nodup) (srt : cs.Pairwise fun a b => key a ≤ key b) : cs.Pairwise fun a b => key a < key b := by
  have nd : cs.Pairwise fun a b => pairOf2 a ≠ pairOf2 b := by
    have z := nd
    rw [List.Nodup, List.pairwise_map] at z
    exact z
  refine List.Pairwise.imp_of_mem (fun {a b} ma mb z => ?_) (srt.and nd)
  obtain ⟨z1, z2⟩ := z
  obtain ⟨⟨a1, a2⟩, ⟨a3, a4⟩, _, a5, a6⟩ := ok a ma
  obtain ⟨⟨b1, b2⟩, ⟨b3, b4⟩, _, b5, b6⟩ := ok b mb
  have z3 : ¬ (a.1 = b.1 ∧ a.2.1 = b.2.1) := fun ⟨e1, e2⟩ => z2 (by unfold pairOf2; rw [e1, e2])
  unfold key at z1 ⊢
  omega
theorem c_lst {X : Cx} {K : PySem.W.Frag} (h : X.K = K := by rfl) : CallR X (.type "list") (fun xs H Q => ∃ p ys, xs = [V.ref p] ∧ (SqL K H p ys ∨ SqT K H p ys) ∧ ∀ l : Addr, H l = none → Q (V.ref l) (upd H l (.lst ys))) := by
  subst h
  exact call_list_of
theorem bt_verr : bootBuiltins "ValueError" = some (.type "ValueError") := by decide +kernel
theorem lk_pos {a b : V} : List.lookup ("position" : Str) [(("position" : Str), a), (("reason" : Str), b)] = some a := rfl
theorem lk_rea {a b : V} : List.lookup ("reason" : Str) [(("position" : Str), a), (("reason" : Str), b)] = some b := by
  have h : (("reason" : Str) == ("position" : Str)) = false := by decide +kernel
  simp [List.lookup, h]

theorem tri_key (H : Hp) : ∃ kf : V → I3, ∀ c v, TriA H c v → kf v = c := by
  classical
  refine ⟨fun v => if h : ∃ c, TriA H c v then h.choose else (0, 0, 0), fun c v hc => ?_⟩
  have h : ∃ c, TriA H c v := ⟨c, hc⟩
  dsimp only
  rw [dif_pos h]
  obtain ⟨t1, e1, e2⟩ := h.choose_spec
  obtain ⟨t2, e3, e4⟩ := hc
  rw [e1] at e3
  cases e3
  rw [e2] at e4
  injection e4 with e4
  injection e4 with e4
  simp only [List.cons.injEq, V.int.injEq, and_true] at e4
  exact Prod.ext e4.1 (Prod.ext e4.2.1 e4.2.2)
theorem perm_sum {a b : List Int} (h : a.Perm b) : a.sum = b.sum := by
  induction h with
  | nil => rfl
  | cons x _ ih => rw [List.sum_cons, List.sum_cons, ih]
  | swap x y l => simp only [List.sum_cons]; omega
  | trans _ _ h1 h2 => rw [h1, h2]
theorem due_plain {cnt extra : V} {ds : List Chn} {w : Str} {p : V} (h : DueP cnt ds extra (some (w, p))) : plainV p = true := by
  rcases h with ⟨_, e⟩ | ⟨n, _, _, _, ⟨_, e⟩ | ⟨_, ⟨m, w2, _, e⟩ | ⟨_, ⟨_, e⟩ | ⟨x, _, _, ⟨_, e⟩ | ⟨_, e⟩⟩⟩⟩⟩
  all_goals first | (injection e with e; injection e with _ e2; rw [e2]; rfl) | cases e
def spGoodP (CP : Addr) : Sp := fun vs H Q _ => ∃ (x G : Addr) (n : Nat) (e : Int) (ds : List Chn) (ws : List V) (cs : List Tri), vs = [.ref x, .int n, .ref G, .int e] ∧ NetAt H x CP n cs ∧ cs.Perm (ds.map (triC e)) ∧ cs.Pairwise (fun a b => key a ≤ key b) ∧ AllOk n ds ∧ (1 ≤ e ∧ e ≤ 999) ∧ n ≤ 40 ∧ H G = some (.lst ws) ∧ Paired (ChA H) ds ws ∧ ds.length ≤ 130 ∧ ∀ H2, Same H H2 → Q (.bl true) H2
theorem allok_nd {n : Int} {ds : List Chn} (h : AllOk n ds) : (ds.map pairC).Nodup := by
  rw [List.Nodup, List.pairwise_iff_getElem]
  intro i j hi hj hij e
  rw [List.length_map] at hi hj
  have hd : ds[j]? = some ds[j] := by simp [hj]
  obtain ⟨_, nm⟩ := word_none (h j _ hd)
  refine nm (List.mem_map.mpr ⟨ds[i], List.mem_iff_getElem?.mpr ⟨i, ?_⟩, ?_⟩)
  · rw [List.getElem?_take_of_lt hij]
    simp [hi]
  · simpa using e
def Lens (keyed : Bool) (n : Nat) : Prop := n ≤ 7 ∨ (keyed = false ∧ (n = 40 ∨ n = 120 ∨ n = 121))
def spAns (K : PySem.W.Frag) : Sp := fun vs H Q _ => ∃ (G : Addr) (cnt extra v : V) (keyed : Bool) (ds : List Chn) (ws : List V) (o : Option (Str × V)), vs = [cnt, .ref G, extra, .bl keyed, v] ∧ Known K H cnt ∧ Known K H extra ∧ H G = some (.lst ws) ∧ Paired (ChA H) ds ws ∧ Lens keyed ws.length ∧ (keyed = false → extra = .int 1) ∧ DueP cnt ds extra o ∧ OutV H o v ∧ ∀ H2, Same H H2 → Q (.bl true) H2
/-- what is asked of the errors' classes -/
structure ErrL (K : PySem.W.Frag) (mg : Str → Option Value) (CW CI CB CM CS CT CN : Addr) : Prop where
  gW : mg "WithinCallError" = some (.ref CW)
  gI : mg "InvalidNet" = some (.ref CI)
  gB : mg "Blocked" = some (.ref CB)
  gM : mg "InvalidMove" = some (.ref CM)
  gS : mg "InvalidState" = some (.ref CS)
  gT : mg "InvalidText" = some (.ref CT)
  gN : mg "NotFound" = some (.ref CN)
  iW : PySem.W.exmOne K (.ref CI) (.ref CW) = some true
  ic : ExcC K CI
  ixf : XfC K CI
  kII : PySem.W.kitOne K (.ref CI) (.ref CI) = some true
  kV : PySem.W.kitOne K (.ref CI) (.type "ValueError") = some true
  kAny : PySem.W.kitAny K (.ref CI) [.ref CB, .ref CM, .ref CS, .ref CT, .ref CN] = some false
  rea : PySem.W.findIn K (.ref CI) "reason" = some none
  pos : PySem.W.findIn K (.ref CI) "position" = some none
section
variable {P : Program} {w : World} {K : PySem.W.Frag} {mg : Str → Option Value} {base : Heap}
theorem ok_slots {f : Addr} {CS : List Addr} {fd : FuncData} (F : Fun K "slots" "Net.slots" s_Net_slots f fd) (B : Blt mg) (T : ∀ C ∈ CS, NetCls K C) : FnOk P w K mg base (L2.CX P w) 1 f fd ["self"] (spSlots CS) := by
  refine F.okX sc_Net_slots (fun vs H Q E h => ?_) (fun cdv A outer s H vs Q E hr h => ?_)
  · obtain ⟨C, x, n, cs, _, rfl, _⟩ := h
    rfl
  · obtain ⟨C, x, n, cs, hC, rfl, NA, G, q⟩ := h
    have TC := T C hC
    have hlen := G.len
    obtain ⟨dx, tc, ti, to, ws, hx, htc, hp, _⟩ := NA.ex
    -- slots: 0 self, 1 _, 2 capacity
    refine ⟨_, (pss_one (ps_ret (pe_callB (cr_sum rfl) (by rfl) B.sum bt_sum (pa_cons (pe_lc (own := [("_", 1), ("capacity", 2)]) rfl sc_Net_slots.nd (pi_tup (pe_fld (pv 0) rfl)) (blkOk_by (N := nn_Net_slots) (sc := defScope s_Net_slots) (own := [("_", 1), ("capacity", 2)]) (by decide +kernel)) (fun _ _ _ _ _ => (pg_tupK (K := K) (n := 3) rfl (pgs_cons (pg_name (i := 1) sc_Net_slots.nd rfl (Or.inl rfl)) (pgs_cons (pg_name (i := 1) sc_Net_slots.nd rfl (Or.inl rfl)) (pgs_cons (pg_name (i := 2) sc_Net_slots.nd rfl (Or.inl rfl)) pgs_nil))))) (fun _ _ _ _ _ => pts_nil) (fun _ _ _ _ _ => (pv 2))) pa_nil)))), ?_⟩
    refine ⟨_, rfl, x, C, dx, _, _, rfl, hx, TC.cl, TC.nC, lk_ch, tc, rfl, ⟨_, SqT.of htc⟩, fun D hD => lc_tup (K := K) (a := tc) (xs := ws) (fun i H3 => Same H H3 ∧ H3 D = some (.lst (((cs.take i).map fun c => c.2.2).map V.int))) ⟨Same.new hD, upd_same⟩ (fun i H3 _ z => SqT.of (z.1 _ _ htc)) ?_ ?_⟩
    · rintro i y H3 hy ⟨s3, hd⟩
      obtain ⟨c, hci, tt, rfl, htt⟩ := pr_at hp hy
      refine ⟨tt, _, rfl, SqT.of (s3 _ _ htt), rfl, _, _, rfl, _, _, rfl, _, _, rfl, rfl, rfl, yes ⟨_, rfl, _, hd, ?_, Same.newer s3 hD, ?_⟩⟩
      · rw [List.length_map, List.length_map, List.length_take]
        exact line_lt (by omega)
      · rw [upd_same, take_snoc hci, List.map_append, List.map_append]
        rfl
    · rintro H3 ⟨s3, hd⟩
      rw [← hp.length, List.take_length] at hd
      exact ⟨D, _, rfl, SqL.of hd, q _ s3⟩
theorem ok_same_row_H {f : Addr} {fd : FuncData} (F : Fun K "_law_same_row" "_law_same_row" s_law_same_row f fd) (B : Blt mg) (g_law_same : DefQ P w K mg base "_law_same" 1 spSame) : FnH P w K mg base (L2.CX P w) 2 f fd ["told", "due"] (spSR K) := by
  refine okH F sc_law_same_row (fun vs H Q E h => ?_) (fun cdv A outer s H vs Q E p hr hc h => ?_)
  · obtain ⟨t, d, k, xs, rfl, _⟩ := h
    rfl
  · obtain ⟨t, d, k, xs, rfl, ht, hd, hlen, pl, q⟩ := h
    -- slots: 0 told, 1 due, 2 k
    refine ⟨_, (pss_cons (ps_if (PW.pt (pw_or (pt_not (pt_val (pe_callB call_isi (by rfl) B.isi bt_isi (pa_cons (pv 0) (pa_cons (pe_bltn (v := .ty "tuple") (by rfl) B.tuple bt_tuple rfl) pa_nil))))) (pw_or1 (pt_cmpR op_ne (pe_callB call_len_seq (by rfl) B.len bt_len (pa_cons (pv 0) pa_nil)) (pe_callB call_len_seq (by rfl) B.len bt_len (pa_cons (pv 1) pa_nil)) (nomark _))))) (pss_one (ps_ret pe_bl)) pss_nil)
      (pss_cons (ps_forH (passes_of rfl) hc (pi_range1H (by rfl) B.range (pa_cons (pe_callB call_len_seq (by rfl) B.len bt_len (pa_cons (pv 1) pa_nil)) pa_nil)) (pg_name (i := 2) sc_law_same_row.nd rfl (Or.inl rfl))
        (pss_one (ps_if (pt_not (pt_val (pe_cq g_law_same hr (pa_cons (pe_ix ix_tup (pv 0) (pv 2) (fun _ _ => rfl)) (pa_cons (pe_ix ix_seq (pv 1) (pv 2) (fun _ _ => rfl)) pa_nil))))) (pss_one (ps_ret pe_bl)) pss_nil)))
      (pss_one (ps_ret pe_bl)))), ?_⟩
    refine ⟨_, rfl, _, _, _, _, _, rfl, .ty _, .base (.tup ht), kit_ty (r := true) (by decide +kernel), _, rfl, ?_⟩
    refine iteF ⟨_, rfl, t, _, rfl, .inr (SqT.of ht), _, rfl, d, _, rfl, sqx_or hd, rfl, _, rfl, ?_⟩
    have e0 : (!decide (V.int (xs.length : Nat) = V.int (xs.length : Nat))) = false := by simp
    rw [e0]
    refine iteF ⟨_, rfl, d, _, rfl, sqx_or hd, _, rfl, by omega, by omega, for_range (lo := 0) (n := xs.length) (fun i σ H2 => ∃ v2, σ = [some (.ref t), some (.ref d), v2] ∧ Same H H2) ⟨_, rfl, Same.refl H⟩ ?_ ?_⟩
    · rintro i σ H2 hi ⟨v2, rfl, s2⟩
      have e1 : xs[i]? = some xs[i] := by simp [hi]
      have e2 : atI xs ((0 : Int) + i) = some xs[i] := by rw [Int.zero_add]; exact atI_nat e1
      refine ⟨_, rfl, _, rfl, t, _, _, _, rfl, rfl, SqT.of (s2 _ _ ht), e2, _, rfl, _, rfl, sqx_ix (sqx_same hd s2) e2 ⟨_, rfl, pl _ (List.getElem_mem hi), _, rfl, iteF ⟨_, rfl, s2⟩⟩⟩
    · rintro σ H2 ⟨v2, rfl, s2⟩
      exact q _ s2
theorem ok_law_good {f CP : Addr} {fd : FuncData} (F : Fun K "_law_good" "_law_good" s_law_good f fd) (B : Blt mg) (TC : NetCls K CP) (SL : SlotR P w K mg base [CP]) (g_law_same : DefQ P w K mg base "_law_same" 1 spSame) (g_law_same_rows : DefR P w K mg base "_law_same_rows" 3 (spSRs K)) :
    FnOk P w K mg base (L2.CX P w) 5 f fd ["net", "count", "given", "extra"] (spGoodP CP) := by
  refine F.okX sc_law_good (fun vs H Q E h => ?_) (fun cdv A outer s H vs Q E hr h => ?_)
  · obtain ⟨x, G, n, e, ds, ws, cs, rfl, _⟩ := h
    rfl
  · obtain ⟨x, G, n, e, ds, ws, cs, rfl, NA, perm, srt, hok, he, n40, hG, hp, hlen, q⟩ := h
    have hrq := L2H.roomH_of hr
    have hCS : CP ∈ [CP] := List.mem_singleton.mpr rfl
    have hwl : ws.length = ds.length := hp.length.symm
    have hgood : ∀ d ∈ ds, GoodC n d := fun d hd => by
      obtain ⟨j, hj⟩ := List.mem_iff_getElem?.mp hd
      exact (word_none (hok j d hj)).1
    have okT : ∀ c ∈ ds.map (triC e), ChOk n c := fun c hc => by
      obtain ⟨d, hd, rfl⟩ := List.mem_map.mp hc
      exact (good_tri (hgood d hd) he).1
    have ndT : ((ds.map (triC e)).map pairOf2).Nodup := by
      have e2 : (ds.map (triC e)).map pairOf2 = ds.map pairC := by
        rw [List.map_map]
        exact List.map_congr_left fun d hd => good_pair (hgood d hd)
      rw [e2]
      exact allok_nd hok
    have okC : ∀ c ∈ cs, ChOk n c := fun c hc => okT c (perm.mem_iff.mp hc)
    have strict := srt_strict n40 okC ((perm.map _).nodup_iff.mpr ndT) srt
    have lcs : cs.length = ds.length := by rw [perm.length_eq, List.length_map]
    have GN : NOk n cs := ⟨okC, by omega⟩
    obtain ⟨dx, tc, ti, to, ts, hx, htc, hpt, _⟩ := id NA.ex
    -- slots: 0 net, 1 count, 2 given, 3 extra, 4 due, 5 one
    refine ⟨_, (pss_cons (ps_set (i := 4) sc_law_good.nd rfl (Or.inl rfl) (pe_lst pa_nil))
      (pss_cons (ps_for (passes_of rfl) rfl (pi_list (pv 2)) (pg_name (i := 5) sc_law_good.nd rfl (Or.inl rfl))
        (pss_one (ps_expr (pe_bm PySem.F.plainAttrs_list PySem.F.slot_list_append PySem.F.type_list_append mt_append (pv 4) (pa_cons (pe_tup (pa_cons (pe_ix ix_tup (pv 5) pe_int (fun _ _ => rfl)) (pa_cons (pe_ix ix_tup (pv 5) pe_int (fun _ _ => rfl)) (pa_cons (pe_ifExp (pt_cmpR op_eq (pe_callB call_len_seq (by rfl) B.len bt_len (pa_cons (pv 5) pa_nil)) pe_int (nomark _)) (pe_ix ix_tup (pv 5) pe_int (fun _ _ => rfl)) (pv 3)) pa_nil)))) pa_nil)))))
      (pss_cons (ps_if (pt_not (pt_val (pe_cd g_law_same_rows hr psE (pa_cons (pe_fld (pv 0) rfl) (pa_cons (pe_callTy (T := "tuple") (c_tup (K := K)) (by rfl) B.tuple bt_tuple (pa_cons (pe_callB (cr_sort3 (K := K)) (by rfl) B.sorted bt_sorted (pa_cons (pv 4) pa_nil)) pa_nil)) pa_nil))))) (pss_one (ps_ret pe_bl)) pss_nil)
      (pss_one (ps_ret (pe_and (pe_cq g_law_same hrq (pa_cons (pe_fld (pv 0) rfl) (pa_cons (pv 1) pa_nil))) (pe_one (pe_cq g_law_same hrq (pa_cons (pe_slots SL hCS (pv 0) (hr.mono (by decide))) (pa_cons (pe_callB (cr_sum rfl) (by rfl) B.sum bt_sum (pa_cons (pe_lc (own := [("one", 5)]) rfl sc_law_good.nd (pi_list (pv 4)) (blkOk_by (N := nn_law_good) (sc := defScope s_law_good) (own := [("one", 5)]) (by decide +kernel)) (fun _ _ _ _ _ => (pg_name (i := 5) sc_law_good.nd rfl (Or.inl rfl))) (fun _ _ _ _ _ => pts_nil) (fun _ _ _ _ _ => (pe_ix (i_tup (K := K)) (pv 5) pe_int (fun _ _ => rfl)))) pa_nil)) pa_nil)))))))))), ?_⟩
    refine ⟨by show 0 ≤ sizeLine; decide, fun D hD => ?_⟩
    have s1 : Same H (upd H D (.lst [])) := Same.new hD
    refine ⟨_, rfl, G, rfl, ⟨_, SqL.of (s1 _ _ hG)⟩, for_list (K := K) (a := G) (xs := ws) (fun i σ H2 => ∃ v5 ks, σ = [some (.ref x), some (.int n), some (.ref G), some (.int e), some (.ref D), v5] ∧ Same H H2 ∧ H2 D = some (.lst ks) ∧ Paired (TriA H2) ((ds.map (triC e)).take i) ks) ⟨_, [], rfl, s1, upd_same, .nil⟩ (fun i σ H2 _ ⟨_, _, _, s2, _⟩ => SqL.of (s2 _ _ hG)) ?_ ?_⟩
    · rintro i y σ H2 hy ⟨v5, ks, rfl, s2, hks, pks⟩
      obtain ⟨d, hd, hdA⟩ := pr_at hp hy
      have il := (List.getElem?_eq_some_iff.mp hd).1
      have gd := hgood d (List.mem_of_getElem? hd)
      have htri : (ds.map (triC e))[i]? = some (triC e d) := by rw [List.getElem?_map, hd]; rfl
      have lks : ks.length ≤ i := by rw [← pks.length, List.length_take]; omega
      have fin : ∀ p, H2 p = none → (upd H2 p (.tup [.int (triC e d).1, .int (triC e d).2.1, .int (triC e d).2.2])) D = some (.lst ks) ∧ Same H (upd (upd H2 p (.tup [.int (triC e d).1, .int (triC e d).2.1, .int (triC e d).2.2])) D (.lst (ks ++ [.ref p]))) ∧ Paired (TriA (upd (upd H2 p (.tup [.int (triC e d).1, .int (triC e d).2.1, .int (triC e d).2.2])) D (.lst (ks ++ [.ref p])))) ((ds.map (triC e)).take (i + 1)) (ks ++ [.ref p]) := fun p np => by
        have pD : p ≠ D := (ne_of_none hks np).symm
        refine ⟨by rw [upd_ne pD.symm]; exact hks, Same.newer (Same.newer s2 (s2.free np)) hD, ?_⟩
        rw [take_snoc htri]
        refine pr_snoc (Paired.mapP pks fun c2 v2 ⟨t2, e1, e2⟩ => ⟨t2, e1, ?_⟩) ⟨p, rfl, by rw [upd_ne pD, upd_same]⟩
        rw [upd_ne (ne_of e2 hks (by intro z; cases z)), upd_ne (ne_of_none e2 np)]
        exact e2
      obtain ⟨a, b, rest, rfl, hrest, _⟩ := joins_view gd.1
      obtain ⟨t, rfl, ht, _⟩ := hdA
      have ht2 := s2 _ _ ht
      have h2 := gd.2
      refine ⟨_, rfl, .inl ⟨rfl, _, SqL.of hks⟩, _, rfl, t, _, _, _, rfl, rfl, SqT.of ht2, atI_nat (j := 0) rfl, _, rfl, t, _, _, _, rfl, rfl, SqT.of ht2, atI_nat (j := 1) rfl, _, rfl, t, _, rfl, .inr (SqT.of ht2), rfl, _, rfl, ?_⟩
      match rest, hrest, ht2, h2, fin with
      | [], _, ht2, _, fin =>
        refine len_ne (show ((2 : Nat) : Int) ≠ 3 by decide) ⟨_, rfl, by show 3 ≤ sizeLine; decide, fun p np => ?_⟩
        obtain ⟨f1, f2, f3⟩ := fin p np
        exact ⟨D, _, _, rfl, rfl, f1, line_lt (by omega), _, _, rfl, f2, upd_same, f3⟩
      | [c], _, ht2, h2, fin =>
        cases c with
        | int c =>
          refine len_eq (show ((3 : Nat) : Int) = 3 by decide) ⟨_, rfl, t, _, _, _, rfl, rfl, SqT.of ht2, atI_nat (j := 2) rfl, by show 3 ≤ sizeLine; decide, fun p np => ?_⟩
          obtain ⟨f1, f2, f3⟩ := fin p np
          exact ⟨D, _, _, rfl, rfl, f1, line_lt (by omega), _, _, rfl, f2, upd_same, f3⟩
        | _ => cases h2
    rintro σ H2 ⟨v5, ks, rfl, s2, hks, pks⟩
    have el : ws.length = (ds.map (triC e)).length := by rw [List.length_map, hwl]
    rw [el, List.take_length] at pks
    obtain ⟨kf, hkf⟩ := tri_key H2
    refine ⟨_, rfl, x, CP, dx, _, _, rfl, s2 _ _ hx, TC.cl, TC.nC, lk_ch, _, rfl, D, ks, kf, rfl, SqL.of hks, fun v hv => ?_, fun ys p hperm hpw np => ⟨p, ys, rfl, .inl ⟨SqL.of upd_same, fun T nT => ?_⟩⟩⟩
    · obtain ⟨i, hi⟩ := List.mem_iff_getElem?.mp hv
      obtain ⟨c, hc, hcv⟩ := pr_at pks hi
      have ek := hkf c v hcv
      obtain ⟨t, rfl, ht⟩ := hcv
      exact ⟨t, rfl, by rw [ek]; exact ht⟩
    obtain ⟨cs3, hcp, hp3⟩ := pr_perm hperm pks
    have srt3 : cs3.Pairwise fun a b => key a ≤ key b := by
      rw [List.pairwise_iff_getElem]
      intro i j hi hj hij
      obtain ⟨v1, e1, t1, rfl, f1⟩ := pr_to hp3 (i := i) (a := cs3[i]) (by simp [hi])
      obtain ⟨v2, e2, t2, rfl, f2⟩ := pr_to hp3 (i := j) (a := cs3[j]) (by simp [hj])
      obtain ⟨g1, g2⟩ := List.getElem?_eq_some_iff.mp e1
      obtain ⟨g3, g4⟩ := List.getElem?_eq_some_iff.mp e2
      have z := (List.pairwise_iff_getElem.mp hpw) i j g1 g3 hij
      rw [g2, g4, hkf cs3[i] _ ⟨t1, rfl, f1⟩, hkf cs3[j] _ ⟨t2, rfl, f2⟩] at z
      have y := lex3_no.mp z
      obtain ⟨⟨a1, a2⟩, ⟨a3, a4⟩, _, a5, a6⟩ := okT cs3[i] (hcp.mem_iff.mp (List.getElem_mem hi))
      obtain ⟨⟨b1, b2⟩, ⟨b3, b4⟩, _, b5, b6⟩ := okT cs3[j] (hcp.mem_iff.mp (List.getElem_mem hj))
      unfold key
      omega
    obtain rfl : cs3 = cs := sorted_one (hcp.trans perm.symm) srt3 strict
    have s3 : Same H2 (upd H2 p (.lst ys)) := Same.new np
    have s4 : Same (upd H2 p (.lst ys)) (upd (upd H2 p (.lst ys)) T (.tup ys)) := Same.new nT
    have s24 := s3.trans s4
    have s04 := s2.trans s24
    refine ⟨tc, T, true, ts, ys, cs3.map triV, rfl, s04 _ _ htc, SqT.of upd_same, rows_tris (tris_same s04 hpt), rows_tris (tris_same s24 hp3), by rw [List.length_map]; omega, rows_plain cs3, fun H5 s5 => ⟨_, rfl, iteF ?_⟩⟩
    have s05 := s04.trans s5
    refine ⟨_, rfl, x, CP, dx, _, _, rfl, s05 _ _ hx, TC.cl, TC.nS, lk_st, _, rfl, .int n, rfl, rfl, _, rfl, iteT ?_⟩
    refine ⟨_, rfl, x, dx, _, rfl, s05 _ _ hx, CP, x, n, cs3, hCS, rfl, NA.same s05, GN, fun H6 s6 => ?_⟩
    have s26 := s24.trans (s5.trans s6)
    have hk6 := s26 _ _ hks
    refine ⟨_, rfl, D, rfl, ⟨_, SqL.of hk6⟩, fun D3 hD3 => lc_list (K := K) (a := D) (xs := ks) (fun i H7 => Same H6 H7 ∧ H7 D3 = some (.lst (((((ds.map (triC e)).take i).map fun c => c.2.2)).map V.int))) ⟨Same.new hD3, upd_same⟩ (fun i H7 _ z => SqL.of (z.1 _ _ hk6)) ?_ ?_⟩
    · rintro i y H7 hy ⟨s7, hd⟩
      obtain ⟨c, hci, t, rfl, ht⟩ := pr_at pks hy
      have il := (List.getElem?_eq_some_iff.mp hci).1
      rw [List.length_map] at il
      refine ⟨rfl, yes ⟨_, rfl, t, _, _, _, rfl, rfl, SqT.of (s7 _ _ (s26 _ _ ht)), atI_nat (j := 2) rfl, _, hd, ?_, Same.newer s7 hD3, ?_⟩⟩
      · rw [List.length_map, List.length_map, List.length_take]
        exact line_lt (by omega)
      · rw [upd_same, take_snoc hci, List.map_append, List.map_append]
        rfl
    rintro H7 ⟨s7, hd⟩
    rw [← pks.length, List.take_length] at hd
    have es : slotsM cs3 = ((ds.map (triC e)).map fun c => c.2.2).sum := perm_sum (perm.map _)
    exact ⟨D3, _, rfl, SqL.of hd, .int ((ds.map (triC e)).map fun c => c.2.2).sum, by rw [es], rfl, q _ (s2.trans (s26.trans s7))⟩
theorem ok_answered_N {f CP CW CI CB CM CS CT CN : Addr} {fd : FuncData} (F : Fun K "_law_answered" "_law_answered" s_law_answered f fd) (B : Blt mg) (T : ErrL K mg CW CI CB CM CS CT CN) (n_law_keyed : DefN P w K mg base "_law_keyed" 6 (spKeyed K CP CI)) (n_law_left_out : DefN P w K mg base "_law_left_out" 7 (spLeft K CP CI)) (h_law_same_row : DefH P w K mg base "_law_same_row" 2 (spSR K)) (g_law_good : DefR P w K mg base "_law_good" 5 (spGoodP CP)) :
    FnOk P w K mg base (L2N.CX P w) 9 f fd ["count", "given", "extra", "keyed", "due"] (spAns K) := by
  refine okN F sc_law_answered (fun vs H Q E h => ?_) (fun cdv A outer s H vs Q E hr h => ?_)
  · obtain ⟨G, cnt, extra, v, keyed, ds, ws, o, rfl, _⟩ := h
    rfl
  · obtain ⟨G, cnt, extra, v, keyed, ds, ws, o, rfl, kc, ke, hG, hp, hl, hke, hdue, ov, q⟩ := h
    have hrq := L2H.roomH_of hr
    have hwl : ws.length = ds.length := hp.length.symm
    have ul : ws.length ≤ 121 := by unfold Lens at hl; omega
    have o_uniq : ∀ p, DueP cnt ds extra p → o = p := fun p hd => hdue.uniq hd
    -- slots: 0 count, 1 given, 2 extra, 3 keyed, 4 due, 5 net, 6 refusal
    refine ⟨_, (pss_cons (L2N.ps_try_as (i := 6) (c := .ref CW) rfl rfl sc_law_answered.nd rfl rfl ⟨rfl, by decide, Or.inl T.gW⟩ (L2N.takes_of rfl rfl rfl rfl) (fun Wt pn xe tk _ => (pss_one (ps_if (pt_val (pv 3)) (pss_one (ps_set (i := 5) sc_law_answered.nd rfl (Or.inl rfl) (pe_cdN (W := Wt) n_law_keyed (by exact hr) tk (pa_cons (pv 0) (pa_cons (pe_callTy (T := "list") (c_lst (K := K)) (by rfl) B.list bt_list (pa_cons (pv 1) pa_nil)) (pa_cons (pv 2) pa_nil)))))) (pss_one (ps_set (i := 5) sc_law_answered.nd rfl (Or.inl rfl) (pe_cdN (W := Wt) n_law_left_out (by exact hr) tk (pa_cons (pv 0) (pa_cons (pe_callTy (T := "list") (c_lst (K := K)) (by rfl) B.list bt_list (pa_cons (pv 1) pa_nil)) pa_nil)))))))) (fun a oe cls d pn hz hf => (pss_cons (ps_if (PW.pt (pw_or (pt_not (pt_val (pe_callB (call_isX T.ic hz.zc hf) (by rfl) B.isi bt_isi (pa_cons (pv 6) (pa_cons (pe_glob (v := .ref CI) (by rfl) T.gI rfl) pa_nil))))) (pw_or1 (pt_not (pt_val (pe_callB (call_isX T.ic hz.zc hf) (by rfl) B.isi bt_isi (pa_cons (pv 6) (pa_cons (pe_bltn (v := .ty "ValueError") (by rfl) B.verr bt_verr rfl) pa_nil)))))))) (pss_one (ps_ret pe_bl)) pss_nil) (pss_cons (ps_if (pt_val (pe_callB (call_isXT T.ic hz.zc hf) (by rfl) B.isi bt_isi (pa_cons (pv 6) (pa_cons (pe_tup (pa_cons (pe_glob (v := .ref CB) (by rfl) T.gB rfl) (pa_cons (pe_glob (v := .ref CM) (by rfl) T.gM rfl) (pa_cons (pe_glob (v := .ref CS) (by rfl) T.gS rfl) (pa_cons (pe_glob (v := .ref CT) (by rfl) T.gT rfl) (pa_cons (pe_glob (v := .ref CN) (by rfl) T.gN rfl) pa_nil)))))) pa_nil)))) (pss_one (ps_ret pe_bl)) pss_nil) (pss_one (ps_ret (pe_and (pe_cmpR op_notN (pv 4) pe_non (nomark _)) (pe_one (pe_cdH (j := 8) h_law_same_row (by exact ⟨hrq.dp, hrq.un⟩) (hot_suite hz hf) (pa_cons (pe_tup (pa_cons (pe_xf T.ixf T.rea hz.zc hf (pv 6)) (pa_cons (pe_xf T.ixf T.pos hz.zc hf (pv 6)) pa_nil))) (pa_cons (pv 4) pa_nil))))))))))) (pss_one (ps_ret (pe_and (pe_cmpR op_isN (pv 4) pe_non (nomark _)) (pe_one (pe_cd g_law_good hr passL (pa_cons (pv 5) (pa_cons (pv 0) (pa_cons (pv 1) (pa_cons (pv 2) pa_nil)))))))))), ?_⟩
    refine ⟨_, rfl, keyed, rfl, ?_⟩
    cases keyed with
    | true =>
      refine iteT ⟨_, rfl, _, rfl, G, ws, rfl, .inl (SqL.of hG), fun L hL => ?_⟩
      have s1 : Same H (upd H L (.lst ws)) := Same.new hL
      refine ⟨_, rfl, L, cnt, extra, ds, ws, rfl, upd_same, by unfold Lens at hl; rcases hl with z | ⟨z, _⟩; exact z; exact Bool.noConfusion z, ⟨kc.same s1, ke.same s1, chs_same s1 hp, by omega, fun w p dp => ?_, fun n e h1 h2 dp => ?_⟩⟩
      · intro H3 d s3 nd hd
        have hL := o_uniq _ dp
        obtain ⟨t, rfl, ht⟩ : ∃ t, v = .ref t ∧ H t = some (.tup [.str w, p]) := by rw [hL] at ov; exact ov
        have s03 := s1.trans s3
        refine ⟨true, T.iW, fun _ a ha => ?_, fun z => by cases z⟩
        refine ⟨_, rfl, .ref CI, .ref CI, true, d, _, rfl, .own CI, T.kII, rfl, rfl, hd, _, rfl, iteF ?_⟩
        refine ⟨_, rfl, .ty "ValueError", .type "ValueError", true, d, _, rfl, .ty _, T.kV, rfl, rfl, hd, _, rfl, iteF ?_⟩
        refine ⟨_, rfl, by show 5 ≤ sizeLine; decide, fun tp htp => ?_⟩
        have s4 : Same H3 (upd H3 tp (.tup [.ref CB, .ref CM, .ref CS, .ref CT, .ref CN])) := Same.new htp
        have hd4 := s4 _ _ hd
        refine ⟨tp, _, _, false, d, _, rfl, upd_same, .cons (.own CB) (.cons (.own CM) (.cons (.own CS) (.cons (.own CT) (.cons (.own CN) .nil)))), T.kAny, rfl, rfl, hd4, _, rfl, iteF ?_⟩
        refine ⟨_, rfl, rfl, _, rfl, iteT ?_⟩
        refine ⟨_, rfl, rfl, rfl, d, _, _, rfl, hd4, lk_rea, _, rfl, rfl, rfl, d, _, _, rfl, hd4, lk_pos, by show 2 ≤ sizeLine; decide, fun p2 hp2 => ?_⟩
        have s5 := s4.trans (Same.new hp2 (o := .tup [.str w, p]))
        refine ⟨_, rfl, p2, t, true, _, rfl, upd_same, SqT.of (s5 _ _ (s03 _ _ ht)), by show 2 ≤ 1000; decide, fun y hy => ?_, fun H6 s6 => q _ (s03.trans (s5.trans s6))⟩
        simp only [List.mem_cons, List.not_mem_nil, or_false] at hy
        rcases hy with e | e <;> rw [e]
        · rfl
        · exact due_plain dp
      · intro H3 x cs2 s3 nx pm st N
        have hL := o_uniq _ dp
        obtain rfl : v = .non := by rw [hL] at ov; exact ov
        subst h1
        subst h2
        obtain ⟨n40, hok, he⟩ : n ≤ 40 ∧ AllOk n ds ∧ (1 ≤ e ∧ e ≤ 999) := by
          rcases dp with ⟨_, z⟩ | ⟨m, em, m1, m40, ⟨_, z⟩ | ⟨_, ⟨_, _, _, z⟩ | ⟨hok, ⟨_, z⟩ | ⟨x, ex, hx, ⟨_, z⟩ | ⟨_, _⟩⟩⟩⟩⟩
          all_goals first | cases z | skip
          have mn : m = n := by injection em with em; omega
          have xe := V.int.inj ex
          subst mn
          exact ⟨m40, hok, by first | exact ⟨by decide, by decide⟩ | (rw [xe]; exact hx)⟩
        have s03 := s1.trans s3
        refine ⟨_, rfl, rfl, _, rfl, iteT ?_⟩
        exact ⟨_, rfl, _, rfl, _, rfl, _, rfl, x, G, n, _, ds, ws, cs2, rfl, N, pm, st, hok, he, n40, s03 _ _ hG, chs_same s03 hp, by omega, fun H4 s4 => q _ (s03.trans s4)⟩
    | false =>
      have ee := hke rfl
      subst ee
      refine iteF ⟨_, rfl, _, rfl, G, ws, rfl, .inl (SqL.of hG), fun L hL => ?_⟩
      have s1 : Same H (upd H L (.lst ws)) := Same.new hL
      refine ⟨L, cnt, ds, ws, rfl, upd_same, by unfold Lens at hl; rcases hl with z | ⟨_, z⟩; exact .inl z; exact .inr z, ⟨kc.same s1, trivial, chs_same s1 hp, by omega, fun w p dp => ?_, fun n e h1 h2 dp => ?_⟩⟩
      · intro H3 d s3 nd hd
        have hL := o_uniq _ dp
        obtain ⟨t, rfl, ht⟩ : ∃ t, v = .ref t ∧ H t = some (.tup [.str w, p]) := by rw [hL] at ov; exact ov
        have s03 := s1.trans s3
        refine ⟨true, T.iW, fun _ a ha => ?_, fun z => by cases z⟩
        refine ⟨_, rfl, .ref CI, .ref CI, true, d, _, rfl, .own CI, T.kII, rfl, rfl, hd, _, rfl, iteF ?_⟩
        refine ⟨_, rfl, .ty "ValueError", .type "ValueError", true, d, _, rfl, .ty _, T.kV, rfl, rfl, hd, _, rfl, iteF ?_⟩
        refine ⟨_, rfl, by show 5 ≤ sizeLine; decide, fun tp htp => ?_⟩
        have s4 : Same H3 (upd H3 tp (.tup [.ref CB, .ref CM, .ref CS, .ref CT, .ref CN])) := Same.new htp
        have hd4 := s4 _ _ hd
        refine ⟨tp, _, _, false, d, _, rfl, upd_same, .cons (.own CB) (.cons (.own CM) (.cons (.own CS) (.cons (.own CT) (.cons (.own CN) .nil)))), T.kAny, rfl, rfl, hd4, _, rfl, iteF ?_⟩
        refine ⟨_, rfl, rfl, _, rfl, iteT ?_⟩
        refine ⟨_, rfl, rfl, rfl, d, _, _, rfl, hd4, lk_rea, _, rfl, rfl, rfl, d, _, _, rfl, hd4, lk_pos, by show 2 ≤ sizeLine; decide, fun p2 hp2 => ?_⟩
        have s5 := s4.trans (Same.new hp2 (o := .tup [.str w, p]))
        refine ⟨_, rfl, p2, t, true, _, rfl, upd_same, SqT.of (s5 _ _ (s03 _ _ ht)), by show 2 ≤ 1000; decide, fun y hy => ?_, fun H6 s6 => q _ (s03.trans (s5.trans s6))⟩
        simp only [List.mem_cons, List.not_mem_nil, or_false] at hy
        rcases hy with e | e <;> rw [e]
        · rfl
        · exact due_plain dp
      · intro H3 x cs2 s3 nx pm st N
        have hL := o_uniq _ dp
        obtain rfl : v = .non := by rw [hL] at ov; exact ov
        subst h1
        obtain rfl : (1 : Int) = e := V.int.inj h2
        obtain ⟨n40, hok, he⟩ : n ≤ 40 ∧ AllOk n ds ∧ (1 ≤ (1 : Int) ∧ (1 : Int) ≤ 999) := by
          rcases dp with ⟨_, z⟩ | ⟨m, em, m1, m40, ⟨_, z⟩ | ⟨_, ⟨_, _, _, z⟩ | ⟨hok, ⟨_, z⟩ | ⟨x, ex, hx, ⟨_, z⟩ | ⟨_, _⟩⟩⟩⟩⟩
          all_goals first | cases z | skip
          have mn : m = n := by injection em with em; omega
          have xe := V.int.inj ex
          subst mn
          exact ⟨m40, hok, by first | exact ⟨by decide, by decide⟩ | (rw [xe]; exact hx)⟩
        have s03 := s1.trans s3
        refine ⟨_, rfl, rfl, _, rfl, iteT ?_⟩
        exact ⟨_, rfl, _, rfl, _, rfl, _, rfl, x, G, n, _, ds, ws, cs2, rfl, N, pm, st, hok, he, n40, s03 _ _ hG, chs_same s03 hp, by omega, fun H4 s4 => q _ (s03.trans s4)⟩
end
end WC

set_option maxHeartbeats 8000000
namespace WC
open PySem PySem.Spec PyProof.Rows L2 L2H
theorem bag_ne {H : Hp} {b p : Addr} (h : BagAt H b) (hp : H p = none) : b ≠ p := fun z => by
  obtain ⟨x, f, e⟩ := h
  rw [z, hp] at e
  cases e
theorem Kt.onB {b : Addr} {H H2 : Hp} {u : V} (h : Kt H u) (s : SameB b H H2) (hb : BagAt H b) : Kt H2 u := by
  rcases h with h | ⟨t, xs, e, ht⟩
  · exact .inl h
  · obtain ⟨x, f, eb⟩ := hb
    exact .inr ⟨t, xs, e, s _ _ ht (ne_of ht eb (by intro z; cases z))⟩
theorem Kt.putL {Z : Addr} {H : Hp} {u : V} {us vs : List V} (h : Kt H u) (hZ : H Z = some (.lst us)) : Kt (upd H Z (.lst vs)) u := by
  rcases h with h | ⟨t, xs, e, ht⟩
  · exact .inl h
  · exact .inr ⟨t, xs, e, by rw [upd_ne (ne_of ht hZ (by intro z; cases z))]; exact ht⟩
theorem ChA.onB {b : Addr} {H H2 : Hp} {d : Chn} {v : V} (h : ChA H d v) (s : SameB b H H2) (hb : BagAt H b) (hv : v ≠ .ref b) : ChA H2 d v := by
  cases d with
  | tup xs =>
    obtain ⟨t, e, ht, hk, hl⟩ := h
    obtain ⟨x, f, eb⟩ := hb
    exact ⟨t, e, s _ _ ht (ne_of ht eb (by intro z; cases z)), fun y hy => (hk y hy).onB s ⟨x, f, eb⟩, hl⟩
  | oth u =>
    obtain ⟨e, h⟩ := h
    refine ⟨e, h.imp id fun ⟨t, xs, e2, ht⟩ => ⟨t, xs, e2, s _ _ ht fun z => hv ?_⟩⟩
    rw [e, e2, z]
theorem ChA.putL {Z : Addr} {H : Hp} {d : Chn} {v : V} {us vs : List V} (h : ChA H d v) (hZ : H Z = some (.lst us)) (hv : v ≠ .ref Z) : ChA (upd H Z (.lst vs)) d v := by
  cases d with
  | tup xs =>
    obtain ⟨t, e, ht, hk, hl⟩ := h
    exact ⟨t, e, by rw [upd_ne (ne_of ht hZ (by intro z; cases z))]; exact ht, fun y hy => (hk y hy).putL hZ, hl⟩
  | oth u =>
    obtain ⟨e, h⟩ := h
    refine ⟨e, h.imp id fun ⟨t, xs, e2, ht⟩ => ⟨t, xs, e2, ?_⟩⟩
    rw [upd_ne fun z => hv (by rw [e, e2, z])]
    exact ht
def spSz : Sp := fun vs H Q _ => ∃ b : Addr, vs = [.ref b] ∧ BagAt H b ∧ ∀ (c : Int) H2, 1 ≤ c ∧ c ≤ 999 → SameB b H H2 → BagAt H2 b → Q (.int c) H2
def spVal : Sp := fun vs H Q _ => ∃ b : Addr, vs = [.ref b] ∧ BagAt H b ∧ ∀ v H2, Kt H2 v → SameB b H H2 → BagAt H2 b → Q v H2
/-- a value that was not there in H -/
def NewV (H : Hp) (v : V) : Prop := ∀ a, v = .ref a → H a = none
def spBent : Sp := fun vs H Q _ => ∃ (b : Addr) (n x y : Int), vs = [.ref b, .int n, .int x, .int y] ∧ BagAt H b ∧ ∀ d v H2, ChA H2 d v → NewV H v → SameB b H H2 → BagAt H2 b → Q v H2
section
variable {P : Program} {w : World} {K : PySem.W.Frag} {mg : Str → Option Value} {base : Heap}
theorem ok_size0 {f : Addr} {fd : FuncData} (F : Fun K "_law_size" "_law_size" s_law_size f fd) (g_law_draw : DefR P w K mg base "_law_draw" 1 spDraw) : FnOk P w K mg base (L2.CX P w) 2 f fd ["bag"] spSz := by
  refine F.okX sc_law_size (fun vs H Q E h => ?_) (fun cdv A outer s H vs Q E hr h => ?_)
  · obtain ⟨b, rfl, _⟩ := h
    rfl
  · obtain ⟨b, rfl, hb, q⟩ := h
    -- slots: 0 bag, 1 way
    refine ⟨_, (pss_cons (ps_set (i := 1) sc_law_size.nd rfl (Or.inl rfl) (pe_cd g_law_draw hr psE (pa_cons (pv 0) (pa_cons pe_int pa_nil))))
      (pss_cons (ps_if (pt_cmpR op_eq (pv 1) pe_int (nomark _)) (pss_one (ps_ret (pe_op op_add pe_int (pe_cd g_law_draw hr psE (pa_cons (pv 0) (pa_cons pe_int pa_nil)))))) pss_nil)
      (pss_cons (ps_if (pt_cmpR op_eq (pv 1) pe_int (nomark _)) (pss_one (ps_ret (pe_op op_sub pe_int (pe_op op_mul pe_int (pe_cd g_law_draw hr psE (pa_cons (pv 0) (pa_cons pe_int pa_nil))))))) pss_nil)
      (pss_one (ps_ret (pe_op op_add pe_int (pe_cd g_law_draw hr psE (pa_cons (pv 0) (pa_cons pe_int pa_nil))))))))), ?_⟩
    refine ⟨_, rfl, b, 8, rfl, hb, by decide, by decide, fun k H2 k0 k1 s2 b2 => ⟨_, rfl, rfl, _, rfl, ?_⟩⟩
    refine ite2 (fun e => ⟨_, rfl, b, 999, rfl, b2, by decide, by decide, fun m H3 m0 m1 s3 b3 => ⟨_, _, rfl, rfl, q _ _ (by omega) (s2.trans s3) b3⟩⟩) (fun e => ?_)
    refine ⟨_, rfl, rfl, _, rfl, ?_⟩
    refine ite2 (fun e => ⟨_, rfl, b, 2, rfl, b2, by decide, by decide, fun m H3 m0 m1 s3 b3 => ⟨_, _, rfl, rfl, mul_okl (by decide), _, _, rfl, rfl, q _ _ (by omega) (s2.trans s3) b3⟩⟩) (fun e => ?_)
    exact ⟨_, rfl, b, 3, rfl, b2, by decide, by decide, fun m H3 m0 m1 s3 b3 => ⟨_, _, rfl, rfl, q _ _ (by omega) (s2.trans s3) b3⟩⟩
theorem ok_law_count {f : Addr} {fd : FuncData} (F : Fun K "_law_count" "_law_count" s_law_count f fd) (g_law_draw : DefR P w K mg base "_law_draw" 1 spDraw) : FnOk P w K mg base (L2.CX P w) 2 f fd ["bag"] spVal := by
  refine F.okX sc_law_count (fun vs H Q E h => ?_) (fun cdv A outer s H vs Q E hr h => ?_)
  · obtain ⟨b, rfl, _⟩ := h
    rfl
  · obtain ⟨b, rfl, hb, q⟩ := h
    -- slots: 0 bag, 1 way
    refine ⟨_, (pss_cons (ps_set (i := 1) sc_law_count.nd rfl (Or.inl rfl) (pe_cd g_law_draw hr psE (pa_cons (pv 0) (pa_cons pe_int pa_nil))))
      (pss_cons (ps_if (pt_cmpR op_eq (pv 1) pe_int (nomark _)) (pss_one (ps_ret (pe_ix ix_list (pe_lst (pa_cons pe_int (pa_cons (pe_un un_neg pe_int) (pa_cons pe_int (pa_cons pe_int (pa_cons (pe_op op_pow pe_int pe_int) (pa_cons pe_bl (pa_cons pe_bl (pa_cons pe_non (pa_cons pe_str (pa_cons (pe_tup (pa_cons pe_int pa_nil)) pa_nil))))))))))) (pe_cd g_law_draw hr psE (pa_cons (pv 0) (pa_cons pe_int pa_nil))) (fun _ _ => rfl)))) pss_nil)
      (pss_cons (ps_if (pt_cmpR op_eq (pv 1) pe_int (nomark _)) (pss_one (ps_ret (pe_op op_add pe_int (pe_cd g_law_draw hr psE (pa_cons (pv 0) (pa_cons pe_int pa_nil)))))) pss_nil)
      (pss_one (ps_ret (pe_op op_add pe_int (pe_cd g_law_draw hr psE (pa_cons (pv 0) (pa_cons pe_int pa_nil))))))))), ?_⟩
    refine ⟨_, rfl, b, 8, rfl, hb, by decide, by decide, fun d H5 d0 d1 s5 b5 => ⟨_, rfl, rfl, _, rfl, ite2 (fun _ => ?_) (fun _ => ?_)⟩⟩
    · skip
      refine ⟨_, rfl, _, _, rfl, rfl, ⟨by decide, by decide, by decide⟩, by show 1 ≤ sizeLine; decide, fun T hT => ⟨by show 10 ≤ sizeLine; decide, fun P2 hP2 => ?_⟩⟩
      have t1 : Same H5 (upd H5 T (.tup [.int 3])) := Same.new hT
      have t2 := t1.trans (Same.new hP2 (o := .lst [.int 0, .int (-1), .int 41, .int 1000, .int (10 ^ (20 : Int).toNat), .bl true, .bl false, .non, .str "3", .ref T]))
      have b5' := b5.same t2
      have bP2 := bag_ne (b5.same t1) hP2
      refine ⟨_, rfl, b, 10, rfl, b5', by decide, by decide, fun e H6 e0 e1 s6 b6 => ?_⟩
      have hP6 := s6 _ _ (upd_same (H := upd H5 T (.tup [.int 3])) (a := P2) (o := .lst [.int 0, .int (-1), .int 41, .int 1000, .int (10 ^ (20 : Int).toNat), .bl true, .bl false, .non, .str "3", .ref T])) bP2.symm
      have hT6 : H6 T = some (.tup [.int 3]) := s6 _ _ (Same.new hP2 _ _ upd_same) (bag_ne b5 hT).symm
      obtain ⟨v, hv, kv⟩ : ∃ v, atI [V.int 0, .int (-1), .int 41, .int 1000, .int (10 ^ (20 : Int).toNat), .bl true, .bl false, .non, .str "3", .ref T] e = some v ∧ Kt H6 v := by
        rcases (by omega : e = 0 ∨ e = 1 ∨ e = 2 ∨ e = 3 ∨ e = 4 ∨ e = 5 ∨ e = 6 ∨ e = 7 ∨ e = 8 ∨ e = 9) with z | z | z | z | z | z | z | z | z | z <;> subst z
        · exact ⟨_, atI_nat (j := 0) rfl, .inl rfl⟩
        · exact ⟨_, atI_nat (j := 1) rfl, .inl rfl⟩
        · exact ⟨_, atI_nat (j := 2) rfl, .inl rfl⟩
        · exact ⟨_, atI_nat (j := 3) rfl, .inl rfl⟩
        · exact ⟨_, atI_nat (j := 4) rfl, .inl rfl⟩
        · exact ⟨_, atI_nat (j := 5) rfl, .inl rfl⟩
        · exact ⟨_, atI_nat (j := 6) rfl, .inl rfl⟩
        · exact ⟨_, atI_nat (j := 7) rfl, .inl rfl⟩
        · exact ⟨_, atI_nat (j := 8) rfl, .inl rfl⟩
        · exact ⟨_, atI_nat (j := 9) rfl, .inr ⟨T, _, rfl, hT6⟩⟩
      exact ⟨P2, _, _, _, rfl, rfl, SqL.of hP6, hv, q _ _ kv (s5.trans ((SameB.of t2).trans s6)) b6⟩
    refine ⟨_, rfl, rfl, _, rfl, ite2 (fun _ => ?_) (fun _ => ?_)⟩
    · exact ⟨_, rfl, b, 40, rfl, b5, by decide, by decide, fun m H6 m0 m1 s6 b6 => ⟨_, _, rfl, rfl, q _ _ (.inl rfl) (s5.trans s6) b6⟩⟩
    · exact ⟨_, rfl, b, 6, rfl, b5, by decide, by decide, fun m H6 m0 m1 s6 b6 => ⟨_, _, rfl, rfl, q _ _ (.inl rfl) (s5.trans s6) b6⟩⟩
theorem ok_law_extra {f : Addr} {fd : FuncData} (F : Fun K "_law_extra" "_law_extra" s_law_extra f fd) (g_law_draw : DefR P w K mg base "_law_draw" 1 spDraw) : FnOk P w K mg base (L2.CX P w) 2 f fd ["bag"] spVal := by
  refine F.okX sc_law_extra (fun vs H Q E h => ?_) (fun cdv A outer s H vs Q E hr h => ?_)
  · obtain ⟨b, rfl, _⟩ := h
    rfl
  · obtain ⟨b, rfl, hb, q⟩ := h
    -- slots: 0 bag, 1 way
    refine ⟨_, (pss_cons (ps_set (i := 1) sc_law_extra.nd rfl (Or.inl rfl) (pe_cd g_law_draw hr psE (pa_cons (pv 0) (pa_cons pe_int pa_nil))))
      (pss_cons (ps_if (pt_cmpR op_eq (pv 1) pe_int (nomark _)) (pss_one (ps_ret (pe_ix ix_list (pe_lst (pa_cons pe_int (pa_cons (pe_un un_neg pe_int) (pa_cons pe_int (pa_cons (pe_op op_pow pe_int pe_int) (pa_cons pe_bl (pa_cons pe_non (pa_cons pe_str (pa_cons (pe_tup (pa_cons pe_int pa_nil)) pa_nil))))))))) (pe_cd g_law_draw hr psE (pa_cons (pv 0) (pa_cons pe_int pa_nil))) (fun _ _ => rfl)))) pss_nil)
      (pss_cons (ps_if (pt_cmpR op_eq (pv 1) pe_int (nomark _)) (pss_one (ps_ret (pe_ix ix_list (pe_lst (pa_cons pe_int (pa_cons pe_int (pa_cons pe_int pa_nil)))) (pe_cd g_law_draw hr psE (pa_cons (pv 0) (pa_cons pe_int pa_nil))) (fun _ _ => rfl)))) pss_nil)
      (pss_one (ps_ret (pe_op op_add pe_int (pe_cd g_law_draw hr psE (pa_cons (pv 0) (pa_cons pe_int pa_nil))))))))), ?_⟩
    refine ⟨_, rfl, b, 6, rfl, hb, by decide, by decide, fun d H5 d0 d1 s5 b5 => ⟨_, rfl, rfl, _, rfl, ite2 (fun _ => ?_) (fun _ => ?_)⟩⟩
    · skip
      refine ⟨_, rfl, _, _, rfl, rfl, ⟨by decide, by decide, by decide⟩, by show 1 ≤ sizeLine; decide, fun T hT => ⟨by show 8 ≤ sizeLine; decide, fun P2 hP2 => ?_⟩⟩
      have t1 : Same H5 (upd H5 T (.tup [.int 1])) := Same.new hT
      have t2 := t1.trans (Same.new hP2 (o := .lst [.int 0, .int (-1), .int 1000, .int (10 ^ (20 : Int).toNat), .bl true, .non, .str "1", .ref T]))
      have b5' := b5.same t2
      have bP2 := bag_ne (b5.same t1) hP2
      refine ⟨_, rfl, b, 8, rfl, b5', by decide, by decide, fun e H6 e0 e1 s6 b6 => ?_⟩
      have hP6 := s6 _ _ (upd_same (H := upd H5 T (.tup [.int 1])) (a := P2) (o := .lst [.int 0, .int (-1), .int 1000, .int (10 ^ (20 : Int).toNat), .bl true, .non, .str "1", .ref T])) bP2.symm
      have hT6 : H6 T = some (.tup [.int 1]) := s6 _ _ (Same.new hP2 _ _ upd_same) (bag_ne b5 hT).symm
      obtain ⟨v, hv, kv⟩ : ∃ v, atI [V.int 0, .int (-1), .int 1000, .int (10 ^ (20 : Int).toNat), .bl true, .non, .str "1", .ref T] e = some v ∧ Kt H6 v := by
        rcases (by omega : e = 0 ∨ e = 1 ∨ e = 2 ∨ e = 3 ∨ e = 4 ∨ e = 5 ∨ e = 6 ∨ e = 7) with z | z | z | z | z | z | z | z <;> subst z
        · exact ⟨_, atI_nat (j := 0) rfl, .inl rfl⟩
        · exact ⟨_, atI_nat (j := 1) rfl, .inl rfl⟩
        · exact ⟨_, atI_nat (j := 2) rfl, .inl rfl⟩
        · exact ⟨_, atI_nat (j := 3) rfl, .inl rfl⟩
        · exact ⟨_, atI_nat (j := 4) rfl, .inl rfl⟩
        · exact ⟨_, atI_nat (j := 5) rfl, .inl rfl⟩
        · exact ⟨_, atI_nat (j := 6) rfl, .inl rfl⟩
        · exact ⟨_, atI_nat (j := 7) rfl, .inr ⟨T, _, rfl, hT6⟩⟩
      exact ⟨P2, _, _, _, rfl, rfl, SqL.of hP6, hv, q _ _ kv (s5.trans ((SameB.of t2).trans s6)) b6⟩
    refine ⟨_, rfl, rfl, _, rfl, ite2 (fun _ => ?_) (fun _ => ?_)⟩
    · refine ⟨by show 3 ≤ sizeLine; decide, fun P2 hP2 => ?_⟩
      have t2 : Same H5 (upd H5 P2 (.lst [.int 1, .int 998, .int 999])) := Same.new hP2
      refine ⟨_, rfl, b, 3, rfl, b5.same t2, by decide, by decide, fun e H6 e0 e1 s6 b6 => ?_⟩
      have hP6 := s6 _ _ (upd_same (H := H5) (a := P2) (o := .lst [.int 1, .int 998, .int 999])) (bag_ne b5 hP2).symm
      obtain ⟨v, hv, kv⟩ : ∃ v, atI [V.int 1, .int 998, .int 999] e = some v ∧ Kt H6 v := by
        rcases (by omega : e = 0 ∨ e = 1 ∨ e = 2) with z | z | z <;> subst z
        · exact ⟨_, atI_nat (j := 0) rfl, .inl rfl⟩
        · exact ⟨_, atI_nat (j := 1) rfl, .inl rfl⟩
        · exact ⟨_, atI_nat (j := 2) rfl, .inl rfl⟩
      exact ⟨P2, _, _, _, rfl, rfl, SqL.of hP6, hv, q _ _ kv (s5.trans ((SameB.of t2).trans s6)) b6⟩
    · exact ⟨_, rfl, b, 999, rfl, b5, by decide, by decide, fun m H6 m0 m1 s6 b6 => ⟨_, _, rfl, rfl, q _ _ (.inl rfl) (s5.trans s6) b6⟩⟩
theorem ok_bent {f : Addr} {fd : FuncData} (F : Fun K "_law_bent" "_law_bent" s_law_bent f fd) (g_law_draw : DefR P w K mg base "_law_draw" 1 spDraw) : FnOk P w K mg base (L2.CX P w) 2 f fd ["bag", "count", "a", "b"] spBent := by
  refine F.okX sc_law_bent (fun vs H Q E h => ?_) (fun cdv A outer s H vs Q E hr h => ?_)
  · obtain ⟨b, n, x, y, rfl, _⟩ := h
    rfl
  · obtain ⟨b, n, x, y, rfl, hb, q⟩ := h
    -- slots: 0 bag, 1 count, 2 a, 3 b, 4 way, 5 size, 6 end
    refine ⟨_, (pss_cons (ps_set (i := 4) sc_law_bent.nd rfl (Or.inl rfl) (pe_cd g_law_draw hr psE (pa_cons (pv 0) (pa_cons pe_int pa_nil))))
      (pss_cons (ps_if (pt_cmpR op_lt (pv 4) pe_int (nomark _)) (pss_cons (ps_set (i := 5) sc_law_bent.nd rfl (Or.inl rfl) (pe_ix ix_list (pe_lst (pa_cons pe_int (pa_cons pe_int (pa_cons (pe_un un_neg pe_int) (pa_cons (pe_op op_pow pe_int pe_int) (pa_cons pe_bl (pa_cons pe_non (pa_cons pe_str (pa_cons (pe_tup (pa_cons pe_int pa_nil)) pa_nil))))))))) (pv 4) (fun _ _ => rfl)))
      (pss_one (ps_ret (pe_tup (pa_cons (pv 2) (pa_cons (pv 3) (pa_cons (pv 5) pa_nil))))))) pss_nil)
      (pss_cons (ps_if (pt_cmpR op_lt (pv 4) pe_int (nomark _)) (pss_cons (ps_set (i := 6) sc_law_bent.nd rfl (Or.inl rfl) (pe_ix ix_list (pe_lst (pa_cons (pv 1) (pa_cons (pe_un un_neg pe_int) (pa_cons (pe_op op_add (pv 1) pe_int) (pa_cons pe_bl (pa_cons pe_non (pa_cons pe_str pa_nil))))))) (pe_op op_sub (pv 4) pe_int) (fun _ _ => rfl)))
      (pss_one (ps_ret (pe_ifExp (pt_cmpR op_eq (pe_cd g_law_draw hr psE (pa_cons (pv 0) (pa_cons pe_int pa_nil))) pe_int (nomark _)) (pe_tup (pa_cons (pv 6) (pa_cons (pv 3) pa_nil))) (pe_tup (pa_cons (pv 2) (pa_cons (pv 6) (pa_cons (pe_op op_mul pe_int (pe_cd g_law_draw hr psE (pa_cons (pv 0) (pa_cons pe_int pa_nil)))) pa_nil)))))))) pss_nil)
      (pss_cons (ps_if (pt_cmpR op_eq (pv 4) pe_int (nomark _)) (pss_one (ps_ret (pe_tup (pa_cons (pv 2) (pa_cons (pv 2) (pa_cons (pe_op op_mul pe_int (pe_cd g_law_draw hr psE (pa_cons (pv 0) (pa_cons pe_int pa_nil)))) pa_nil)))))) pss_nil)
      (pss_one (ps_ret (pe_ix ix_list (pe_lst (pa_cons (pe_lst (pa_cons (pv 2) (pa_cons (pv 3) pa_nil))) (pa_cons (pe_tup (pa_cons (pv 2) pa_nil)) (pa_cons (pe_tup (pa_cons (pv 2) (pa_cons (pv 3) (pa_cons pe_int (pa_cons pe_int pa_nil))))) (pa_cons (pe_tup pa_nil) (pa_cons pe_non pa_nil)))))) (pe_op op_sub (pv 4) pe_int) (fun _ _ => rfl)))))))), ?_⟩
    refine ⟨_, rfl, b, 20, rfl, hb, by decide, by decide, fun way H1 w0 w1 s1 b1 => ?_⟩
    -- a tuple that is made at the end
    have fin : ∀ (H2 : Hp) (t : Addr) (xs : List V), SameB b H H2 → BagAt H2 b → H2 t = none → (∀ u ∈ xs, Kt H2 u) → xs.length ≤ 10 → Q (.ref t) (upd H2 t (.tup xs)) := fun H2 t xs s2 b2 nt kx lx => by
      refine q (.tup xs) _ _ ⟨t, rfl, upd_same, fun u hu => (kx u hu).same (Same.new nt), lx⟩ (fun a ea => ?_) (s2.trans (.of (Same.new nt))) (b2.same (Same.new nt))
      cases ea
      exact s2.free b2 nt
    have ki : ∀ {H2 : Hp} (i : Int), Kt H2 (.int i) := fun i => .inl rfl
    refine ⟨_, rfl, _, _, rfl, rfl, _, rfl, ite2 (fun e => ?_) (fun e => ?_)⟩
    · have e := of_decide_eq_true e
      refine ⟨_, rfl, _, _, rfl, rfl, ⟨by decide, by decide, by decide⟩, by show 1 ≤ sizeLine; decide, fun T hT => ⟨by show 8 ≤ sizeLine; decide, fun P2 hP2 => ?_⟩⟩
      have t1 : Same H1 (upd H1 T (.tup [.int 2])) := Same.new hT
      have t2 := t1.trans (Same.new hP2 (o := .lst [.int 0, .int 1000, .int (-2), .int (10 ^ (20 : Int).toNat), .bl true, .non, .str "2", .ref T]))
      have hT6 := Same.new hP2 (o := .lst [.int 0, .int 1000, .int (-2), .int (10 ^ (20 : Int).toNat), .bl true, .non, .str "2", .ref T]) _ _ (upd_same (H := H1) (a := T) (o := .tup [.int 2]))
      obtain ⟨v, hv, kv⟩ : ∃ v, atI [V.int 0, .int 1000, .int (-2), .int (10 ^ (20 : Int).toNat), .bl true, .non, .str "2", .ref T] way = some v ∧ Kt (upd (upd H1 T (.tup [.int 2])) P2 (.lst [.int 0, .int 1000, .int (-2), .int (10 ^ (20 : Int).toNat), .bl true, .non, .str "2", .ref T])) v := by
        rcases (by omega : way = 0 ∨ way = 1 ∨ way = 2 ∨ way = 3 ∨ way = 4 ∨ way = 5 ∨ way = 6 ∨ way = 7) with z | z | z | z | z | z | z | z <;> subst z
        · exact ⟨_, atI_nat (j := 0) rfl, .inl rfl⟩
        · exact ⟨_, atI_nat (j := 1) rfl, .inl rfl⟩
        · exact ⟨_, atI_nat (j := 2) rfl, .inl rfl⟩
        · exact ⟨_, atI_nat (j := 3) rfl, .inl rfl⟩
        · exact ⟨_, atI_nat (j := 4) rfl, .inl rfl⟩
        · exact ⟨_, atI_nat (j := 5) rfl, .inl rfl⟩
        · exact ⟨_, atI_nat (j := 6) rfl, .inl rfl⟩
        · exact ⟨_, atI_nat (j := 7) rfl, .inr ⟨T, _, rfl, hT6⟩⟩
      refine ⟨_, rfl, P2, _, _, _, rfl, rfl, SqL.of upd_same, hv, _, rfl, _, rfl, _, rfl, by show 3 ≤ sizeLine; decide, fun t ht => ?_⟩
      refine fin _ t _ (s1.trans (.of t2)) (b1.same t2) ht (fun u hu => ?_) (by show 3 ≤ 10; decide)
      simp only [List.mem_cons, List.not_mem_nil, or_false] at hu
      rcases hu with z | z | z <;> rw [z]
      · exact ki x
      · exact ki y
      · exact kv
    have e8 : ¬ way < 8 := fun z => e (decide_eq_true z)
    refine ⟨_, rfl, _, _, rfl, rfl, _, rfl, ite2 (fun e => ?_) (fun e => ?_)⟩
    · have e := of_decide_eq_true e
      refine ⟨_, rfl, _, rfl, _, rfl, _, _, rfl, rfl, by show 6 ≤ sizeLine; decide, fun P2 hP2 => ?_⟩
      have t2 : Same H1 (upd H1 P2 (.lst [.int n, .int (-1), .int (n + 7), .bl true, .non, .str "0"])) := Same.new hP2
      obtain ⟨v, hv, kv⟩ : ∃ v, atI [V.int n, .int (-1), .int (n + 7), .bl true, .non, .str "0"] (way - 8) = some v ∧ ∀ H2, Kt H2 v := by
        rcases (by omega : way = 8 ∨ way = 9 ∨ way = 10 ∨ way = 11 ∨ way = 12 ∨ way = 13) with z | z | z | z | z | z <;> subst z
        · exact ⟨_, atI_nat (j := 0) rfl, fun _ => .inl rfl⟩
        · exact ⟨_, atI_nat (j := 1) rfl, fun _ => .inl rfl⟩
        · exact ⟨_, atI_nat (j := 2) rfl, fun _ => .inl rfl⟩
        · exact ⟨_, atI_nat (j := 3) rfl, fun _ => .inl rfl⟩
        · exact ⟨_, atI_nat (j := 4) rfl, fun _ => .inl rfl⟩
        · exact ⟨_, atI_nat (j := 5) rfl, fun _ => .inl rfl⟩
      refine ⟨_, rfl, _, _, rfl, rfl, P2, _, _, _, rfl, rfl, SqL.of upd_same, hv, ?_⟩
      have b2 := b1.same t2
      refine ⟨_, rfl, b, 2, rfl, b2, by decide, by decide, fun d H3 d0 d1 s3 b3 => ⟨rfl, _, rfl, ite2 (fun _ => ?_) (fun _ => ?_)⟩⟩
      · have s03 := s1.trans ((SameB.of t2).trans s3)
        refine ⟨_, rfl, _, rfl, by show 2 ≤ sizeLine; decide, fun t ht => ?_⟩
        refine fin _ t _ s03 b3 ht (fun u hu => ?_) (by show 2 ≤ 10; decide)
        simp only [List.mem_cons, List.not_mem_nil, or_false] at hu
        rcases hu with z | z <;> rw [z]
        · exact kv _
        · exact ki y
      · refine ⟨_, rfl, _, rfl, _, rfl, b, 2, rfl, b3, by decide, by decide, fun d2 H4 d20 d21 s4 b4 => ⟨_, _, rfl, rfl, mul_okl (by decide), by show 3 ≤ sizeLine; decide, fun t ht => ?_⟩⟩
        refine fin _ t _ (s1.trans ((SameB.of t2).trans (s3.trans s4))) b4 ht (fun u hu => ?_) (by show 3 ≤ 10; decide)
        simp only [List.mem_cons, List.not_mem_nil, or_false] at hu
        rcases hu with z | z | z <;> rw [z]
        · exact ki x
        · exact kv _
        · exact ki _
    have e14 : ¬ way < 14 := fun z => e (decide_eq_true z)
    refine ⟨_, rfl, rfl, _, rfl, ite2 (fun e => ?_) (fun e => ?_)⟩
    · refine ⟨_, rfl, _, rfl, _, rfl, b, 2, rfl, b1, by decide, by decide, fun d2 H4 d20 d21 s4 b4 => ⟨_, _, rfl, rfl, mul_okl (by decide), by show 3 ≤ sizeLine; decide, fun t ht => ?_⟩⟩
      refine fin _ t _ (s1.trans s4) b4 ht (fun u hu => ?_) (by show 3 ≤ 10; decide)
      simp only [List.mem_cons, List.not_mem_nil, or_false] at hu
      rcases hu with z | z | z <;> rw [z]
      · exact ki x
      · exact ki x
      · exact ki _
    have ne14 : way ≠ 14 := fun z => e (decide_eq_true (congrArg V.int z))
    refine ⟨_, rfl, _, rfl, by show 2 ≤ sizeLine; decide, fun A1 n1 => ⟨_, rfl, by show 1 ≤ sizeLine; decide, fun A2 n2 => ⟨_, rfl, _, rfl, by show 4 ≤ sizeLine; decide, fun A3 n3 => ⟨by show 0 ≤ sizeLine; decide, fun A4 n4 => ⟨by show 5 ≤ sizeLine; decide, fun P2 hP2 => ?_⟩⟩⟩⟩⟩
    obtain ⟨h1, eh1⟩ : ∃ h1, h1 = upd H1 A1 (.lst [.int x, .int y]) := ⟨_, rfl⟩
    rw [← eh1] at n2 n3 n4 hP2 ⊢
    obtain ⟨h2, eh2⟩ : ∃ h2, h2 = upd h1 A2 (.tup [.int x]) := ⟨_, rfl⟩
    rw [← eh2] at n3 n4 hP2 ⊢
    obtain ⟨h3, eh3⟩ : ∃ h3, h3 = upd h2 A3 (.tup [.int x, .int y, .int 2, .int 2]) := ⟨_, rfl⟩
    rw [← eh3] at n4 hP2 ⊢
    obtain ⟨h4, eh4⟩ : ∃ h4, h4 = upd h3 A4 (.tup []) := ⟨_, rfl⟩
    rw [← eh4] at hP2 ⊢
    have u1 : Same H1 h1 := by rw [eh1]; exact Same.new n1
    have u2 : Same h1 h2 := by rw [eh2]; exact Same.new n2
    have u3 : Same h2 h3 := by rw [eh3]; exact Same.new n3
    have u4 : Same h3 h4 := by rw [eh4]; exact Same.new n4
    have u5 : Same h4 (upd h4 P2 (.lst [.ref A1, .ref A2, .ref A3, .ref A4, .non])) := Same.new hP2
    have u15 : Same h1 (upd h4 P2 (.lst [.ref A1, .ref A2, .ref A3, .ref A4, .non])) := u2.trans (u3.trans (u4.trans u5))
    have u25 : Same h2 (upd h4 P2 (.lst [.ref A1, .ref A2, .ref A3, .ref A4, .non])) := u3.trans (u4.trans u5)
    have u35 := u4.trans u5
    have u05 := u1.trans u15
    have f1 : H A1 = none := s1.free b1 n1
    have f2 : H A2 = none := s1.free b1 (u1.free n2)
    have f3 : H A3 = none := s1.free b1 (u1.free (u2.free n3))
    have f4 : H A4 = none := s1.free b1 (u1.free (u2.free (u3.free n4)))
    obtain ⟨v, d, hv, dv, nv⟩ : ∃ v d, atI [V.ref A1, .ref A2, .ref A3, .ref A4, .non] (way - 15) = some v ∧ ChA (upd h4 P2 (.lst [.ref A1, .ref A2, .ref A3, .ref A4, .non])) d v ∧ NewV H v := by
      rcases (by omega : way = 15 ∨ way = 16 ∨ way = 17 ∨ way = 18 ∨ way = 19) with z | z | z | z | z <;> subst z
      · exact ⟨_, .oth (.ref A1), atI_nat (j := 0) rfl, ⟨rfl, .inr ⟨A1, _, rfl, u15 _ _ (by rw [eh1]; exact upd_same)⟩⟩, fun a ea => by cases ea; exact f1⟩
      · exact ⟨_, .tup [.int x], atI_nat (j := 1) rfl, ⟨A2, rfl, u25 _ _ (by rw [eh2]; exact upd_same), fun u hu => by rw [List.mem_singleton.mp hu]; exact ki x, by show 1 ≤ 10; decide⟩, fun a ea => by cases ea; exact f2⟩
      · refine ⟨_, .tup [.int x, .int y, .int 2, .int 2], atI_nat (j := 2) rfl, ⟨A3, rfl, u35 _ _ (by rw [eh3]; exact upd_same), fun u hu => ?_, by show 4 ≤ 10; decide⟩, fun a ea => by cases ea; exact f3⟩
        simp only [List.mem_cons, List.not_mem_nil, or_false] at hu
        rcases hu with z | z | z | z <;> rw [z] <;> exact ki _
      · exact ⟨_, .tup [], atI_nat (j := 3) rfl, ⟨A4, rfl, u5 _ _ (by rw [eh4]; exact upd_same), (fun u hu => by cases hu), Nat.zero_le _⟩, fun a ea => by cases ea; exact f4⟩
      · exact ⟨_, .oth .non, atI_nat (j := 4) rfl, ⟨rfl, .inl rfl⟩, fun a ea => by cases ea⟩
    exact ⟨_, rfl, _, _, rfl, rfl, P2, _, _, _, rfl, rfl, SqL.of upd_same, hv, q d v _ dv nv (s1.trans (.of u05)) (b1.same u05)⟩
end
end WC

set_option maxHeartbeats 8000000
namespace WC
open PySem PySem.Spec PyProof.Rows L2 L2H
def PtA (H : Hp) (p : Int × Int) (v : V) : Prop := ∃ t, v = .ref t ∧ H t = some (.tup [.int p.1, .int p.2])
/-- no element is one of these -/
def NoR (ws : List V) (a : Addr) : Prop := ∀ u ∈ ws, u ≠ .ref a
theorem nor_app {ws vs : List V} {a : Addr} (h1 : NoR ws a) (h2 : NoR vs a) : NoR (ws ++ vs) a := fun u hu => (List.mem_append.mp hu).elim (h1 u) (h2 u)
theorem nor_one {v : V} {a : Addr} (h : v ≠ .ref a) : NoR [v] a := fun u hu => by rw [List.mem_singleton.mp hu]; exact h
theorem pr_mem {α β : Type} {F G : α → β → Prop} : ∀ {l : List α} {r : List β}, Paired F l r → (∀ a b, b ∈ r → F a b → G a b) → Paired G l r
  | _, _, .nil, _ => .nil
  | _, _, .cons p q, h => .cons (h _ _ List.mem_cons_self p) (pr_mem q fun a b hb => h a b (List.mem_cons_of_mem _ hb))
theorem pr_onB {b : Addr} {H H2 : Hp} {ds : List Chn} {ws : List V} (h : Paired (ChA H) ds ws) (s : SameB b H H2) (hb : BagAt H b) (n : NoR ws b) : Paired (ChA H2) ds ws := pr_mem h fun _ _ hm hc => hc.onB s hb (n _ hm)
theorem pr_putL {Z : Addr} {H : Hp} {us vs : List V} {ds : List Chn} {ws : List V} (h : Paired (ChA H) ds ws) (hZ : H Z = some (.lst us)) (n : NoR ws Z) : Paired (ChA (upd H Z (.lst vs))) ds ws := pr_mem h fun _ _ hm hc => hc.putL hZ (n _ hm)
theorem pta_dp {K : PySem.W.Frag} {H : Hp} : ∀ {ps : List (Int × Int)} {ss : List V}, Paired (PtA H) ps ss → DpAll K H ss (ps.map fun p => PyData.tuple [.int p.1, .int p.2])
  | _, _, .nil => .nil
  | _, _, .cons ⟨t, e, ht⟩ q => by
    subst e
    exact .cons (.tup (SqT.of ht) (.cons (.int _) (.cons (.int _) .nil))) (pta_dp q)
theorem pta_lay : ∀ ps : List (Int × Int), PyData.canLayAll0 (ps.map fun p => PyData.tuple [.int p.1, .int p.2]) = true
  | [] => by simp only [List.map_nil, PyData.canLayAll0]
  | p :: ps => by simp only [List.map_cons, PyData.canLayAll0, PyData.canLay0, pta_lay ps, Bool.and_true, Bool.true_and]
theorem pta_dep : ∀ ps : List (Int × Int), PyData.depthAll (ps.map fun p => PyData.tuple [.int p.1, .int p.2]) ≤ 8
  | [] => by simp only [List.map_nil, PyData.depthAll]; omega
  | p :: ps => by
    have := pta_dep ps
    simp only [List.map_cons, PyData.depthAll, PyData.depth]
    omega
theorem pta_shaped (ps : List (Int × Int)) : SeqAt.shaped (.list (ps.map fun p => PyData.tuple [.int p.1, .int p.2])) = true := by
  unfold SeqAt.shaped
  rw [Bool.and_eq_true, decide_eq_true_iff]
  refine ⟨by simp only [PyData.canLay0]; exact pta_lay ps, ?_⟩
  have := pta_dep ps
  simp only [PyData.depth]
  omega
theorem pta_shaped1 (p : Int × Int) : SeqAt.shaped (.tuple [.int p.1, .int p.2]) = true := by
  unfold SeqAt.shaped
  rw [Bool.and_eq_true, decide_eq_true_iff]
  refine ⟨by simp only [PyData.canLay0, PyData.canLayAll0, Bool.and_true], ?_⟩
  simp only [PyData.depth, PyData.depthAll]
  omega
theorem un65 {k : Nat} {A : Around} (r : Room k A) : A.units + 65 < cLine := by have := r.un; omega
structure Giv (H H2 : Hp) (b G S : Addr) (i : Nat) (ds : List Chn) (ws ss : List V) (ps : List (Int × Int)) : Prop where
  same : SameB b H H2
  bag : BagAt H2 b
  hG : H2 G = some (.lst ws)
  hS : H2 S = some (.lst ss)
  pr : Paired (ChA H2) ds ws
  nb : NoR ws b
  nG : NoR ws G
  nS : NoR ws S
  len : ws.length ≤ i
  sr : Paired (PtA H2) ps ss
  sb : NoR ss b
  sl : ss.length ≤ i
theorem bag_lst {H : Hp} {b G : Addr} {ws : List V} (h : BagAt H b) (hG : H G = some (.lst ws)) (hn : ∀ x f : Int, ws ≠ [.int x, .int f]) : G ≠ b := fun z => by
  obtain ⟨x, f, e⟩ := h
  rw [z, e] at hG
  injection hG with hG
  injection hG with hG
  exact hn x f hG.symm
theorem Giv.on {H H2 H3 : Hp} {b G S : Addr} {i : Nat} {ds : List Chn} {ws ss : List V} {ps : List (Int × Int)} (g : Giv H H2 b G S i ds ws ss ps) (nG : G ≠ b) (nS : S ≠ b) (s : SameB b H2 H3) (hb : BagAt H3 b) : Giv H H3 b G S i ds ws ss ps :=
  ⟨g.same.trans s, hb, s _ _ g.hG nG, s _ _ g.hS nS, pr_onB g.pr s g.bag g.nb, g.nb, g.nG, g.nS, g.len, pr_mem g.sr fun p v hv ⟨t, e, ht⟩ => ⟨t, e, s _ _ ht fun z => g.sb v hv (by rw [e, z])⟩, g.sb, g.sl⟩
theorem Giv.new {H H2 : Hp} {b G S p : Addr} {i : Nat} {o : HO} {ds : List Chn} {ws ss : List V} {ps : List (Int × Int)} (g : Giv H H2 b G S i ds ws ss ps) (nG : G ≠ b) (nS : S ≠ b) (hp : H2 p = none) : Giv H (upd H2 p o) b G S i ds ws ss ps := g.on nG nS (.of (Same.new hp)) (g.bag.same (Same.new hp))
theorem Giv.up {H H2 : Hp} {b G S : Addr} {i : Nat} {ds : List Chn} {ws ss : List V} {ps : List (Int × Int)} (g : Giv H H2 b G S i ds ws ss ps) : Giv H H2 b G S (i + 1) ds ws ss ps := ⟨g.same, g.bag, g.hG, g.hS, g.pr, g.nb, g.nG, g.nS, Nat.le_succ_of_le g.len, g.sr, g.sb, Nat.le_succ_of_le g.sl⟩
theorem Giv.add {H H2 : Hp} {b G S T : Addr} {i : Nat} {ds : List Chn} {ws ss : List V} {ps : List (Int × Int)} {d : Chn} {v : V} {x y : Int} (g : Giv H H2 b G S i ds ws ss ps) (hHG : H G = none) (hHS : H S = none) (ne : G ≠ S) (nG : G ≠ b) (nS : S ≠ b) (hv : ChA H2 d v) (vb : v ≠ .ref b) (vG : v ≠ .ref G) (vS : v ≠ .ref S) (hT : upd H2 G (.lst (ws ++ [v])) T = none) :
    (upd (upd H2 G (.lst (ws ++ [v]))) T (.tup [.int x, .int y])) S = some (.lst ss) ∧ Giv H (upd (upd (upd H2 G (.lst (ws ++ [v]))) T (.tup [.int x, .int y])) S (.lst (ss ++ [.ref T]))) b G S (i + 1) (ds ++ [d]) (ws ++ [v]) (ss ++ [.ref T]) (ps ++ [(x, y)]) := by
  have hS1 : (upd H2 G (.lst (ws ++ [v]))) S = some (.lst ss) := by rw [upd_ne ne.symm]; exact g.hS
  have hG1 : (upd H2 G (.lst (ws ++ [v]))) G = some (.lst (ws ++ [v])) := upd_same
  have s1 : Same (upd H2 G (.lst (ws ++ [v]))) (upd (upd H2 G (.lst (ws ++ [v]))) T (.tup [.int x, .int y])) := Same.new hT
  have hS2 := s1 _ _ hS1
  have hG2 := s1 _ _ hG1
  have hb1 : BagAt (upd H2 G (.lst (ws ++ [v]))) b := by
    obtain ⟨x, f, e⟩ := g.bag
    exact ⟨x, f, by rw [upd_ne nG.symm]; exact e⟩
  obtain ⟨bx, bf, eb⟩ := hb1.same s1
  have pv : Paired (ChA H2) (ds ++ [d]) (ws ++ [v]) := pr_snoc g.pr hv
  have nGv := nor_app g.nG (nor_one vG)
  have nSv := nor_app g.nS (nor_one vS)
  have p1 := pr_putL (vs := ws ++ [v]) pv g.hG nGv
  have p2 := chs_same s1 p1
  have p3 := pr_putL (vs := ss ++ [.ref T]) p2 hS2 nSv
  refine ⟨hS2, fun c o e n => ?_, ⟨bx, bf, by rw [upd_ne nS.symm]; exact eb⟩, by rw [upd_ne ne]; exact hG2, upd_same, p3, nor_app g.nb (nor_one vb), nGv, nSv, by rw [List.length_append]; have := g.len; simp; omega, pr_snoc (pr_mem g.sr fun p u hu ⟨t, e, ht⟩ => ⟨t, e, ?_⟩) ⟨T, rfl, ?_⟩, nor_app g.sb (nor_one fun z => ?_), by rw [List.length_append]; have := g.sl; simp; omega⟩
  · rw [upd_ne (ne_of_none e hHS)]
    refine s1 _ _ ?_
    rw [upd_ne (ne_of_none e hHG)]
    exact g.same _ _ e n
  · rw [upd_ne (ne_of ht g.hS (by intro z; cases z))]
    refine s1 _ _ ?_
    rw [upd_ne (ne_of ht g.hG (by intro z; cases z))]
    exact ht
  · have : T ≠ S := fun z => by rw [z, hS1] at hT; cases hT
    rw [upd_ne this, upd_same]
  · have z := V.ref.inj z
    rw [z] at hT
    obtain ⟨x2, f2, e2⟩ := hb1
    rw [e2] at hT
    cases hT
theorem seq_set {i : Nat} {v : V} {c : TS} {D : Ends} {σ : L2.St} {H : Hp} (h : c D (σ.set i (some v)) H) : tSeq (tAsg (tC v) (gName i)) c D σ H := h
def GMid (H2 : Hp) (b G S r : Addr) (n i : Nat) (sty x y : Int) (ds : List Chn) (ws ss : List V) (qs : List (Int × Int)) : L2.St → Hp → Prop := fun σ H7 => ∃ v9 v d, σ = [some (.ref b), some (.int n), some (.int sty), some (.ref r), some (.ref G), some (.ref S), some (.int ((0 : Int) + i)), some (.int x), some (.int y), v9, some v] ∧ Giv H2 H7 b G S i ds ws ss qs ∧ ChA H7 d v ∧ v ≠ .ref b ∧ v ≠ .ref G ∧ v ≠ .ref S
def spGiven : Sp := fun vs H Q _ => ∃ (b : Addr) (n : Nat), vs = [.ref b, .int n] ∧ BagAt H b ∧ 1 ≤ n ∧ n ≤ 40 ∧ ∀ (G : Addr) (ds : List Chn) (ws : List V) H2, SameB b H H2 → BagAt H2 b → G ≠ b → H2 G = some (.lst ws) → Paired (ChA H2) ds ws → NoR ws b → ws.length ≤ 7 → Q (.ref G) H2
section
variable {P : Program} {w : World} {K : PySem.W.Frag} {mg : Str → Option Value} {base : Heap}
theorem ok_given {f : Addr} {fd : FuncData} (F : Fun K "_law_given" "_law_given" s_law_given f fd) (B : Blt mg) (g_law_draw : DefR P w K mg base "_law_draw" 1 spDraw) (g_law_order : DefR P w K mg base "_law_order" 2 spOrder) (g_law_size : DefR P w K mg base "_law_size" 2 spSz) (g_law_bent : DefR P w K mg base "_law_bent" 2 spBent) : FnOk P w K mg base (L2.CX P w) 3 f fd ["bag", "count"] spGiven := by
  refine F.okX sc_law_given (fun vs H Q E h => ?_) (fun cdv A outer s H vs Q E hr h => ?_)
  · obtain ⟨b, n, rfl, _⟩ := h
    rfl
  · obtain ⟨b, n, rfl, hb, n1, n40, q⟩ := h
    -- slots: 0 bag, 1 count, 2 style, 3 turned, 4 given, 5 seen, 6 k, 7 a, 8 b, 9 first, 10 one
    refine ⟨_, (pss_cons (ps_set (i := 2) sc_law_given.nd rfl (Or.inl rfl) (pe_cd g_law_draw hr psE (pa_cons (pv 0) (pa_cons pe_int pa_nil))))
      (pss_cons (ps_set (i := 3) sc_law_given.nd rfl (Or.inl rfl) (pe_cd g_law_order hr psE (pa_cons (pv 0) (pa_cons (pv 1) pa_nil))))
      (pss_cons (ps_set (i := 4) sc_law_given.nd rfl (Or.inl rfl) (pe_lst pa_nil))
      (pss_cons (ps_set (i := 5) sc_law_given.nd rfl (Or.inl rfl) (pe_lst pa_nil))
      (pss_cons (ps_for (passes_of rfl) rfl (pi_range1 (by rfl) B.range (pa_cons (pe_cd g_law_draw hr psE (pa_cons (pv 0) (pa_cons pe_int pa_nil))) pa_nil)) (pg_name (i := 6) sc_law_given.nd rfl (Or.inl rfl))
        (pss_cons (ps_set (i := 7) sc_law_given.nd rfl (Or.inl rfl) pe_int)
      (pss_cons (ps_set (i := 8) sc_law_given.nd rfl (Or.inl rfl) pe_int)
      (pss_cons (ps_if (pt_cmpR op_gt (pv 1) pe_int (nomark _)) (pss_cons (ps_set (i := 9) sc_law_given.nd rfl (Or.inl rfl) (pe_cd g_law_draw hr psE (pa_cons (pv 0) (pa_cons (pe_op op_sub (pv 1) pe_int) pa_nil))))
      (pss_cons (ps_set (i := 7) sc_law_given.nd rfl (Or.inl rfl) (pe_ix ix_list (pv 3) (pv 9) (fun _ _ => rfl)))
      (pss_one (ps_set (i := 8) sc_law_given.nd rfl (Or.inl rfl) (pe_ix ix_list (pv 3) (pe_op op_add (pe_op op_add (pv 9) pe_int) (pe_cd g_law_draw hr psE (pa_cons (pv 0) (pa_cons (pe_op op_sub (pe_op op_sub (pv 1) pe_int) (pv 9)) pa_nil)))) (fun _ _ => rfl)))))) pss_nil)
      (pss_cons (ps_if (PW.pt (pw_and (pt_cmpR op_eq (pv 2) pe_int (nomark _)) (pw_and1 (pt_cmpR op_eq (pe_cd g_law_draw hr psE (pa_cons (pv 0) (pa_cons pe_int pa_nil))) pe_int (nomark _))))) (pss_one (ps_par (i := 7) (j := 8) rfl sc_law_given.nd rfl rfl (by decide) rfl rfl (pa_cons (pv 8) (pa_cons (pv 7) pa_nil)) rfl)) pss_nil)
      (pss_cons (ps_set (i := 10) sc_law_given.nd rfl (Or.inl rfl) (pe_tup (pa_cons (pv 7) (pa_cons (pv 8) pa_nil))))
      (pss_cons (ps_if (pt_cmpR op_gt (pe_cd g_law_draw hr psE (pa_cons (pv 0) (pa_cons pe_int pa_nil))) pe_int (nomark _)) (pss_one (ps_set (i := 10) sc_law_given.nd rfl (Or.inl rfl) (pe_tup (pa_cons (pv 7) (pa_cons (pv 8) (pa_cons (pe_cd g_law_size hr psE (pa_cons (pv 0) pa_nil)) pa_nil)))))) pss_nil)
      (pss_cons (ps_if (pt_cmpR op_eq (pe_cd g_law_draw hr psE (pa_cons (pv 0) (pa_cons pe_int pa_nil))) pe_int (nomark _)) (pss_one (ps_set (i := 10) sc_law_given.nd rfl (Or.inl rfl) (pe_cd g_law_bent hr psE (pa_cons (pv 0) (pa_cons (pv 1) (pa_cons (pv 7) (pa_cons (pv 8) pa_nil))))))) pss_nil)
      (pss_one (ps_if (PW.pt (pw_or (pt_cmpR op_lt (pv 2) pe_int (nomark _)) (pw_or1 (pt_cmpR (op_notInD (un65 hr)) (pe_tup (pa_cons (pv 7) (pa_cons (pv 8) pa_nil))) (pv 5) (by rfl))))) (pss_cons (ps_expr (pe_bm PySem.F.plainAttrs_list PySem.F.slot_list_append PySem.F.type_list_append mt_append (pv 4) (pa_cons (pv 10) pa_nil)))
      (pss_one (ps_expr (pe_bm PySem.F.plainAttrs_list PySem.F.slot_list_append PySem.F.type_list_append mt_append (pv 5) (pa_cons (pe_tup (pa_cons (pv 7) (pa_cons (pv 8) pa_nil))) pa_nil))))) pss_nil))))))))))
      (pss_one (ps_ret (pv 4)))))))), ?_⟩
    refine ⟨_, rfl, b, 4, rfl, hb, by decide, by decide, fun sty H1 _ _ s1 b1 => ?_⟩
    refine ⟨_, rfl, _, rfl, b, n, rfl, b1, by omega, fun r ps H2 s2 b2 nr hr2 perm => ?_⟩
    have s02 := s1.trans s2
    refine ⟨by show 0 ≤ sizeLine; decide, fun G nG => ⟨by show 0 ≤ sizeLine; decide, fun S nS => ?_⟩⟩
    have nS2 : H2 S = none := Same.free (Same.new nG) nS
    have GS : G ≠ S := fun z => by rw [← z, upd_same] at nS; cases nS
    have Gb : G ≠ b := (bag_ne b2 nG).symm
    have Sb : S ≠ b := (bag_ne b2 nS2).symm
    have rb : r ≠ b := fun z => by
      obtain ⟨x, f, e⟩ := b1
      rw [z, e] at nr
      cases nr
    have lps : ps.length = n := by rw [perm.length_eq, upto_len]
    have t1 : Same H2 (upd H2 G (.lst [])) := Same.new nG
    have t2 : Same (upd H2 G (.lst [])) (upd (upd H2 G (.lst [])) S (.lst [])) := Same.new nS
    have t12 := t1.trans t2
    have g0 : Giv H2 (upd (upd H2 G (.lst [])) S (.lst [])) b G S 0 [] [] [] [] := ⟨.of t12, b2.same t12, t2 _ _ upd_same, upd_same, .nil, (fun _ hu => by cases hu), (fun _ hu => by cases hu), (fun _ hu => by cases hu), Nat.le_refl _, .nil, (fun _ hu => by cases hu), Nat.le_refl _⟩
    refine ⟨_, rfl, b, 8, rfl, g0.bag, by decide, by decide, fun m H3 m0 m1 s3 b3 => ?_⟩
    obtain ⟨m, rfl⟩ : ∃ k : Nat, m = k := ⟨m.toNat, by omega⟩
    refine ⟨(m : Int), rfl, by omega, by omega, for_range (lo := 0) (n := m) (fun i σ H4 => ∃ v6 v7 v8 v9 v10 ds ws ss qs, σ = [some (.ref b), some (.int n), some (.int sty), some (.ref r), some (.ref G), some (.ref S), v6, v7, v8, v9, v10] ∧ Giv H2 H4 b G S i ds ws ss qs) ⟨_, _, _, _, _, _, _, _, _, rfl, g0.on Gb Sb s3 b3⟩ ?_ ?_⟩
    rotate_left
    · rintro σ H4 ⟨v6, v7, v8, v9, v10, ds, ws, ss, qs, rfl, g⟩
      exact ⟨_, rfl, q G ds ws H4 (s02.trans g.same) g.bag Gb g.hG g.pr g.nb (by have := g.len; omega)⟩
    rintro i σ H4 hi ⟨v6, v7, v8, v9, v10, ds, ws, ss, qs, rfl, g⟩
    -- the two ends
    dsimp only [gName]
    refine seq_set (seq_set ?_)
    refine seq_mid (fun σ H5 => ∃ (x y : Int) (v9 v10 : Option V), σ = [some (.ref b), some (.int n), some (.int sty), some (.ref r), some (.ref G), some (.ref S), some (.int ((0 : Int) + i)), some (.int x), some (.int y), v9, v10] ∧ Giv H2 H5 b G S i ds ws ss qs) (fun N hN => ?_) ?_
    · refine ⟨_, rfl, _, _, rfl, rfl, _, rfl, ite2 (fun e => ?_) (fun e => ?_)⟩
      rotate_left
      · exact hN _ _ ⟨0, 0, _, _, rfl, g⟩
      have e := of_decide_eq_true e
      have n2 : 2 ≤ n := by omega
      refine ⟨_, rfl, _, rfl, _, _, rfl, rfl, b, (n : Int) - 1, rfl, g.bag, by omega, by omega, fun fst H5 f0 f1 s5 b5 => ?_⟩
      have g5 := g.on Gb Sb s5 b5
      have hr5 := g5.same _ _ hr2 rb
      obtain ⟨x, hx⟩ : ∃ x, ps[fst.toNat]? = some x := ⟨ps[fst.toNat]'(by omega), by simp⟩
      refine ⟨_, rfl, _, rfl, r, _, _, _, rfl, rfl, SqL.of hr5, (show atI (ps.map V.int) fst = some (.int x) from by rw [show fst = ((fst.toNat : Nat) : Int) by omega]; exact atI_nat (by rw [List.getElem?_map, hx]; rfl)), ?_⟩
      refine ⟨_, rfl, _, rfl, _, _, rfl, rfl, _, rfl, _, rfl, _, _, rfl, rfl, _, rfl, _, _, rfl, rfl, b, (n : Int) - 1 - fst, rfl, b5, by omega, by omega, fun st H6 t0 t1 s6 b6 => ?_⟩
      have g6 := g5.on Gb Sb s6 b6
      have hr6 := g6.same _ _ hr2 rb
      obtain ⟨y, hy⟩ : ∃ y, ps[(fst + 1 + st).toNat]? = some y := ⟨ps[(fst + 1 + st).toNat]'(by omega), by simp⟩
      refine ⟨_, _, rfl, rfl, r, _, _, _, rfl, rfl, SqL.of hr6, (show atI (ps.map V.int) (fst + 1 + st) = some (.int y) from by rw [show fst + 1 + st = (((fst + 1 + st).toNat : Nat) : Int) by omega]; exact atI_nat (by rw [List.getElem?_map, hy]; rfl)), ?_⟩
      exact hN _ _ ⟨x, y, _, _, rfl, g6⟩
    clear g
    rintro σ H5 ⟨x, y, v9, v10, rfl, g⟩
    -- turned round
    refine seq_mid (fun σ H5 => ∃ (x y : Int) (v9 v10 : Option V), σ = [some (.ref b), some (.int n), some (.int sty), some (.ref r), some (.ref G), some (.ref S), some (.int ((0 : Int) + i)), some (.int x), some (.int y), v9, v10] ∧ Giv H2 H5 b G S i ds ws ss qs) (fun N hN => ?_) ?_
    · refine ⟨_, rfl, rfl, _, rfl, ite2 (fun _ => ?_) (fun _ => hN _ _ ⟨x, y, _, _, rfl, g⟩)⟩
      refine ⟨_, rfl, b, 2, rfl, g.bag, by decide, by decide, fun d H6 d0 d1 s6 b6 => ⟨rfl, _, rfl, ite2 (fun _ => ?_) (fun _ => hN _ _ ⟨x, y, _, _, rfl, g.on Gb Sb s6 b6⟩)⟩⟩
      exact ⟨_, rfl, _, rfl, _, _, rfl, hN _ _ ⟨y, x, _, _, rfl, g.on Gb Sb s6 b6⟩⟩
    clear g
    rintro σ H6 ⟨x, y, v9, v10, rfl, g⟩
    have NN : ∀ {Hx : Hp} {v : V}, NewV Hx v → ∀ a o, Hx a = some o → v ≠ .ref a := fun h a o e z => by
      have := h a z
      rw [e] at this
      cases this
    have ki : ∀ {Hx : Hp} (i : Int), Kt Hx (.int i) := fun i => .inl rfl
    have newT : ∀ {Hx : Hp} {t : Addr}, Hx t = none → NewV Hx (.ref t) := fun nt a e => by rw [← V.ref.inj e]; exact nt
    -- the channel
    refine seq_mid (GMid H2 b G S r n i sty x y ds ws ss qs) (fun N hN => ?_) ?_
    · refine ⟨_, rfl, _, rfl, by show 2 ≤ sizeLine; decide, fun T nT => ?_⟩
      have nv := newT nT
      obtain ⟨bx, bf, eb⟩ := g.bag
      refine hN _ _ ⟨_, .ref T, .tup [.int x, .int y], rfl, g.new Gb Sb nT, ⟨T, rfl, upd_same, fun u hu => ?_, by show 2 ≤ 10; decide⟩, NN nv _ _ eb, NN nv _ _ g.hG, NN nv _ _ g.hS⟩
      simp only [List.mem_cons, List.not_mem_nil, or_false] at hu
      rcases hu with z | z <;> rw [z] <;> exact ki _
    clear g
    rintro σ H7 ⟨v9, v, d, rfl, g, hd, vb, vG, vS⟩
    refine seq_mid (GMid H2 b G S r n i sty x y ds ws ss qs) (fun N hN => ?_) ?_
    · refine ⟨_, rfl, b, 3, rfl, g.bag, by decide, by decide, fun k H8 k0 k1 s8 b8 => ⟨_, _, rfl, rfl, _, rfl, ?_⟩⟩
      have g8 := g.on Gb Sb s8 b8
      have hd8 := hd.onB s8 g.bag vb
      refine ite2 (fun _ => ?_) (fun _ => hN _ _ ⟨_, v, d, rfl, g8, hd8, vb, vG, vS⟩)
      refine ⟨_, rfl, _, rfl, _, rfl, b, rfl, b8, fun c H9 c1 s9 b9 => ⟨by show 3 ≤ sizeLine; decide, fun T nT => ?_⟩⟩
      have g9 := g8.on Gb Sb s9 b9
      have nv := newT nT
      obtain ⟨bx, bf, eb⟩ := g9.bag
      refine hN _ _ ⟨_, .ref T, .tup [.int x, .int y, .int c], rfl, g9.new Gb Sb nT, ⟨T, rfl, upd_same, fun u hu => ?_, by show 3 ≤ 10; decide⟩, NN nv _ _ eb, NN nv _ _ g9.hG, NN nv _ _ g9.hS⟩
      simp only [List.mem_cons, List.not_mem_nil, or_false] at hu
      rcases hu with z | z | z <;> rw [z] <;> exact ki _
    clear g hd vb vG vS v d
    rintro σ H8 ⟨v9, v, d, rfl, g, hd, vb, vG, vS⟩
    refine seq_mid (GMid H2 b G S r n i sty x y ds ws ss qs) (fun N hN => ?_) ?_
    · refine ⟨_, rfl, b, 12, rfl, g.bag, by decide, by decide, fun k H9 k0 k1 s9 b9 => ⟨rfl, _, rfl, ?_⟩⟩
      have g9 := g.on Gb Sb s9 b9
      refine ite2 (fun _ => ?_) (fun _ => hN _ _ ⟨_, v, d, rfl, g9, hd.onB s9 g.bag vb, vb, vG, vS⟩)
      refine ⟨_, rfl, _, rfl, _, rfl, _, rfl, b, n, x, y, rfl, b9, fun d2 v2 H10 h2 nv s10 b10 => ?_⟩
      obtain ⟨bx, bf, eb⟩ := b9
      exact hN _ _ ⟨_, v2, d2, rfl, g9.on Gb Sb s10 b10, h2, NN nv _ _ eb, NN nv _ _ g9.hG, NN nv _ _ g9.hS⟩
    clear g hd vb vG vS v d
    rintro σ H9 ⟨v9, v, d, rfl, g, hd, vb, vG, vS⟩
    -- it is kept
    refine ⟨_, rfl, _, _, rfl, rfl, _, rfl, ite2 (fun _ => ?_) (fun _ => ?_)⟩
    · obtain ⟨Hx, eHx⟩ : ∃ Hx, Hx = H9 := ⟨_, rfl⟩
      have gx := g
      have dx := hd
      rw [← eHx] at gx dx ⊢
      have hS1 : (upd Hx G (.lst (ws ++ [v]))) S = some (.lst ss) := by rw [upd_ne GS.symm]; exact gx.hS
      refine ⟨_, rfl, .inl ⟨rfl, _, SqL.of gx.hG⟩, _, rfl, G, _, _, rfl, rfl, gx.hG, line_lt (by have := gx.len; omega), ?_⟩
      refine ⟨_, rfl, .inl ⟨rfl, _, SqL.of hS1⟩, _, rfl, _, rfl, by show 2 ≤ sizeLine; decide, fun T nT => ?_⟩
      obtain ⟨h1, h2⟩ := gx.add (x := x) (y := y) nG nS2 GS Gb Sb dx vb vG vS nT
      exact ⟨S, _, _, rfl, rfl, h1, line_lt (by have := gx.sl; omega), _, _, _, _, _, _, _, _, _, rfl, h2⟩
    refine ⟨_, rfl, _, rfl, by show 2 ≤ sizeLine; decide, fun T0 nT0 => ?_⟩
    have gx := g.new (o := .tup [.int x, .int y]) Gb Sb nT0
    have dx := hd.same (Same.new nT0 (o := .tup [.int x, .int y]))
    refine ⟨_, rfl, .tuple [.int x, .int y], _, .tup (SqT.of upd_same) (.cons (.int _) (.cons (.int _) .nil)), .lst (SqL.of gx.hS) (pta_dp gx.sr), pta_shaped1 (x, y), pta_shaped qs, _, rfl, ite2 (fun _ => ?_) (fun _ => ?_)⟩
    · obtain ⟨Hx, eHx⟩ : ∃ Hx, Hx = upd H9 T0 (.tup [.int x, .int y]) := ⟨_, rfl⟩
      rw [← eHx] at gx dx ⊢
      have hS1 : (upd Hx G (.lst (ws ++ [v]))) S = some (.lst ss) := by rw [upd_ne GS.symm]; exact gx.hS
      refine ⟨_, rfl, .inl ⟨rfl, _, SqL.of gx.hG⟩, _, rfl, G, _, _, rfl, rfl, gx.hG, line_lt (by have := gx.len; omega), ?_⟩
      refine ⟨_, rfl, .inl ⟨rfl, _, SqL.of hS1⟩, _, rfl, _, rfl, by show 2 ≤ sizeLine; decide, fun T nT => ?_⟩
      obtain ⟨h1, h2⟩ := gx.add (x := x) (y := y) nG nS2 GS Gb Sb dx vb vG vS nT
      exact ⟨S, _, _, rfl, rfl, h1, line_lt (by have := gx.sl; omega), _, _, _, _, _, _, _, _, _, rfl, h2⟩
    · exact ⟨_, _, _, _, _, _, _, _, _, rfl, gx.up⟩
end
end WC

set_option maxHeartbeats 8000000
namespace WC
open PySem PySem.Spec PyProof.Rows L2 L2H
theorem cut_take {xs : List V} {s : Nat} (h : s ≤ xs.length) : cutV xs none (some (s : Int)) = xs.take s := by
  unfold cutV
  rw [HT.sIx_nat, HT.sIx_none, Nat.min_eq_left h, List.drop_zero, Nat.sub_zero]
theorem cut_from {xs : List V} {s : Nat} (h : s ≤ xs.length) : cutV xs (some (s : Int)) none = xs.drop s := by
  unfold cutV
  rw [HT.sIx_nat, HT.sIx_none, Nat.min_eq_left h, List.take_of_length_le (by rw [List.length_drop]; omega)]
theorem cut_last {xs : List V} : cutV xs none (some (-1)) = xs.take (xs.length - 1) := by
  unfold cutV
  rw [HT.sIx_none, List.drop_zero, Nat.sub_zero]
  congr 1
  show (if (-1 : Int) < 0 then ((-1 : Int) + (xs.length : Int)).toNat else min (-1 : Int).toNat xs.length) = xs.length - 1
  rw [if_pos (by decide)]
  omega
theorem pr_drop {α β : Type} {F : α → β → Prop} : ∀ {l : List α} {r : List β} (i : Nat), Paired F l r → Paired F (l.drop i) (r.drop i)
  | _, _, 0, h => by rw [List.drop_zero, List.drop_zero]; exact h
  | _, _, i + 1, .nil => by rw [List.drop_nil, List.drop_nil]; exact .nil
  | _, _, i + 1, .cons p q => by rw [List.drop_succ_cons, List.drop_succ_cons]; exact pr_drop i q
theorem pr_take {α β : Type} {F : α → β → Prop} : ∀ {l : List α} {r : List β} (i : Nat), Paired F l r → Paired F (l.take i) (r.take i)
  | _, _, 0, h => by rw [List.take_zero, List.take_zero]; exact .nil
  | _, _, i + 1, .nil => by rw [List.take_nil, List.take_nil]; exact .nil
  | _, _, i + 1, .cons p q => by rw [List.take_succ_cons, List.take_succ_cons]; exact .cons p (pr_take i q)
theorem pr_app {α β : Type} {F : α → β → Prop} : ∀ {l l2 : List α} {r r2 : List β}, Paired F l r → Paired F l2 r2 → Paired F (l ++ l2) (r ++ r2)
  | _, _, _, _, .nil, h => h
  | _, _, _, _, .cons p q, h => .cons p (pr_app q h)
theorem first_word {n : Int} {ds : List Chn} {m : Nat} {w : Str} (h : FirstF n ds m w) : w ≠ "stages" ∧ w ≠ "circle" ∧ m < ds.length := by
  obtain ⟨⟨d, hd, hw⟩, _⟩ := h
  have il := (List.getElem?_eq_some_iff.mp hd).1
  unfold wordAt at hw
  split at hw
  · rw [← Option.some.inj hw]; exact ⟨by decide +kernel, by decide +kernel, il⟩
  · split at hw
    · rw [← Option.some.inj hw]; exact ⟨by decide +kernel, by decide +kernel, il⟩
    · split at hw
      · rw [← Option.some.inj hw]; exact ⟨by decide +kernel, by decide +kernel, il⟩
      · cases hw
theorem dec_str {x y : Str} : decide (V.str x = V.str y) = decide (x = y) := by
  by_cases e : x = y
  · rw [e, decide_eq_true rfl, decide_eq_true rfl]
  · rw [decide_eq_false e, decide_eq_false (fun z => e (by injection z))]
def spRes : Sp := fun vs H Q _ => ∃ b : Addr, vs = [.ref b] ∧ BagAt H b ∧ ∀ H2, SameB b H H2 → Q (.bl true) H2
section
variable {P : Program} {w : World} {K : PySem.W.Frag} {mg : Str → Option Value} {base : Heap}
theorem ok_small {f : Addr} {fd : FuncData} (F : Fun K "_law_small" "_law_small" s_law_small f fd) (B : Blt mg) (g_law_draw : DefR P w K mg base "_law_draw" 1 spDraw) (g_law_count : DefR P w K mg base "_law_count" 2 spVal) (g_law_extra : DefR P w K mg base "_law_extra" 2 spVal) (g_law_number : DefR P w K mg base "_law_number" 1 (spBtw K)) (g_law_given : DefR P w K mg base "_law_given" 3 spGiven) (g_law_fault : DefR P w K mg base "_law_fault" 3 (spLFault K)) (g_law_answered : DefR P w K mg base "_law_answered" 9 (spAns K)) : FnOk P w K mg base (L2.CX P w) 10 f fd ["bag"] spRes := by
  refine F.okX sc_law_small (fun vs H Q E h => ?_) (fun cdv A outer s H vs Q E hr h => ?_)
  · obtain ⟨b, rfl, _⟩ := h
    rfl
  · obtain ⟨b, rfl, hb, q⟩ := h
    -- slots: 0 bag, 1 count, 2 usual, 3 given, 4 keyed, 5 extra, 6 turn, 7 due
    refine ⟨_, (pss_cons (ps_set (i := 1) sc_law_small.nd rfl (Or.inl rfl) (pe_cd g_law_count hr psE (pa_cons (pv 0) pa_nil)))
      (pss_cons (ps_set (i := 2) sc_law_small.nd rfl (Or.inl rfl) (pe_ifExp (pt_val (pe_cd g_law_number hr psE (pa_cons (pv 1) (pa_cons pe_int (pa_cons pe_int pa_nil))))) (pv 1) pe_int))
      (pss_cons (ps_set (i := 3) sc_law_small.nd rfl (Or.inl rfl) (pe_cd g_law_given hr psE (pa_cons (pv 0) (pa_cons (pv 2) pa_nil))))
      (pss_cons (ps_set (i := 4) sc_law_small.nd rfl (Or.inl rfl) (pe_cmpR op_eq (pe_cd g_law_draw hr psE (pa_cons (pv 0) (pa_cons pe_int pa_nil))) pe_int (nomark _)))
      (pss_cons (ps_set (i := 5) sc_law_small.nd rfl (Or.inl rfl) pe_int)
      (pss_cons (ps_if (pt_val (pv 4)) (pss_one (ps_set (i := 5) sc_law_small.nd rfl (Or.inl rfl) (pe_cd g_law_extra hr psE (pa_cons (pv 0) pa_nil)))) pss_nil)
      (pss_cons (ps_for (passes_of rfl) rfl (pi_range1 (by rfl) B.range (pa_cons pe_int pa_nil)) (pg_name (i := 6) sc_law_small.nd rfl (Or.inl rfl))
        (pss_cons (ps_set (i := 7) sc_law_small.nd rfl (Or.inl rfl) (pe_cd g_law_fault hr psE (pa_cons (pv 1) (pa_cons (pv 3) (pa_cons (pv 5) pa_nil)))))
      (pss_cons (ps_if (pt_not (pt_val (pe_cd g_law_answered hr psE (pa_cons (pv 1) (pa_cons (pv 3) (pa_cons (pv 5) (pa_cons (pv 4) (pa_cons (pv 7) pa_nil)))))))) (pss_one (ps_ret pe_bl)) pss_nil)
      (pss_cons (ps_if (pt_cmpR op_isN (pv 7) pe_non (nomark _)) (pss_one (ps_ret pe_bl)) pss_nil)
      (pss_one (ps_if (pt_cmpR op_eq (pe_ix ix_tup (pv 7) pe_int (fun _ _ => rfl)) pe_str (nomark _)) (pss_one (ps_set (i := 1) sc_law_small.nd rfl (Or.inl rfl) (pv 2))) (pss_one (ps_if (pt_cmpR op_eq (pe_ix ix_tup (pv 7) pe_int (fun _ _ => rfl)) pe_str (nomark _)) (pss_one (ps_set (i := 3) sc_law_small.nd rfl (Or.inl rfl) (pe_slice sl_list (pv 3) po_none (po_some (pe_un un_neg pe_int))))) (pss_one (ps_if (pt_cmpR op_isN (pe_ix ix_tup (pv 7) pe_int (fun _ _ => rfl)) pe_non (nomark _)) (pss_one (ps_set (i := 5) sc_law_small.nd rfl (Or.inl rfl) pe_int)) (pss_one (ps_set (i := 3) sc_law_small.nd rfl (Or.inl rfl) (pe_op op_cat (pe_slice sl_list (pv 3) po_none (po_some (pe_ix ix_tup (pv 7) pe_int (fun _ _ => rfl)))) (pe_slice sl_list (pv 3) (po_some (pe_op op_add (pe_ix ix_tup (pv 7) pe_int (fun _ _ => rfl)) pe_int)) po_none))))))))))))))
      (pss_one (ps_ret pe_bl))))))))), ?_⟩
    refine ⟨_, rfl, b, rfl, hb, fun cv H1 k1 s1 b1 => ?_⟩
    dsimp only [gName]
    refine seq_mid (fun σ H2 => ∃ n : Nat, σ = [some (.ref b), some cv, some (.int n), none, none, none, none, none] ∧ H2 = H1 ∧ 1 ≤ n ∧ n ≤ 40) (fun N hN => ?_) ?_
    · refine ⟨_, rfl, cv, 1, 40, rfl, k1.known, _, rfl, ?_⟩
      cases hc : btw cv 1 40 with
      | false => exact iteF (hN _ _ ⟨3, rfl, rfl, by decide, by decide⟩)
      | true =>
        obtain ⟨n, rfl, n1, n40⟩ : ∃ n : Nat, cv = .int n ∧ 1 ≤ n ∧ n ≤ 40 := by
          cases cv with
          | int i =>
            simp only [btw, Bool.and_eq_true, decide_eq_true_eq] at hc
            exact ⟨i.toNat, by rw [Int.toNat_of_nonneg (by omega)], by omega, by omega⟩
          | _ => cases hc
        exact iteT ⟨_, rfl, hN _ _ ⟨n, rfl, rfl, n1, n40⟩⟩
    rintro σ H1' ⟨n, rfl, rfl, n1, n40⟩
    refine ⟨_, rfl, _, rfl, b, n, rfl, b1, n1, n40, fun G ds ws H2 s2 b2 Gb hG hp nb l7 => ?_⟩
    refine ⟨_, rfl, b, 2, rfl, b2, by decide, by decide, fun k H3 k0 k1' s3 b3 => ⟨rfl, ?_⟩⟩
    generalize decide (V.int k = V.int 1) = keyed
    have s03 := s1.trans (s2.trans s3)
    have k3 := k1.onB (s2.trans s3) b1
    have hG3 := s3 _ _ hG Gb
    have hp3 := pr_onB hp s3 b2 nb
    dsimp only [gName]
    refine seq_set ?_
    refine seq_mid (fun σ H4 => ∃ ev, σ = [some (.ref b), some cv, some (.int n), some (.ref G), some (.bl keyed), some ev, none, none] ∧ SameB b H H4 ∧ Kt H4 cv ∧ Kt H4 ev ∧ (keyed = false → ev = .int 1) ∧ H4 G = some (.lst ws) ∧ Paired (ChA H4) ds ws) (fun N hN => ?_) ?_
    · refine ⟨_, rfl, _, rfl, ?_⟩
      cases keyed with
      | false => exact iteF (hN _ _ ⟨.int 1, rfl, s03, k3, .inl rfl, fun _ => rfl, hG3, hp3⟩)
      | true =>
        refine iteT ⟨_, rfl, b, rfl, b3, fun ev H4 k4 s4 b4 => hN _ _ ⟨ev, rfl, s03.trans s4, k3.onB s4 b3, k4, (fun z => by cases z), s4 _ _ hG3 Gb, pr_onB hp3 s4 b3 nb⟩⟩
    rintro σ H4 ⟨ev, rfl, s04, k4, e4, hke, hG4, hp4⟩
    refine ⟨(12 : Nat), rfl, by omega, by omega, for_range (lo := 0) (n := 12) (fun i σ H5 => ∃ (cnt ev : V) (Z : Addr) (ds : List Chn) (ws : List V) (v6 v7 : Option V), σ = [some (.ref b), some cnt, some (.int n), some (.ref Z), some (.bl keyed), some ev, v6, v7] ∧ SameB b H H5 ∧ Kt H5 cnt ∧ Kt H5 ev ∧ (keyed = false → ev = .int 1) ∧ H5 Z = some (.lst ws) ∧ Paired (ChA H5) ds ws ∧ ws.length ≤ 7) ⟨cv, ev, G, ds, ws, _, _, rfl, s04, k4, e4, hke, hG4, hp4, l7⟩ ?_ ?_⟩
    rotate_left
    · rintro σ H5 ⟨cnt, ev, Z, ds, ws, v6, v7, rfl, s05, _⟩
      exact q _ s05
    clear k4 e4 hke hG4 hp4 l7 hp hG hG3 hp3 nb k3 k1 b1 b2 b3
    clear ev ds ws cv
    rintro i σ H5 hi ⟨cnt, ev, Z, ds, ws, v6, v7, rfl, s05, kc, ke, hke, hZ, hp, l7⟩
    have ul : ds.length ≤ 7 := by rw [hp.length]; exact l7
    refine ⟨_, rfl, _, rfl, _, rfl, Z, cnt, ev, ds, ws, rfl, kc.known, ke.known, hZ, hp, by omega, fun o v H6 s6 dp ov => ?_⟩
    refine ⟨_, rfl, _, rfl, _, rfl, _, rfl, _, rfl, Z, cnt, ev, v, keyed, ds, ws, o, rfl, kc.known.same s6, ke.known.same s6, s6 _ _ hZ, chs_same s6 hp, .inl l7, hke, dp, ov, fun H7 s7 => ⟨_, rfl, iteF ?_⟩⟩
    have s57 := s6.trans s7
    have s07 := s05.trans (.of s57)
    have kc7 := kc.same s57
    have ke7 := ke.same s57
    have hZ7 := s57 _ _ hZ
    have hp7 := chs_same s57 hp
    cases o with
    | none =>
      obtain rfl : v = .non := ov
      exact ⟨_, rfl, rfl, _, rfl, iteT (q _ s07)⟩
    | some wp =>
    obtain ⟨wd, p⟩ := wp
    obtain ⟨t, rfl, ht6⟩ : ∃ t, v = .ref t ∧ H6 t = some (.tup [.str wd, p]) := ov
    have ht := s7 _ _ ht6
    refine ⟨_, rfl, rfl, _, rfl, iteF ?_⟩
    refine ⟨_, rfl, t, _, _, _, rfl, rfl, SqT.of ht, atI_nat (j := 0) rfl, rfl, _, rfl, ?_⟩
    rw [dec_str]
    by_cases e1 : wd = "stages"
    · rw [decide_eq_true e1]
      exact iteT ⟨_, rfl, .int n, ev, Z, ds, ws, _, _, rfl, s07, .inl rfl, ke7, hke, hZ7, hp7, l7⟩
    rw [decide_eq_false e1]
    refine iteF ⟨_, rfl, t, _, _, _, rfl, rfl, SqT.of ht, atI_nat (j := 0) rfl, rfl, _, rfl, ?_⟩
    rw [dec_str]
    by_cases e2 : wd = "circle"
    · rw [decide_eq_true e2]
      refine iteT ⟨_, rfl, _, rfl, _, rfl, Z, ws, rfl, SqL.of hZ7, fun Y nY => ?_⟩
      rw [cut_last]
      have t1 : Same H7 (upd H7 Y (.lst (ws.take (ws.length - 1)))) := Same.new nY
      exact ⟨cnt, ev, Y, ds.take (ws.length - 1), ws.take (ws.length - 1), _, _, rfl, s07.trans (.of t1), kc7.same t1, ke7.same t1, hke, upd_same, pr_take _ (chs_same t1 hp7), by rw [List.length_take]; omega⟩
    rw [decide_eq_false e2]
    refine iteF ⟨_, rfl, t, _, _, _, rfl, rfl, SqT.of ht, atI_nat (j := 1) rfl, ?_⟩
    rcases dp with ⟨_, e⟩ | ⟨m, em, m1, m40, ⟨h, e⟩ | ⟨_, ⟨j, w2, ff, e⟩ | ⟨hok, ⟨he, e⟩ | ⟨x, ex, hx, ⟨_, e⟩ | ⟨_, e⟩⟩⟩⟩⟩
    · injection e with e; injection e with e _; exact absurd e e1
    · omega
    · injection e with e
      injection e with e3 e4
      subst e3 e4
      obtain ⟨_, _, jl⟩ := first_word ff
      have jw : j < ws.length := by rw [← hp7.length]; exact jl
      refine ⟨rfl, _, rfl, iteF ?_⟩
      refine ⟨_, rfl, _, rfl, t, _, _, _, rfl, rfl, SqT.of ht, atI_nat (j := 1) rfl, _, rfl, Z, ws, rfl, SqL.of hZ7, fun A1 nA1 => ?_⟩
      rw [cut_take (by omega)]
      have t1 : Same H7 (upd H7 A1 (.lst (ws.take j))) := Same.new nA1
      refine ⟨_, rfl, _, rfl, t, _, _, _, rfl, rfl, SqT.of (t1 _ _ ht), atI_nat (j := 1) rfl, _, _, rfl, rfl, _, rfl, Z, ws, rfl, SqL.of (t1 _ _ hZ7), fun A2 nA2 => ?_⟩
      rw [show ((j : Int) + 1) = ((j + 1 : Nat) : Int) from rfl, cut_from (by omega)]
      have t2 : Same (upd H7 A1 (.lst (ws.take j))) (upd (upd H7 A1 (.lst (ws.take j))) A2 (.lst (ws.drop (j + 1)))) := Same.new nA2
      refine ⟨A1, A2, _, _, rfl, rfl, t2 _ _ upd_same, upd_same, ?_, fun A3 nA3 => ?_⟩
      · rw [List.length_drop, List.length_take]
        exact line_of (by omega)
      have t3 : Same (upd (upd H7 A1 (.lst (ws.take j))) A2 (.lst (ws.drop (j + 1)))) (upd (upd (upd H7 A1 (.lst (ws.take j))) A2 (.lst (ws.drop (j + 1)))) A3 (.lst (ws.take j ++ ws.drop (j + 1)))) := Same.new nA3
      have t13 := t1.trans (t2.trans t3)
      exact ⟨cnt, ev, A3, ds.take j ++ ds.drop (j + 1), ws.take j ++ ws.drop (j + 1), _, _, rfl, s07.trans (.of t13), kc7.same t13, ke7.same t13, hke, upd_same, chs_same t13 (pr_app (pr_take _ hp7) (pr_drop _ hp7)), by rw [List.length_append, List.length_take, List.length_drop]; omega⟩
    · injection e with e
      injection e with e3 e4
      subst e3 e4
      have hk : keyed = true := by
        cases keyed with
        | true => rfl
        | false =>
          rw [hke rfl] at he
          cases he
      exact ⟨rfl, _, rfl, iteT ⟨cnt, .int 2, Z, ds, ws, _, _, rfl, s07, kc7, .inl rfl, (fun z => by rw [hk] at z; cases z), hZ7, hp7, l7⟩⟩
    · injection e with e; injection e with e _; exact absurd e e2
    · cases e
end
end WC

set_option maxHeartbeats 8000000
namespace WC
open PySem PySem.Spec PyProof.Rows L2 L2H
def least : Nat → Nat
  | 0 => 0
  | a + 1 => least a + (15 - a)
theorem least_big : ∀ k, 120 ≤ least (15 + k)
  | 0 => by decide
  | k + 1 => by
    have := least_big k
    show 120 ≤ least (15 + k) + _
    omega
theorem PtA.same {H H2 : Hp} {p : Int × Int} {v : V} (h : PtA H p v) (s : Same H H2) : PtA H2 p v := let ⟨t, e, ht⟩ := h; ⟨t, e, s _ _ ht⟩
theorem pts_same {H H2 : Hp} {ps : List (Int × Int)} {ws : List V} (s : Same H H2) (h : Paired (PtA H) ps ws) : Paired (PtA H2) ps ws := pr_mem h fun _ _ _ hc => hc.same s
/-- one pair more -/
theorem pts_add {H H2 : Hp} {L T : Addr} {ps : List (Int × Int)} {ks : List V} {x y : Int} (s : Same H H2) (nL : H L = none) (hL : H2 L = some (.lst ks)) (hp : Paired (PtA H2) ps ks) (nT : H2 T = none) :
    upd H2 T (.tup [.int x, .int y]) L = some (.lst ks) ∧ Same H (upd (upd H2 T (.tup [.int x, .int y])) L (.lst (ks ++ [.ref T]))) ∧ Paired (PtA (upd (upd H2 T (.tup [.int x, .int y])) L (.lst (ks ++ [.ref T])))) (ps ++ [(x, y)]) (ks ++ [.ref T]) := by
  have pD : T ≠ L := (ne_of_none hL nT).symm
  refine ⟨by rw [upd_ne pD.symm]; exact hL, Same.newer (Same.newer s (s.free nT)) nL, ?_⟩
  refine pr_snoc (pr_mem hp fun c2 v2 _ ⟨t2, e1, e2⟩ => ⟨t2, e1, ?_⟩) ⟨T, rfl, by rw [upd_ne pD, upd_same]⟩
  rw [upd_ne (ne_of e2 hL (by intro z; cases z)), upd_ne (ne_of_none e2 nT)]
  exact e2
def spPairs : Sp := fun vs H Q _ => ∃ n : Nat, vs = [.int n] ∧ 16 ≤ n ∧ n ≤ 40 ∧ ∀ (L : Addr) (ps : List (Int × Int)) (ks : List V) H2, Same H H2 → H L = none → H2 L = some (.lst ks) → Paired (PtA H2) ps ks → 120 ≤ ks.length → ks.length ≤ 121 → Q (.ref L) H2
section
variable {P : Program} {w : World} {K : PySem.W.Frag} {mg : Str → Option Value} {base : Heap}
theorem ok_pairs {f : Addr} {fd : FuncData} (F : Fun K "_law_pairs" "_law_pairs" s_law_pairs f fd) (B : Blt mg) : FnOk P w K mg base (L2.CX P w) 1 f fd ["count"] spPairs := by
  refine F.okX sc_law_pairs (fun vs H Q E h => ?_) (fun cdv A outer s H vs Q E hr h => ?_)
  · obtain ⟨n, rfl, _⟩ := h
    rfl
  · obtain ⟨n, rfl, n16, n40, q⟩ := h
    -- slots: 0 count, 1 pairs, 2 a, 3 b
    refine ⟨_, (pss_cons (ps_set (i := 1) sc_law_pairs.nd rfl (Or.inl rfl) (pe_lst pa_nil))
      (pss_cons (ps_for (passes_of rfl) rfl (pi_range1 (by rfl) B.range (pa_cons (pv 0) pa_nil)) (pg_name (i := 2) sc_law_pairs.nd rfl (Or.inl rfl))
        (pss_one (ps_for (passes_of rfl) rfl (pi_range2 (by rfl) B.range (pa_cons (pe_op op_add (pv 2) pe_int) (pa_cons (pv 0) pa_nil))) (pg_name (i := 3) sc_law_pairs.nd rfl (Or.inl rfl))
        (pss_one (ps_if (pt_cmpR op_lt (pe_callB call_len_seq (by rfl) B.len bt_len (pa_cons (pv 1) pa_nil)) pe_int (nomark _)) (pss_one (ps_expr (pe_bm PySem.F.plainAttrs_list PySem.F.slot_list_append PySem.F.type_list_append mt_append (pv 1) (pa_cons (pe_tup (pa_cons (pv 2) (pa_cons (pv 3) pa_nil))) pa_nil)))) pss_nil)))))
      (pss_one (ps_ret (pv 1))))), ?_⟩
    refine ⟨by show 0 ≤ sizeLine; decide, fun L nL => ?_⟩
    refine ⟨_, rfl, (n : Int), rfl, by omega, by omega, for_range (lo := 0) (n := n) (fun i σ H2 => ∃ v2 v3 ps ks, σ = [some (.int n), some (.ref L), v2, v3] ∧ Same H H2 ∧ H2 L = some (.lst ks) ∧ Paired (PtA H2) ps ks ∧ ks.length ≤ 121 ∧ (least i ≤ ks.length ∨ 120 ≤ ks.length)) ⟨_, _, [], [], rfl, Same.new nL, upd_same, .nil, by decide, .inl (by decide)⟩ ?_ ?_⟩
    rotate_left
    · rintro σ H2 ⟨v2, v3, ps, ks, rfl, s2, hL, hp, l1, l2⟩
      refine ⟨_, rfl, q L ps ks H2 s2 nL hL hp ?_ l1⟩
      have := least_big (n - 15)
      rw [show 15 + (n - 15) = n by omega] at this
      omega
    rintro i σ H2 hi ⟨v2, v3, ps, ks, rfl, s2, hL, hp, l1, l2⟩
    refine ⟨_, rfl, _, _, rfl, rfl, _, rfl, ((0 : Int) + i) + 1, (n : Int), rfl, by omega, ?_⟩
    obtain ⟨m, hm⟩ : ∃ m : Nat, ((n : Int) - (((0 : Int) + i) + 1)).toNat = m := ⟨_, rfl⟩
    rw [hm]
    refine for_range (n := m) (fun j σ H3 => ∃ v3 ps ks, σ = [some (.int n), some (.ref L), some (.int ((0 : Int) + i)), v3] ∧ Same H H3 ∧ H3 L = some (.lst ks) ∧ Paired (PtA H3) ps ks ∧ ks.length ≤ 121 ∧ (least i + j ≤ ks.length ∨ 120 ≤ ks.length)) ⟨_, ps, ks, rfl, s2, hL, hp, l1, l2⟩ ?_ ?_
    rotate_left
    · rintro σ H3 ⟨v3, ps, ks, rfl, s3, hL, hp, l1, l2⟩
      refine ⟨_, _, ps, ks, rfl, s3, hL, hp, l1, ?_⟩
      show least i + (15 - i) ≤ _ ∨ _
      omega
    clear hp l1 l2 hL s2
    clear ps ks H2 v3
    rintro j σ H3 hj ⟨v3, ps, ks, rfl, s3, hL, hp, l1, l2⟩
    refine ⟨_, rfl, L, _, rfl, .inl (SqL.of hL), _, _, rfl, rfl, _, rfl, ite2 (fun e => ?_) (fun e => ?_)⟩
    · have e := of_decide_eq_true e
      refine ⟨_, rfl, .inl ⟨rfl, _, SqL.of hL⟩, _, rfl, _, rfl, by show 2 ≤ sizeLine; decide, fun T nT => ?_⟩
      obtain ⟨h1, h2, h3⟩ := pts_add (x := (0 : Int) + i) (y := ((0 : Int) + i) + 1 + j) s3 nL hL hp nT
      refine ⟨L, _, _, rfl, rfl, h1, line_lt (by omega), _, _, _, rfl, h2, upd_same, h3, ?_, ?_⟩
      · rw [List.length_append]; show ks.length + 1 ≤ 121; omega
      · rw [List.length_append]; show _ ≤ ks.length + 1 ∨ 120 ≤ ks.length + 1; omega
    · have e : ¬ (ks.length : Int) < 121 := fun z => e (decide_eq_true z)
      exact ⟨_, ps, ks, rfl, s3, hL, hp, l1, .inr (by omega)⟩
end
end WC

set_option maxHeartbeats 8000000
namespace WC
open PySem PySem.Spec PyProof.Rows L2 L2H
theorem ixn {n p : Nat} (h : p < n) : ixN n (p : Int) = some p := by
  unfold ixN
  rw [if_pos (by omega), if_pos (by omega), Int.toNat_natCast]
theorem atI_neg {α : Type} {xs : List α} {v : α} (h : xs[xs.length - 1]? = some v) : atI xs (-1) = some v := by
  obtain ⟨hl, _⟩ := List.getElem?_eq_some_iff.mp h
  have e : xs = xs.take (xs.length - 1) ++ [v] := by
    obtain ⟨_, e2⟩ := List.getElem?_eq_some_iff.mp h
    rw [← e2]
    have := List.take_append_getElem (l := xs) (i := xs.length - 1) hl
    rw [this, show xs.length - 1 + 1 = xs.length by omega, List.take_length]
  rw [e]
  exact atI_last _ _
/-- a tuple of numbers -/
def IT (H : Hp) (xs : List Int) (v : V) : Prop := ∃ t, v = .ref t ∧ H t = some (.tup (xs.map V.int)) ∧ xs.length ≤ 3
theorem its_same {H H2 : Hp} {xss : List (List Int)} {ws : List V} (s : Same H H2) (h : Paired (IT H) xss ws) : Paired (IT H2) xss ws := pr_mem h fun _ _ _ ⟨t, e, ht, l⟩ => ⟨t, e, s _ _ ht, l⟩
theorem its_on {b : Addr} {H H2 : Hp} {xss : List (List Int)} {ws : List V} (s : SameB b H H2) (hb : BagAt H b) (h : Paired (IT H) xss ws) : Paired (IT H2) xss ws := pr_mem h fun _ _ _ ⟨t, e, ht, l⟩ => by
  obtain ⟨x, f, eb⟩ := hb
  exact ⟨t, e, s _ _ ht (ne_of ht eb (by intro z; cases z)), l⟩
theorem its_add0 {H2 : Hp} {L T : Addr} {xss : List (List Int)} {ks : List V} {xs : List Int} (hL : H2 L = some (.lst ks)) (hp : Paired (IT H2) xss ks) (nT : H2 T = none) (l3 : xs.length ≤ 3) :
    upd H2 T (.tup (xs.map V.int)) L = some (.lst ks) ∧ Paired (IT (upd (upd H2 T (.tup (xs.map V.int))) L (.lst (ks ++ [.ref T])))) (xss ++ [xs]) (ks ++ [.ref T]) := by
  have pD : T ≠ L := (ne_of_none hL nT).symm
  refine ⟨by rw [upd_ne pD.symm]; exact hL, ?_⟩
  refine pr_snoc (pr_mem hp fun c2 v2 _ ⟨t2, e1, e2, l⟩ => ⟨t2, e1, ?_, l⟩) ⟨T, rfl, by rw [upd_ne pD, upd_same], l3⟩
  rw [upd_ne (ne_of e2 hL (by intro z; cases z)), upd_ne (ne_of_none e2 nT)]
  exact e2
theorem its_add {H H2 : Hp} {L T : Addr} {xss : List (List Int)} {ks : List V} {xs : List Int} (s : Same H H2) (nL : H L = none) (hL : H2 L = some (.lst ks)) (hp : Paired (IT H2) xss ks) (nT : H2 T = none) (l3 : xs.length ≤ 3) :
    upd H2 T (.tup (xs.map V.int)) L = some (.lst ks) ∧ Same H (upd (upd H2 T (.tup (xs.map V.int))) L (.lst (ks ++ [.ref T]))) ∧ Paired (IT (upd (upd H2 T (.tup (xs.map V.int))) L (.lst (ks ++ [.ref T])))) (xss ++ [xs]) (ks ++ [.ref T]) := by
  have pD : T ≠ L := (ne_of_none hL nT).symm
  refine ⟨by rw [upd_ne pD.symm]; exact hL, Same.newer (Same.newer s (s.free nT)) nL, ?_⟩
  refine pr_snoc (pr_mem hp fun c2 v2 _ ⟨t2, e1, e2, l⟩ => ⟨t2, e1, ?_, l⟩) ⟨T, rfl, by rw [upd_ne pD, upd_same], l3⟩
  rw [upd_ne (ne_of e2 hL (by intro z; cases z)), upd_ne (ne_of_none e2 nT)]
  exact e2
def chI (xs : List Int) : Chn := .tup (xs.map V.int)
theorem it_ch {H : Hp} {xs : List Int} {v : V} (h : IT H xs v) : ChA H (chI xs) v := by
  obtain ⟨t, e, ht, l⟩ := h
  refine ⟨t, e, ht, fun x hx => ?_, by rw [List.length_map]; omega⟩
  obtain ⟨i, _, rfl⟩ := List.mem_map.mp hx
  exact .inl rfl
theorem its_ch {H : Hp} : ∀ {xss : List (List Int)} {ws : List V}, Paired (IT H) xss ws → Paired (ChA H) (xss.map chI) ws
  | _, _, .nil => .nil
  | _, _, .cons p q => .cons (it_ch p) (its_ch q)
theorem it_ne {H : Hp} {xs : List Int} {v : V} {a : Addr} {us : List V} (h : IT H xs v) (ha : H a = some (.lst us)) : v ≠ .ref a := fun z => by
  obtain ⟨t, e, ht, _⟩ := h
  rw [e] at z
  have z := V.ref.inj z
  rw [z, ha] at ht
  cases ht
theorem its_no {H : Hp} {xss : List (List Int)} {ws : List V} {a : Addr} {us : List V} (h : Paired (IT H) xss ws) (ha : H a = some (.lst us)) : NoR ws a := by
  induction h with
  | nil => exact fun _ hu => by cases hu
  | cons p q ih => exact fun u hu => (List.mem_cons.mp hu).elim (fun e => by rw [e]; exact it_ne p ha) (ih u)
theorem pr_rev {α β : Type} {F : α → β → Prop} : ∀ {l : List α} {r : List β}, Paired F l r → Paired F l.reverse r.reverse
  | _, _, .nil => .nil
  | _, _, .cons p q => by rw [List.reverse_cons, List.reverse_cons]; exact pr_snoc (pr_rev q) p
theorem pr_set {α β : Type} {F : α → β → Prop} {a : α} {b : β} (h : F a b) : ∀ {l : List α} {r : List β} (i : Nat), Paired F l r → Paired F (l.set i a) (r.set i b)
  | _, _, 0, .nil => .nil
  | _, _, _ + 1, .nil => .nil
  | _, _, 0, .cons p q => .cons h q
  | _, _, i + 1, .cons p q => .cons p (pr_set h i q)
section
variable {P : Program} {w : World} {K : PySem.W.Frag} {mg : Str → Option Value} {base : Heap}
theorem ok_large {f : Addr} {fd : FuncData} (F : Fun K "_law_large" "_law_large" s_law_large f fd) (B : Blt mg) (g_law_draw : DefR P w K mg base "_law_draw" 1 spDraw) (g_law_pairs : DefR P w K mg base "_law_pairs" 1 spPairs) (g_law_fault : DefR P w K mg base "_law_fault" 3 (spLFault K)) (g_law_answered : DefR P w K mg base "_law_answered" 9 (spAns K)) : FnOk P w K mg base (L2.CX P w) 10 f fd ["bag"] spRes := by
  refine F.okX sc_law_large (fun vs H Q E h => ?_) (fun cdv A outer s H vs Q E hr h => ?_)
  · obtain ⟨b, rfl, _⟩ := h
    rfl
  · obtain ⟨b, rfl, hb, q⟩ := h
    -- slots: 0 bag, 1 count, 2 step, 3 short, 4 given, 5 a, 6 b, 7 few, 8 place, 9 way
    refine ⟨_, (pss_cons (ps_set (i := 1) sc_law_large.nd rfl (Or.inl rfl) (pe_op op_add pe_int (pe_cd g_law_draw hr psE (pa_cons (pv 0) (pa_cons pe_int pa_nil)))))
      (pss_cons (ps_set (i := 2) sc_law_large.nd rfl (Or.inl rfl) (pe_op op_add pe_int (pe_cd g_law_draw hr psE (pa_cons (pv 0) (pa_cons pe_int pa_nil)))))
      (pss_cons (ps_set (i := 3) sc_law_large.nd rfl (Or.inl rfl) (pe_cd g_law_draw hr psE (pa_cons (pv 0) (pa_cons pe_int pa_nil))))
      (pss_cons (ps_set (i := 4) sc_law_large.nd rfl (Or.inl rfl) (pe_lst pa_nil))
      (pss_cons (ps_for (passes_of rfl) rfl (pi_list (pe_cd g_law_pairs hr psE (pa_cons (pv 1) pa_nil))) (pg_tup rfl (pgs_cons (pg_name (i := 5) sc_law_large.nd rfl (Or.inl rfl)) (pgs_cons (pg_name (i := 6) sc_law_large.nd rfl (Or.inl rfl)) pgs_nil)))
        (pss_one (ps_if (pt_cmpR op_eq (pe_op op_modN (pe_callB call_len_seq (by rfl) B.len bt_len (pa_cons (pv 4) pa_nil)) pe_int) (pv 3) (nomark _)) (pss_one (ps_expr (pe_bm PySem.F.plainAttrs_list PySem.F.slot_list_append PySem.F.type_list_append mt_append (pv 4) (pa_cons (pe_tup (pa_cons (pv 5) (pa_cons (pv 6) pa_nil))) pa_nil)))) (pss_one (ps_expr (pe_bm PySem.F.plainAttrs_list PySem.F.slot_list_append PySem.F.type_list_append mt_append (pv 4) (pa_cons (pe_tup (pa_cons (pv 5) (pa_cons (pv 6) (pa_cons (pe_op op_add pe_int (pe_op op_modN (pe_callTy (T := "int") call_int1 (by rfl) B.int bt_int (pa_cons (pe_op op_mul (pe_callB call_len_seq (by rfl) B.len bt_len (pa_cons (pv 4) pa_nil)) (pv 2)) pa_nil)) pe_int)) pa_nil)))) pa_nil)))))))
      (pss_cons (ps_if (pt_cmpR op_eq (pe_cd g_law_draw hr psE (pa_cons (pv 0) (pa_cons pe_int pa_nil))) pe_int (nomark _)) (pss_one (ps_set (i := 4) sc_law_large.nd rfl (Or.inl rfl) (pe_revL (pv 4)))) pss_nil)
      (pss_cons (ps_if (pt_cmpR op_lt (pe_callB call_len_seq (by rfl) B.len bt_len (pa_cons (pv 4) pa_nil)) pe_int (nomark _)) (pss_one (ps_expr (pe_bm PySem.F.plainAttrs_list PySem.F.slot_list_append PySem.F.type_list_append mt_append (pv 4) (pa_cons (pe_tup (pa_cons pe_int (pa_cons pe_int pa_nil))) pa_nil)))) pss_nil)
      (pss_cons (ps_set (i := 7) sc_law_large.nd rfl (Or.inl rfl) (pe_slice sl_list (pv 4) po_none (po_some pe_int)))
      (pss_cons (ps_if (pt_not (pt_val (pe_cd g_law_answered hr psE (pa_cons (pv 1) (pa_cons (pv 7) (pa_cons pe_int (pa_cons pe_bl (pa_cons (pe_cd g_law_fault hr psE (pa_cons (pv 1) (pa_cons (pv 7) (pa_cons pe_int pa_nil)))) pa_nil)))))))) (pss_one (ps_ret pe_bl)) pss_nil)
      (pss_cons (ps_set (i := 8) sc_law_large.nd rfl (Or.inl rfl) (pe_cd g_law_draw hr psE (pa_cons (pv 0) (pa_cons pe_int pa_nil))))
      (pss_cons (ps_set (i := 9) sc_law_large.nd rfl (Or.inl rfl) (pe_cd g_law_draw hr psE (pa_cons (pv 0) (pa_cons pe_int pa_nil))))
      (pss_cons (ps_asg (pe_ix ix_list (pe_lst (pa_cons (pe_tup (pa_cons pe_int (pa_cons pe_int pa_nil))) (pa_cons (pe_tup (pa_cons pe_int (pa_cons pe_int (pa_cons pe_int pa_nil)))) (pa_cons (pe_ix ix_list (pv 7) (pe_op op_sub (pv 8) pe_int) (fun _ _ => rfl)) (pa_cons (pe_tup (pa_cons pe_int (pa_cons pe_int (pa_cons pe_int pa_nil)))) (pa_cons (pe_tup (pa_cons pe_int (pa_cons pe_int pa_nil))) (pa_cons (pe_lst (pa_cons pe_int (pa_cons pe_int pa_nil))) pa_nil))))))) (pv 9) (fun _ _ => rfl)) (pg_sub (pv 4) (pv 8) set_list))
      (pss_cons (ps_set (i := 7) sc_law_large.nd rfl (Or.inl rfl) (pe_slice sl_list (pv 4) po_none (po_some pe_int)))
      (pss_cons (ps_if (pt_not (pt_val (pe_cd g_law_answered hr psE (pa_cons (pv 1) (pa_cons (pv 7) (pa_cons pe_int (pa_cons pe_bl (pa_cons (pe_cd g_law_fault hr psE (pa_cons (pv 1) (pa_cons (pv 7) (pa_cons pe_int pa_nil)))) pa_nil)))))))) (pss_one (ps_ret pe_bl)) pss_nil)
      (pss_cons (ps_if (pt_cmpR op_eq (pe_cd g_law_draw hr psE (pa_cons (pv 0) (pa_cons pe_int pa_nil))) pe_int (nomark _)) (pss_one (ps_set (i := 1) sc_law_large.nd rfl (Or.inl rfl) (pe_ix ix_list (pe_lst (pa_cons pe_int (pa_cons pe_int (pa_cons pe_bl pa_nil)))) (pe_cd g_law_draw hr psE (pa_cons (pv 0) (pa_cons pe_int pa_nil))) (fun _ _ => rfl)))) pss_nil)
      (pss_one (ps_ret (pe_cd g_law_answered hr psE (pa_cons (pv 1) (pa_cons (pv 4) (pa_cons pe_int (pa_cons pe_bl (pa_cons (pe_cd g_law_fault hr psE (pa_cons (pv 1) (pa_cons (pv 4) (pa_cons pe_int pa_nil)))) pa_nil))))))))))))))))))))))), ?_⟩
    refine ⟨_, rfl, b, 25, rfl, hb, by decide, by decide, fun d H1 d0 d1 s1 b1 => ⟨_, _, rfl, rfl, ?_⟩⟩
    obtain ⟨d, rfl⟩ : ∃ k : Nat, d = k := ⟨d.toNat, by omega⟩
    refine ⟨_, rfl, b, 998, rfl, b1, by decide, by decide, fun st H2 _ _ s2 b2 => ⟨_, _, rfl, rfl, ?_⟩⟩
    refine ⟨_, rfl, b, 3, rfl, b2, by decide, by decide, fun sh H3 _ _ s3 b3 => ⟨by show 0 ≤ sizeLine; decide, fun G nG => ?_⟩⟩
    have s03 := s1.trans (s2.trans s3)
    have Gb : G ≠ b := (bag_ne b3 nG).symm
    refine ⟨_, rfl, 16 + d, rfl, by omega, by omega, fun L ps ks H4 s4 nL hL hps l1 l2 => ⟨L, rfl, ⟨_, SqL.of hL⟩, for_list (K := K) (a := L) (xs := ks) (fun i σ H5 => ∃ v5 v6 xss ws, σ = [some (.ref b), some (.int ((16 + d : Nat) : Int)), some (.int (1 + st)), some (.int sh), some (.ref G), v5, v6, none, none, none] ∧ Same H3 H5 ∧ H5 L = some (.lst ks) ∧ Paired (PtA H5) ps ks ∧ H5 G = some (.lst ws) ∧ Paired (IT H5) xss ws ∧ ws.length = i) ⟨_, _, [], [], rfl, (Same.new nG).trans s4, hL, hps, s4 _ _ upd_same, .nil, rfl⟩ (fun i σ H5 _ ⟨_, _, _, _, _, _, hL, _⟩ => SqL.of hL) ?_ ?_⟩⟩
    · rintro i y σ H5 hy ⟨v5, v6, xss, ws, rfl, s5, hL5, hp5, hG5, hw5, lw⟩
      obtain ⟨p, hpi, t, rfl, ht⟩ := pr_at hp5 hy
      have il := (List.getElem?_eq_some_iff.mp hy).1
      have LG : L ≠ G := fun z => by rw [z] at nL; rw [upd_same] at nL; cases nL
      have fin : ∀ (T : Addr) (xs : List Int), H5 T = none → xs.length ≤ 3 → upd H5 T (.tup (xs.map V.int)) G = some (.lst ws) ∧ Same H3 (upd (upd H5 T (.tup (xs.map V.int))) G (.lst (ws ++ [.ref T]))) ∧ (upd (upd H5 T (.tup (xs.map V.int))) G (.lst (ws ++ [.ref T]))) L = some (.lst ks) ∧ Paired (PtA (upd (upd H5 T (.tup (xs.map V.int))) G (.lst (ws ++ [.ref T])))) ps ks ∧ Paired (IT (upd (upd H5 T (.tup (xs.map V.int))) G (.lst (ws ++ [.ref T])))) (xss ++ [xs]) (ws ++ [.ref T]) := fun T xs nT l3 => by
        obtain ⟨h1, h2, h3⟩ := its_add (xs := xs) s5 nG hG5 hw5 nT l3
        refine ⟨h1, h2, ?_, pr_mem hp5 fun c2 v2 _ ⟨t2, e1, e2⟩ => ⟨t2, e1, ?_⟩, h3⟩
        · rw [upd_ne LG, upd_ne (ne_of_none hL5 nT)]
          exact hL5
        · rw [upd_ne (ne_of e2 hG5 (by intro z; cases z)), upd_ne (ne_of_none e2 nT)]
          exact e2
      refine ⟨t, _, rfl, SqT.of ht, rfl, _, _, rfl, _, _, rfl, rfl, ?_⟩
      refine ⟨_, rfl, G, _, rfl, .inl (SqL.of hG5), _, _, rfl, rfl, (by show (3 : Int) ≠ 0; decide), _, rfl, rfl, _, rfl, ite2 (fun _ => ?_) (fun _ => ?_)⟩
      · refine ⟨_, rfl, .inl ⟨rfl, _, SqL.of hG5⟩, _, rfl, _, rfl, by show 2 ≤ sizeLine; decide, fun T nT => ?_⟩
        obtain ⟨h1, h2, h3, h4, h5⟩ := fin T [p.1, p.2] nT (by show 2 ≤ 3; decide)
        exact ⟨G, _, _, rfl, rfl, h1, line_lt (by omega), _, _, _, _, rfl, h2, h3, h4, upd_same, h5, by rw [List.length_append, lw]; rfl⟩
      · refine ⟨_, rfl, .inl ⟨rfl, _, SqL.of hG5⟩, _, rfl, _, rfl, _, rfl, G, _, rfl, .inl (SqL.of hG5), _, rfl, _, _, rfl, rfl, mul_okl (by omega), .inl ⟨_, rfl, _, _, rfl, rfl, (by show (999 : Int) ≠ 0; decide), _, _, rfl, rfl, by show 3 ≤ sizeLine; decide, fun T nT => ?_⟩⟩
        obtain ⟨h1, h2, h3, h4, h5⟩ := fin T [p.1, p.2, 1 + Int.fmod ((ws.length : Int) * (1 + st)) 999] nT (by show 3 ≤ 3; decide)
        exact ⟨G, _, _, rfl, rfl, h1, line_lt (by omega), _, _, _, _, rfl, h2, h3, h4, upd_same, h5, by rw [List.length_append, lw]; rfl⟩
    rintro σ H5 ⟨v5, v6, xss, ws, rfl, s5, hL5, hp5, hG5, hw5, lw⟩
    have b5 := b3.same s5
    have s05 := s03.trans (.of s5)
    clear hL5 hp5 s1 s2 s3 b1 b2 hps hL nL
    -- turned round
    dsimp only
    refine seq_mid (fun σ H6 => ∃ Z xss ws, σ = [some (.ref b), some (.int ((16 + d : Nat) : Int)), some (.int (1 + st)), some (.int sh), some (.ref Z), v5, v6, none, none, none] ∧ SameB b H H6 ∧ BagAt H6 b ∧ Z ≠ b ∧ H Z = none ∧ H6 Z = some (.lst ws) ∧ Paired (IT H6) xss ws ∧ 120 ≤ ws.length ∧ ws.length ≤ 121) (fun N hN => ?_) ?_
    · refine ⟨_, rfl, b, 2, rfl, b5, by decide, by decide, fun k H6 _ _ s6 b6 => ⟨rfl, _, rfl, ite2 (fun _ => ?_) (fun _ => ?_)⟩⟩
      · refine ⟨_, rfl, G, _, rfl, SqL.of (s6 _ _ hG5 Gb), fun Z nZ => ?_⟩
        have t1 : Same H6 (upd H6 Z (.lst ws.reverse)) := Same.new nZ
        have s06 := s05.trans s6
        exact hN _ _ ⟨Z, xss.reverse, ws.reverse, rfl, s06.trans (.of t1), b6.same t1, (bag_ne b6 nZ).symm, s06.free b6 nZ, upd_same, its_same t1 (pr_rev (its_on s6 b5 hw5)), by rw [List.length_reverse]; omega, by rw [List.length_reverse]; omega⟩
      · exact hN _ _ ⟨G, xss, ws, rfl, s05.trans s6, b6, Gb, s03.free b3 nG, s6 _ _ hG5 Gb, its_on s6 b5 hw5, by omega, by omega⟩
    clear hw5 hG5 lw s5 s05 b5
    clear nG Gb ws xss H5
    rintro σ H6 ⟨Z, xss, ws, rfl, s06, b6, Zb, nZ, hZ, hw, l1, l2⟩
    -- 121
    refine seq_mid (fun σ H7 => ∃ xss ws, σ = [some (.ref b), some (.int ((16 + d : Nat) : Int)), some (.int (1 + st)), some (.int sh), some (.ref Z), v5, v6, none, none, none] ∧ SameB b H H7 ∧ BagAt H7 b ∧ H7 Z = some (.lst ws) ∧ Paired (IT H7) xss ws ∧ ws.length = 121) (fun N hN => ?_) ?_
    · refine ⟨_, rfl, Z, _, rfl, .inl (SqL.of hZ), _, _, rfl, rfl, _, rfl, ite2 (fun e => ?_) (fun e => ?_)⟩
      · have e := of_decide_eq_true e
        refine ⟨_, rfl, .inl ⟨rfl, _, SqL.of hZ⟩, by show 2 ≤ sizeLine; decide, fun T nT => ?_⟩
        obtain ⟨h1, h2⟩ := its_add0 (xs := [1, 0]) hZ hw nT (by decide)
        refine ⟨Z, _, _, rfl, rfl, h1, line_lt (by omega), hN _ _ ⟨_, _, rfl, (s06.put (s06.free b6 nT)).put nZ, ?_, upd_same, h2, by rw [List.length_append]; show ws.length + 1 = 121; omega⟩⟩
        obtain ⟨x, f, e2⟩ := b6
        exact ⟨x, f, by rw [upd_ne Zb.symm, upd_ne (bag_ne ⟨x, f, e2⟩ nT)]; exact e2⟩
      · have e : ¬ (ws.length : Int) < 121 := fun z => e (decide_eq_true z)
        exact hN _ _ ⟨xss, ws, rfl, s06, b6, hZ, hw, by omega⟩
    clear s06 b6 hZ hw l1 l2 b3 s03 s4
    clear xss ws H6
    rintro σ H7 ⟨xss, ws, rfl, s07, b7, hZ, hw, lw⟩
    -- the first 120
    refine ⟨_, rfl, _, rfl, Z, ws, rfl, SqL.of hZ, fun W nW => ?_⟩
    rw [show (120 : Int) = ((120 : Nat) : Int) from rfl, cut_take (by omega)]
    have t1 : Same H7 (upd H7 W (.lst (ws.take 120))) := Same.new nW
    have hW : (upd H7 W (.lst (ws.take 120))) W = some (.lst (ws.take 120)) := upd_same
    obtain ⟨H8, e8⟩ : ∃ H8, H8 = upd H7 W (.lst (ws.take 120)) := ⟨_, rfl⟩
    rw [← e8] at t1 hW ⊢
    have hw8 := its_same t1 hw
    have hk8 : Paired (ChA H8) ((xss.take 120).map chI) (ws.take 120) := its_ch (pr_take 120 hw8)
    have lx : xss.length = 121 := by rw [hw.length]; exact lw
    have ld : ((xss.take 120).map chI).length = 120 := by rw [List.length_map, List.length_take]; omega
    have lk : (ws.take 120).length = 120 := by rw [List.length_take]; omega
    refine ⟨_, rfl, _, rfl, _, rfl, _, rfl, W, .int ((16 + d : Nat) : Int), .int 1, ((xss.take 120).map chI), (ws.take 120), rfl, trivial, trivial, hW, hk8, by omega, fun o v H9 s8 dp ov => ⟨W, .int ((16 + d : Nat) : Int), .int 1, v, false, ((xss.take 120).map chI), (ws.take 120), o, rfl, trivial, trivial, s8 _ _ hW, chs_same s8 hk8, .inr ⟨rfl, by omega⟩, fun _ => rfl, dp, ov, fun H9' s9 => ⟨_, rfl, iteF ?_⟩⟩⟩
    have s79 := t1.trans (s8.trans s9)
    have s09 := s07.trans (.of s79)
    have b9 := b7.same s79
    have hZ9 := s79 _ _ hZ
    have hW9 := s9 _ _ (s8 _ _ hW)
    have hw9 := its_same s79 hw
    have Wb : W ≠ b := (bag_ne b7 nW).symm
    refine ⟨_, rfl, b, 120, rfl, b9, by decide, by decide, fun p H10 p0 p1 s10 b10 => ?_⟩
    refine ⟨_, rfl, b, 6, rfl, b10, by decide, by decide, fun way H11 w0 w1 s11 b11 => ?_⟩
    have s911 := s10.trans s11
    have s011 := s09.trans s911
    have hZ11 := s911 _ _ hZ9 Zb
    have hW11 := s911 _ _ hW9 Wb
    have hw11 := its_on s911 b9 hw9
    obtain ⟨p, rfl⟩ : ∃ k : Nat, p = k := ⟨p.toNat, by omega⟩
    obtain ⟨x0, hx0⟩ : ∃ x0, atI (ws.take 120) ((p : Int) - 1) = some x0 := by
      cases p with
      | zero => exact ⟨_, atI_neg (List.getElem?_eq_getElem (by omega))⟩
      | succ j => exact ⟨_, by rw [show ((j + 1 : Nat) : Int) - 1 = (j : Nat) by omega]; exact atI_nat (List.getElem?_eq_getElem (by omega))⟩
    obtain ⟨j0, _, hj0, _⟩ := atI_get hx0
    obtain ⟨c0, hc0, hx⟩ := pr_at (pr_take 120 hw11) hj0
    refine ⟨by show 2 ≤ sizeLine; decide, fun T1 n1 => ⟨by show 3 ≤ sizeLine; decide, fun T2 n2 => ?_⟩⟩
    obtain ⟨h1, eh1⟩ : ∃ h1, h1 = upd H11 T1 (.tup [.int 3, .int 3]) := ⟨_, rfl⟩
    rw [← eh1] at n2 ⊢
    obtain ⟨h2, eh2⟩ : ∃ h2, h2 = upd h1 T2 (.tup [.int 0, .int 1, .int 1000]) := ⟨_, rfl⟩
    rw [← eh2]
    have u1 : Same H11 h1 := by rw [eh1]; exact Same.new n1
    have u2 : Same h1 h2 := by rw [eh2]; exact Same.new n2
    have u12 := u1.trans u2
    refine ⟨_, rfl, _, rfl, _, _, rfl, rfl, W, _, _, _, rfl, rfl, SqL.of (u12 _ _ hW11), hx0, by show 3 ≤ sizeLine; decide, fun T3 n3 => ⟨by show 2 ≤ sizeLine; decide, fun T4 n4 => ⟨by show 2 ≤ sizeLine; decide, fun L5 n5 => ⟨by show 6 ≤ sizeLine; decide, fun P2 n6 => ?_⟩⟩⟩⟩
    obtain ⟨h3, eh3⟩ : ∃ h3, h3 = upd h2 T3 (.tup [.int 15, .int 0, .int 4]) := ⟨_, rfl⟩
    rw [← eh3] at n4 n5 n6 ⊢
    obtain ⟨h4, eh4⟩ : ∃ h4, h4 = upd h3 T4 (.tup [.int 1, .int 0]) := ⟨_, rfl⟩
    rw [← eh4] at n5 n6 ⊢
    obtain ⟨h5, eh5⟩ : ∃ h5, h5 = upd h4 L5 (.lst [.int 1, .int 2]) := ⟨_, rfl⟩
    rw [← eh5] at n6 ⊢
    have u3 : Same h2 h3 := by rw [eh3]; exact Same.new n3
    have u4 : Same h3 h4 := by rw [eh4]; exact Same.new n4
    have u5 : Same h4 h5 := by rw [eh5]; exact Same.new n5
    have u6 : Same h5 (upd h5 P2 (.lst [V.ref T1, .ref T2, x0, .ref T3, .ref T4, .ref L5])) := Same.new n6
    have hP2 : (upd h5 P2 (.lst [V.ref T1, .ref T2, x0, .ref T3, .ref T4, .ref L5])) P2 = some (.lst [V.ref T1, .ref T2, x0, .ref T3, .ref T4, .ref L5]) := upd_same
    obtain ⟨h6, eh6⟩ : ∃ h6, h6 = upd h5 P2 (.lst [V.ref T1, .ref T2, x0, .ref T3, .ref T4, .ref L5]) := ⟨_, rfl⟩
    rw [← eh6] at u6 hP2 ⊢
    have u56 := u5.trans u6
    have u46 := u4.trans u56
    have u36 := u3.trans u46
    have u26 := u2.trans u36
    have u16 := u1.trans u26
    have hZ6 := u16 _ _ hZ11
    have b6 := b11.same u16
    have fr : ∀ {hh : Hp} {t : Addr}, Same H11 hh → hh t = none → V.ref t ≠ .ref Z ∧ V.ref t ≠ .ref b := fun s n => by
      obtain ⟨bx, bf, eb⟩ := b11
      exact ⟨(fun z => by rw [V.ref.inj z, s _ _ hZ11] at n; cases n), (fun z => by rw [V.ref.inj z, s _ _ eb] at n; cases n)⟩
    obtain ⟨v, dd, hv, dv, vZ, vb⟩ : ∃ v d, atI [V.ref T1, .ref T2, x0, .ref T3, .ref T4, .ref L5] way = some v ∧ ChA h6 d v ∧ v ≠ .ref Z ∧ v ≠ .ref b := by
      rcases (by omega : way = 0 ∨ way = 1 ∨ way = 2 ∨ way = 3 ∨ way = 4 ∨ way = 5) with z | z | z | z | z | z <;> subst z
      · exact ⟨_, chI [3, 3], atI_nat (j := 0) rfl, it_ch ⟨T1, rfl, u26 _ _ (by rw [eh1]; exact upd_same), by decide⟩, fr (Same.refl _) n1⟩
      · exact ⟨_, chI [0, 1, 1000], atI_nat (j := 1) rfl, it_ch ⟨T2, rfl, u36 _ _ (by rw [eh2]; exact upd_same), by decide⟩, fr u1 n2⟩
      · obtain ⟨bx, bf, eb⟩ := b11
        obtain ⟨t, e, ht, l⟩ := hx
        exact ⟨_, chI c0, atI_nat (j := 2) rfl, it_ch ⟨t, e, u16 _ _ ht, l⟩, it_ne ⟨t, e, ht, l⟩ hZ11, it_ne ⟨t, e, ht, l⟩ eb⟩
      · exact ⟨_, chI [15, 0, 4], atI_nat (j := 3) rfl, it_ch ⟨T3, rfl, u46 _ _ (by rw [eh3]; exact upd_same), by decide⟩, fr u12 n3⟩
      · exact ⟨_, chI [1, 0], atI_nat (j := 4) rfl, it_ch ⟨T4, rfl, u56 _ _ (by rw [eh4]; exact upd_same), by decide⟩, fr (u12.trans u3) n4⟩
      · exact ⟨_, .oth (.ref L5), atI_nat (j := 5) rfl, ⟨rfl, .inr ⟨L5, _, rfl, u6 _ _ (by rw [eh5]; exact upd_same)⟩⟩, fr (u12.trans (u3.trans u4)) n5⟩
    refine ⟨_, rfl, P2, _, _, _, rfl, rfl, SqL.of hP2, hv, _, rfl, _, rfl, Z, _, _, p, rfl, rfl, hZ6, ixn (by omega), ?_⟩
    have hw6 := its_same u16 hw11
    obtain ⟨ds, us, eds, eus⟩ : ∃ ds us, ds = (xss.map chI).set p dd ∧ us = ws.set p v := ⟨_, _, rfl, rfl⟩
    have nos : ∀ {a : Addr} {xs : List V}, h6 a = some (.lst xs) → v ≠ .ref a → NoR us a := fun ha na u hu => by
      rw [eus] at hu
      rcases List.mem_or_eq_of_mem_set hu with h | h
      · exact its_no hw6 ha u h
      · rw [h]; exact na
    have nZ6 : NoR us Z := nos hZ6 vZ
    have nb6 : NoR us b := by
      obtain ⟨bx, bf, eb⟩ := b6
      exact nos eb vb
    have hc6 : Paired (ChA (upd h6 Z (.lst us))) ds us := pr_putL (by rw [eds, eus]; exact pr_set dv p (its_ch hw6)) hZ6 nZ6
    have lus : us.length = 121 := by rw [eus, List.length_set]; exact lw
    have lds : ds.length = 121 := by rw [hc6.length]; exact lus
    rw [← eus]
    have hZ7 : (upd h6 Z (.lst us)) Z = some (.lst us) := upd_same
    have b7' : BagAt (upd h6 Z (.lst us)) b := by
      obtain ⟨bx, bf, eb⟩ := b6
      exact ⟨bx, bf, by rw [upd_ne Zb.symm]; exact eb⟩
    have s012 : SameB b H (upd h6 Z (.lst us)) := (s011.trans (.of u16)).put nZ
    clear eds eus nos hw6 b6 hc0 hx hj0 hx0 dv vZ vb hv hP2 hZ6
    obtain ⟨h7, eh7⟩ : ∃ h7, h7 = upd h6 Z (.lst us) := ⟨_, rfl⟩
    rw [← eh7] at hc6 hZ7 b7' s012 ⊢
    refine ⟨_, rfl, _, rfl, Z, us, rfl, SqL.of hZ7, fun W2 nW2 => ?_⟩
    rw [cut_take (by omega)]
    have t2 : Same h7 (upd h7 W2 (.lst (us.take 120))) := Same.new nW2
    have hW2 : (upd h7 W2 (.lst (us.take 120))) W2 = some (.lst (us.take 120)) := upd_same
    obtain ⟨h8, eh8⟩ : ∃ h8, h8 = upd h7 W2 (.lst (us.take 120)) := ⟨_, rfl⟩
    rw [← eh8] at t2 hW2 ⊢
    have hk8 : Paired (ChA h8) (ds.take 120) (us.take 120) := pr_take 120 (chs_same t2 hc6)
    have ld2 : (ds.take 120).length = 120 := by rw [List.length_take]; omega
    have lk2 : (us.take 120).length = 120 := by rw [List.length_take]; omega
    clear s8 s9 dp ov
    refine ⟨_, rfl, _, rfl, _, rfl, _, rfl, W2, .int ((16 + d : Nat) : Int), .int 1, (ds.take 120), (us.take 120), rfl, trivial, trivial, hW2, hk8, by omega, fun o v h9 s8 dp ov => ⟨W2, .int ((16 + d : Nat) : Int), .int 1, v, false, (ds.take 120), (us.take 120), o, rfl, trivial, trivial, s8 _ _ hW2, chs_same s8 hk8, .inr ⟨rfl, by omega⟩, fun _ => rfl, dp, ov, fun h9' s9 => ⟨_, rfl, iteF ?_⟩⟩⟩
    have s79 := t2.trans (s8.trans s9)
    have b9' := b7'.same s79
    have hZ9' := s79 _ _ hZ7
    have hc9 := chs_same s79 hc6
    have s09' := s012.trans (.of s79)
    -- another count
    dsimp only [tNext]
    refine seq_mid (fun σ H6 => ∃ cv v7 v8 v9, σ = [some (.ref b), some cv, some (.int (1 + st)), some (.int sh), some (.ref Z), v5, v6, v7, v8, v9] ∧ SameB b H H6 ∧ (∀ Hx, Known K Hx cv) ∧ H6 Z = some (.lst us) ∧ Paired (ChA H6) ds us) (fun N hN => ?_) ?_
    · refine ⟨_, rfl, b, 3, rfl, b9', by decide, by decide, fun k H10 _ _ s10 b10 => ⟨rfl, _, rfl, ite2 (fun _ => ?_) (fun _ => hN _ _ ⟨_, _, _, _, rfl, s09'.trans s10, fun _ => trivial, s10 _ _ hZ9' Zb, pr_onB hc9 s10 b9' nb6⟩)⟩⟩
      refine ⟨by show 3 ≤ sizeLine; decide, fun P3 n7 => ?_⟩
      have t3 : Same H10 (upd H10 P3 (.lst [.int 0, .int 41, .bl true])) := Same.new n7
      have b10' := b10.same t3
      refine ⟨_, rfl, b, 3, rfl, b10', by decide, by decide, fun e H12 e0 e1 s12 b12 => ?_⟩
      have hP3 := s12 _ _ (upd_same (H := H10) (a := P3) (o := .lst [.int 0, .int 41, .bl true])) (bag_ne b10 n7).symm
      have s912 := s10.trans ((SameB.of t3).trans s12)
      obtain ⟨v, hv, kv⟩ : ∃ v, atI [V.int 0, .int 41, .bl true] e = some v ∧ ∀ Hx, Known K Hx v := by
        rcases (by omega : e = 0 ∨ e = 1 ∨ e = 2) with z | z | z <;> subst z
        · exact ⟨_, atI_nat (j := 0) rfl, fun _ => trivial⟩
        · exact ⟨_, atI_nat (j := 1) rfl, fun _ => trivial⟩
        · exact ⟨_, atI_nat (j := 2) rfl, fun _ => trivial⟩
      exact ⟨P3, _, _, _, rfl, rfl, SqL.of hP3, hv, hN _ _ ⟨v, _, _, _, rfl, s09'.trans s912, kv, s912 _ _ hZ9' Zb, pr_onB hc9 s912 b9' nb6⟩⟩
    clear s8 s9 dp ov
    rintro σ h10 ⟨cv, v7, v8, v9, rfl, s0, kv, hZl, hcl⟩
    exact ⟨_, rfl, _, rfl, _, rfl, _, rfl, Z, cv, .int 1, ds, us, rfl, kv _, trivial, hZl, hcl, by omega, fun o v h11 s8 dp ov => ⟨Z, cv, .int 1, v, false, ds, us, o, rfl, kv _, trivial, s8 _ _ hZl, chs_same s8 hcl, .inr ⟨rfl, by omega⟩, fun _ => rfl, dp, ov, fun h11' s9 => q _ (s0.trans (.of (s8.trans s9)))⟩⟩
end
end WC

set_option maxHeartbeats 8000000
namespace WC
open PySem PySem.Spec PyProof.Rows L2 L2H
section
variable {P : Program} {w : World} {K : PySem.W.Frag} {mg : Str → Option Value} {base : Heap}
theorem ok_round_trip {f : Addr} {fd : FuncData} (F : Fun K "_law_round_trip" "_law_round_trip" s_law_round_trip f fd) (B : Blt mg) (g_law_draw : DefR P w K mg base "_law_draw" 1 spDraw) (g_law_order : DefR P w K mg base "_law_order" 2 spOrder) (g_law_fault : DefR P w K mg base "_law_fault" 3 (spLFault K)) (g_law_answered : DefR P w K mg base "_law_answered" 9 (spAns K)) : FnOk P w K mg base (L2.CX P w) 10 f fd ["bag"] spRes := by
  refine F.okX sc_law_round_trip (fun vs H Q E h => ?_) (fun cdv A outer s H vs Q E hr h => ?_)
  · obtain ⟨b, rfl, _⟩ := h
    rfl
  · obtain ⟨b, rfl, hb, q⟩ := h
    -- slots: 0 bag, 1 turned*, 2 step*, 3 given, 4 k, 5 place, 6 ends, 7 last, 8 row
    refine ⟨_, (pss_cons (ps_set (i := 1) sc_law_round_trip.nd rfl (Or.inr rfl) (pe_cd g_law_order hr psE (pa_cons (pv 0) (pa_cons pe_int pa_nil))))
      (pss_cons (ps_set (i := 2) sc_law_round_trip.nd rfl (Or.inr rfl) (pe_op op_add pe_int (pe_cd g_law_draw hr psE (pa_cons (pv 0) (pa_cons pe_int pa_nil)))))
      (pss_cons (ps_setLc (i := 3) (own := [("k", 4)]) rfl sc_law_round_trip.nd rfl rfl (sw_true rfl rfl rfl (by decide +kernel)) (pi_range1 (by rfl) B.range (pa_cons pe_int pa_nil)) (blkOk_by (N := nn_law_round_trip) (sc := defScope s_law_round_trip) (own := [("k", 4)]) (by decide +kernel)) (fun _ _ _ _ _ => (pg_name (i := 4) sc_law_round_trip.nd rfl (Or.inl rfl))) (fun _ _ _ _ _ => pts_nil) (fun _ _ _ _ _ => (pe_tup (pa_cons (pe_ix (i_lst (K := K)) (pv 1) (pv 4) (fun _ _ => rfl)) (pa_cons (pe_ix (i_lst (K := K)) (pv 1) (pe_op op_add (pv 4) pe_int) (fun _ _ => rfl)) (pa_cons (pe_op op_add pe_int (pe_op op_modN (pe_callTy (T := "int") call_int1 (by rfl) B.int bt_int (pa_cons (pe_op op_mul (pv 4) (pv 2)) pa_nil)) pe_int)) pa_nil))))))
      (pss_cons (ps_set (i := 5) sc_law_round_trip.nd rfl (Or.inl rfl) (pe_cd g_law_draw hr psE (pa_cons (pv 0) (pa_cons pe_int pa_nil))))
      (pss_cons (ps_set (i := 6) sc_law_round_trip.nd rfl (Or.inl rfl) (pe_lst (pa_cons (pe_ix ix_list (pv 1) pe_int (fun _ _ => rfl)) (pa_cons (pe_ix ix_list (pv 1) pe_int (fun _ _ => rfl)) pa_nil))))
      (pss_cons (ps_for (passes_of rfl) rfl (pi_list (pe_lst (pa_cons (pe_tup (pa_cons (pe_ix ix_list (pv 6) pe_int (fun _ _ => rfl)) (pa_cons (pe_ix ix_list (pv 6) pe_int (fun _ _ => rfl)) pa_nil))) (pa_cons (pe_tup (pa_cons (pe_ix ix_list (pv 6) pe_int (fun _ _ => rfl)) (pa_cons (pe_ix ix_list (pv 6) pe_int (fun _ _ => rfl)) pa_nil))) pa_nil)))) (pg_name (i := 7) sc_law_round_trip.nd rfl (Or.inl rfl))
        (pss_cons (ps_set (i := 8) sc_law_round_trip.nd rfl (Or.inl rfl) (pe_op op_cat (pe_op op_cat (pe_slice sl_list (pv 3) po_none (po_some (pv 5))) (pe_lst (pa_cons (pv 7) pa_nil))) (pe_slice sl_list (pv 3) (po_some (pv 5)) po_none)))
      (pss_one (ps_if (pt_not (pt_val (pe_cd g_law_answered hr psE (pa_cons pe_int (pa_cons (pv 8) (pa_cons pe_int (pa_cons pe_bl (pa_cons (pe_cd g_law_fault hr psE (pa_cons pe_int (pa_cons (pv 8) (pa_cons pe_int pa_nil)))) pa_nil)))))))) (pss_one (ps_ret pe_bl)) pss_nil))))
      (pss_one (ps_ret pe_bl)))))))), ?_⟩
    refine ⟨_, rfl, b, 40, rfl, hb, by decide, fun r ps H1 s1 b1 nr hr1 perm => ?_⟩
    have lps : ps.length = 40 := by rw [perm.length_eq, upto_len]
    have rb : r ≠ b := fun z => by
      obtain ⟨x, f, e⟩ := hb
      rw [z, e] at nr
      cases nr
    refine ⟨_, rfl, b, 998, rfl, b1, by decide, by decide, fun st H2 t0 t1 s2 b2 => ⟨_, _, rfl, rfl, ?_⟩⟩
    have s02 := s1.trans s2
    have hr2 := s2 _ _ hr1 rb
    have pat : ∀ j : Nat, j < 40 → ∃ x, atI (ps.map V.int) (j : Int) = some (.int x) := fun j hj => ⟨ps[j]'(by omega), atI_nat (by rw [List.getElem?_map, List.getElem?_eq_getElem (by omega)]; rfl)⟩
    refine ⟨(39 : Nat), rfl, by omega, by omega, fun D hD => lc_range (lo := 0) (n := 39) (fun i H3 => ∃ xss ws, Same H2 H3 ∧ H3 D = some (.lst ws) ∧ Paired (IT H3) xss ws ∧ ws.length = i) ⟨[], [], Same.new hD, upd_same, .nil, rfl⟩ ?_ ?_⟩
    · rintro i H3 hi ⟨xss, ws, s3, hw, hp, lw⟩
      obtain ⟨x, hx⟩ := pat i (by omega)
      obtain ⟨y, hy⟩ := pat (i + 1) (by omega)
      have hr3 := s3 _ _ hr2
      refine ⟨rfl, yes ⟨_, rfl, _, rfl, r, _, _, _, rfl, rfl, SqL.of hr3, by rw [Int.zero_add]; exact hx, _, rfl, _, rfl, _, _, rfl, rfl, r, _, _, _, rfl, rfl, SqL.of hr3, by rw [Int.zero_add]; exact hy, ?_⟩⟩
      refine ⟨_, rfl, _, rfl, _, _, rfl, rfl, mul_okl (by omega), .inl ⟨_, rfl, _, _, rfl, rfl, (by show (999 : Int) ≠ 0; decide), _, _, rfl, rfl, by show 3 ≤ sizeLine; decide, fun T nT => ?_⟩⟩
      obtain ⟨h1, h2, h3⟩ := its_add (xs := [x, y, 1 + Int.fmod (((0 : Int) + i) * (1 + st)) 999]) s3 hD hw hp nT (by show 3 ≤ 3; decide)
      exact ⟨_, h1, line_lt (by omega), _, _, h2, upd_same, h3, by rw [List.length_append, lw]; rfl⟩
    rintro H3 ⟨xss, ws, s3, hw, hp, lw⟩
    have b3 := b2.same s3
    refine ⟨_, rfl, b, 40, rfl, b3, by decide, by decide, fun p H4 p0 p1 s4 b4 => ?_⟩
    obtain ⟨p, rfl⟩ : ∃ k : Nat, p = k := ⟨p.toNat, by omega⟩
    have Db : D ≠ b := (bag_ne b2 hD).symm
    have hw4 := s4 _ _ hw Db
    have hp4 := its_on s4 b3 hp
    have hr4 := s4 _ _ (s3 _ _ hr2) rb
    have s04 := s02.trans ((SameB.of s3).trans s4)
    obtain ⟨x, hx⟩ := pat 39 (by omega)
    obtain ⟨y, hy⟩ := pat 0 (by omega)
    refine ⟨_, rfl, r, _, _, _, rfl, rfl, SqL.of hr4, hx, _, rfl, r, _, _, _, rfl, rfl, SqL.of hr4, hy, by show 2 ≤ sizeLine; decide, fun M nM => ?_⟩
    have t1 : Same H4 (upd H4 M (.lst [.int x, .int y])) := Same.new nM
    have hM : (upd H4 M (.lst [.int x, .int y])) M = some (.lst [.int x, .int y]) := upd_same
    obtain ⟨h1, e1⟩ : ∃ h1, h1 = upd H4 M (.lst [.int x, .int y]) := ⟨_, rfl⟩
    rw [← e1] at t1 hM ⊢
    refine ⟨_, rfl, M, _, _, _, rfl, rfl, SqL.of hM, atI_nat (j := 0) rfl, _, rfl, M, _, _, _, rfl, rfl, SqL.of hM, atI_nat (j := 1) rfl, by show 2 ≤ sizeLine; decide, fun T1 n1 => ?_⟩
    obtain ⟨h2, e2⟩ : ∃ h2, h2 = upd h1 T1 (.tup [.int x, .int y]) := ⟨_, rfl⟩
    rw [← e2]
    have t2 : Same h1 h2 := by rw [e2]; exact Same.new n1
    have hM2 := t2 _ _ hM
    refine ⟨_, rfl, M, _, _, _, rfl, rfl, SqL.of hM2, atI_nat (j := 1) rfl, _, rfl, M, _, _, _, rfl, rfl, SqL.of hM2, atI_nat (j := 0) rfl, by show 2 ≤ sizeLine; decide, fun T2 n2 => ⟨by show 2 ≤ sizeLine; decide, fun L2 n3 => ?_⟩⟩
    obtain ⟨h3, e3⟩ : ∃ h3, h3 = upd h2 T2 (.tup [.int y, .int x]) := ⟨_, rfl⟩
    rw [← e3] at n3 ⊢
    have t3 : Same h2 h3 := by rw [e3]; exact Same.new n2
    have t4 : Same h3 (upd h3 L2 (.lst [.ref T1, .ref T2])) := Same.new n3
    have hL2 : (upd h3 L2 (.lst [.ref T1, .ref T2])) L2 = some (.lst [.ref T1, .ref T2]) := upd_same
    obtain ⟨h4, e4⟩ : ∃ h4, h4 = upd h3 L2 (.lst [.ref T1, .ref T2]) := ⟨_, rfl⟩
    rw [← e4] at t4 hL2 ⊢
    have t34 := t3.trans t4
    have t14 := t1.trans (t2.trans t34)
    have hT1 : h4 T1 = some (.tup [.int x, .int y]) := t34 _ _ (by rw [e2]; exact upd_same)
    have hT2 : h4 T2 = some (.tup [.int y, .int x]) := t4 _ _ (by rw [e3]; exact upd_same)
    have hw5 := t14 _ _ hw4
    have hp5 := its_same t14 hp4
    have s05 := s04.trans (.of t14)
    have lx : xss.length = 39 := by rw [hp.length]; exact lw
    refine ⟨L2, rfl, ⟨_, SqL.of hL2⟩, for_list (K := K) (a := L2) (xs := [.ref T1, .ref T2]) (fun i σ H5 => ∃ v7 v8, σ = [some (.ref b), some (.ref r), some (.int (1 + st)), some (.ref D), none, some (.int p), some (.ref M), v7, v8] ∧ Same h4 H5) ⟨_, _, rfl, Same.refl _⟩ (fun i σ H5 _ ⟨_, _, _, s5⟩ => SqL.of (s5 _ _ hL2)) ?_ ?_⟩
    · rintro i z σ H5 hz ⟨v7, v8, rfl, s5⟩
      obtain ⟨cz, hcz⟩ : ∃ c, IT H5 c z := by
        have hm := List.mem_of_getElem? hz
        simp only [List.mem_cons, List.not_mem_nil, or_false] at hm
        rcases hm with e | e <;> rw [e]
        · exact ⟨[x, y], T1, rfl, s5 _ _ hT1, by show 2 ≤ 3; decide⟩
        · exact ⟨[y, x], T2, rfl, s5 _ _ hT2, by show 2 ≤ 3; decide⟩
      have hw6 := s5 _ _ hw5
      have hp6 := its_same s5 hp5
      have lk : p ≤ ws.length := by omega
      refine ⟨_, rfl, _, rfl, _, rfl, D, ws, rfl, SqL.of hw6, fun A1 m1 => ?_⟩
      rw [cut_take lk]
      obtain ⟨g1, f1⟩ : ∃ g, g = upd H5 A1 (.lst (ws.take p)) := ⟨_, rfl⟩
      have hA1 : g1 A1 = some (.lst (ws.take p)) := by rw [f1]; exact upd_same
      have w1 : Same H5 g1 := by rw [f1]; exact Same.new m1
      rw [← f1]
      refine ⟨_, rfl, by show 1 ≤ sizeLine; decide, fun A2 m2 => ?_⟩
      obtain ⟨g2, f2⟩ : ∃ g, g = upd g1 A2 (.lst [z]) := ⟨_, rfl⟩
      have hA2 : g2 A2 = some (.lst [z]) := by rw [f2]; exact upd_same
      have w2 : Same g1 g2 := by rw [f2]; exact Same.new m2
      rw [← f2]
      refine ⟨A1, A2, _, _, rfl, rfl, w2 _ _ hA1, hA2, line_of (by rw [List.length_take]; show _ + 1 ≤ _; omega), fun A3 m3 => ?_⟩
      obtain ⟨g3, f3⟩ : ∃ g, g = upd g2 A3 (.lst (ws.take p ++ [z])) := ⟨_, rfl⟩
      have hA3 : g3 A3 = some (.lst (ws.take p ++ [z])) := by rw [f3]; exact upd_same
      have w3 : Same g2 g3 := by rw [f3]; exact Same.new m3
      rw [← f3]
      have w13 := w1.trans (w2.trans w3)
      refine ⟨_, rfl, _, rfl, _, rfl, D, ws, rfl, SqL.of (w13 _ _ hw6), fun A4 m4 => ?_⟩
      rw [cut_from lk]
      obtain ⟨g4, f4⟩ : ∃ g, g = upd g3 A4 (.lst (ws.drop p)) := ⟨_, rfl⟩
      have hA4 : g4 A4 = some (.lst (ws.drop p)) := by rw [f4]; exact upd_same
      have w4 : Same g3 g4 := by rw [f4]; exact Same.new m4
      rw [← f4]
      have lr : (ws.take p ++ [z] ++ ws.drop p).length = 40 := by
        rw [List.length_append, List.length_append, List.length_take, List.length_drop]
        show min p ws.length + 1 + (ws.length - p) = 40
        omega
      refine ⟨A3, A4, _, _, rfl, rfl, w4 _ _ hA3, hA4, by rw [← List.length_append, lr]; exact line_of (by decide), fun A5 m5 => ?_⟩
      obtain ⟨g5, f5⟩ : ∃ g, g = upd g4 A5 (.lst (ws.take p ++ [z] ++ ws.drop p)) := ⟨_, rfl⟩
      have hA5 : g5 A5 = some (.lst (ws.take p ++ [z] ++ ws.drop p)) := by rw [f5]; exact upd_same
      have w5 : Same g4 g5 := by rw [f5]; exact Same.new m5
      rw [← f5]
      have w15 := w13.trans (w4.trans w5)
      have hr : Paired (ChA g5) ((xss.take p ++ [cz] ++ xss.drop p).map chI) (ws.take p ++ [z] ++ ws.drop p) := its_ch (its_same w15 (pr_app (pr_app (pr_take p hp6) (.cons hcz .nil)) (pr_drop p hp6)))
      have ld : ((xss.take p ++ [cz] ++ xss.drop p).map chI).length = 40 := by rw [hr.length]; exact lr
      exact ⟨_, rfl, _, rfl, A5, .int 40, .int 1, ((xss.take p ++ [cz] ++ xss.drop p).map chI), (ws.take p ++ [z] ++ ws.drop p), rfl, trivial, trivial, hA5, hr, by omega, fun o v H8 s8 dp ov => ⟨A5, .int 40, .int 1, v, false, ((xss.take p ++ [cz] ++ xss.drop p).map chI), (ws.take p ++ [z] ++ ws.drop p), o, rfl, trivial, trivial, s8 _ _ hA5, chs_same s8 hr, .inr ⟨rfl, by omega⟩, fun _ => rfl, dp, ov, fun H8' s9 => ⟨_, rfl, iteF ⟨_, _, rfl, s5.trans (w15.trans (s8.trans s9))⟩⟩⟩⟩
    rintro σ H5 ⟨v7, v8, rfl, s5⟩
    exact q _ (s05.trans (.of s5))
end
end WC

set_option maxHeartbeats 16000000
namespace WC
open PySem PySem.Spec PyProof.Rows L2 L2H
theorem same_of_new {H H2 H3 : Hp} {b : Addr} (s : Same H H2) (nb : H b = none) (s3 : SameB b H2 H3) : Same H H3 := fun c o e => s3 c o (s c o e) (ne_of_none e nb)
def spLaw (K : PySem.W.Frag) : Sp := fun vs H Q _ => ∃ (a : Addr) (ns : List Int), vs = [.ref a] ∧ SqL K H a (ns.map V.int) ∧ ns.length ≤ 63 ∧ ∀ H', Q (.bl true) H'
section
variable {P : Program} {w : World} {K : PySem.W.Frag} {mg : Str → Option Value} {base : Heap}
theorem ok_law {f CW CI CB CM CS CT CN : Addr} {fd : FuncData} (F : Fun K "law" "law" s_law f fd) (B : Blt mg) (T : ErrL K mg CW CI CB CM CS CT CN) (EI : ExcR P w K mg base "InvalidNet" CI 1 2 flI) (g_law_same_row : DefR P w K mg base "_law_same_row" 2 (spSR K)) (g_law_bag : DefR P w K mg base "_law_bag" 2 (spBag K)) (g_law_draw : DefR P w K mg base "_law_draw" 1 spDraw)
    (g_law_large : DefR P w K mg base "_law_large" 10 spRes) (g_law_round_trip : DefR P w K mg base "_law_round_trip" 10 spRes) (g_law_small : DefR P w K mg base "_law_small" 10 spRes) : FnOk P w K mg base (L2.CX P w) 11 f fd ["script"] (spLaw K) := by
  refine F.okX sc_law (fun vs H Q E h => ?_) (fun cdv A outer s H vs Q E hr h => ?_)
  · obtain ⟨a, ns, rfl, _⟩ := h
    rfl
  · obtain ⟨a, ns, rfl, ha, hlen, q⟩ := h
    -- slots: 0 script, 1 made, 2 k, 3 bag, 4 way, 5 good
    refine ⟨_, (pss_cons (ps_set (i := 1) sc_law.nd rfl (Or.inl rfl) (pe_newx EI hr (pa_cons pe_str (pa_cons pe_int pa_nil))))
      (pss_cons (ps_if (pt_not (pt_val (pe_cd g_law_same_row hr psE (pa_cons (pe_tup (pa_cons (pe_xo T.ixf T.rea (pv 1)) (pa_cons (pe_xo T.ixf T.pos (pv 1)) pa_nil))) (pa_cons (pe_tup (pa_cons pe_str (pa_cons pe_int pa_nil))) pa_nil))))) (pss_one (ps_ret pe_bl)) pss_nil)
      (pss_cons (ps_for (passes_of rfl) rfl (pi_range1 (by rfl) B.range (pa_cons (pe_callB (call_max2 rfl) (by rfl) B.max boot_max (pa_cons pe_int (pa_cons (pe_callB (call_min2 rfl) (by rfl) B.min boot_min (pa_cons (pe_callB call_len_seq (by rfl) B.len bt_len (pa_cons (pv 0) pa_nil)) (pa_cons pe_int pa_nil))) pa_nil))) pa_nil)) (pg_name (i := 2) sc_law.nd rfl (Or.inl rfl))
        (pss_cons (ps_set (i := 3) sc_law.nd rfl (Or.inl rfl) (pe_cd g_law_bag hr psE (pa_cons (pv 0) (pa_cons (pv 2) pa_nil))))
      (pss_cons (ps_set (i := 4) sc_law.nd rfl (Or.inl rfl) (pe_cd g_law_draw hr psE (pa_cons (pv 3) (pa_cons pe_int pa_nil))))
      (pss_cons (ps_if (pt_cmpR op_eq (pv 4) pe_int (nomark _)) (pss_one (ps_set (i := 5) sc_law.nd rfl (Or.inl rfl) (pe_cd g_law_large hr psE (pa_cons (pv 3) pa_nil)))) (pss_one (ps_if (pt_cmpR op_eq (pv 4) pe_int (nomark _)) (pss_one (ps_set (i := 5) sc_law.nd rfl (Or.inl rfl) (pe_cd g_law_round_trip hr psE (pa_cons (pv 3) pa_nil)))) (pss_one (ps_set (i := 5) sc_law.nd rfl (Or.inl rfl) (pe_cd g_law_small hr psE (pa_cons (pv 3) pa_nil)))))))
      (pss_one (ps_if (pt_not (pt_val (pv 5))) (pss_one (ps_ret pe_bl)) pss_nil))))))
      (pss_one (ps_ret pe_bl))))), ?_⟩
    have key : ∀ l : Nat, ∃ cnt : Nat, (if (if (3 : Int) < (l : Int) then (3 : Int) else (l : Int)) > 1 then (if (3 : Int) < (l : Int) then (3 : Int) else (l : Int)) else 1) = (cnt : Int) ∧ cnt ≤ 3 := fun l => by
      by_cases h : (3 : Int) < l
      · rw [if_pos h, if_pos (by decide)]
        exact ⟨3, rfl, by decide⟩
      · rw [if_neg h]
        by_cases h2 : (l : Int) > 1
        · rw [if_pos h2]
          exact ⟨l, rfl, by omega⟩
        · rw [if_neg h2]
          exact ⟨1, rfl, by omega⟩
    refine seq_mid (fun σ H1 => ∃ e d, σ = [some (.ref a), some (.ref e), none, none, none, none] ∧ Same H H1 ∧ H1 e = some (exo e CI (some d)) ∧ H1 d = some (exd d [("position", .int 4), ("reason", .str "circle")])) (fun N1 hN => ?_) ?_
    · refine ⟨by show 2 ≤ 1000; decide, fun e he => ⟨e, [.str "circle", .int 4], rfl, rfl, upd_same, fun d hd hne => ⟨rfl, hN _ _ ⟨e, d, rfl, ?_⟩⟩⟩⟩
      have nd : H d = none := by
        rw [upd_ne hne] at hd
        exact hd
      refine ⟨fun c o ec => ?_, upd_same, by rw [upd_ne hne]; exact upd_same⟩
      have c1 := ne_of_none ec he
      rw [upd_ne c1, upd_ne (ne_of_none ec nd), upd_ne c1]
      exact ec
    rintro σ H1 ⟨e, d, rfl, s1, he, hd⟩
    refine ⟨_, rfl, e, d, _, .str "circle", rfl, he, hd, rfl, _, rfl, e, d, _, .int 4, rfl, he, hd, rfl, by show 2 ≤ sizeLine; decide, fun p1 h1 => ⟨by show 2 ≤ sizeLine; decide, fun p2 h2 => ?_⟩⟩
    have t1 := Same.new (o := .tup [.str "circle", .int 4]) h1
    have t2 := Same.new (o := .tup [.str "circle", .int 4]) h2
    refine ⟨p1, p2, true, _, rfl, t2 _ _ upd_same, SqT.of upd_same, by show 2 ≤ 1000; decide, fun x hx => (by
        simp only [List.mem_cons, List.not_mem_nil, or_false] at hx
        rcases hx with e | e <;> subst e <;> rfl), fun H2 s2 => ⟨_, rfl, iteF ?_⟩⟩
    have s02 := s1.trans (t1.trans (t2.trans s2))
    obtain ⟨cnt, ec, lc⟩ := key ns.length
    refine ⟨_, rfl, a, _, rfl, .inl (s02.seq ha), ?_⟩
    rw [List.length_map]
    refine ⟨_, _, rfl, _, _, rfl, (cnt : Int), congrArg (fun z => [V.int z]) ec, by omega, by omega, for_range (lo := 0) (n := cnt) (fun i σ H3 => ∃ v2 v3 v4 v5, σ = [some (.ref a), some (.ref e), v2, v3, v4, v5] ∧ Same H2 H3) ⟨_, _, _, _, rfl, Same.refl H2⟩ ?_ ?_⟩
    · rintro i σ H3 hi ⟨v2, v3, v4, v5, rfl, s3⟩
      refine ⟨_, rfl, _, rfl, a, ns, i, by rw [Int.zero_add], (s02.trans s3).seq ha, fun b H4 s4 nb b4 => ?_⟩
      refine ⟨_, rfl, b, 8, rfl, b4, by decide, by decide, fun way H5 _ _ s5 b5 => ?_⟩
      have fin : ∀ H6, SameB b H5 H6 → Same H2 H6 := fun H6 s6 => s3.trans (same_of_new s4 nb (s5.trans s6))
      refine ⟨_, rfl, rfl, _, rfl, ite2 (fun _ => ?_) (fun _ => ?_)⟩
      · exact ⟨_, rfl, b, rfl, b5, fun H6 s6 => ⟨_, rfl, _, rfl, iteF ⟨_, _, _, _, rfl, fin H6 s6⟩⟩⟩
      refine ⟨_, rfl, rfl, _, rfl, ite2 (fun _ => ?_) (fun _ => ?_)⟩
      · exact ⟨_, rfl, b, rfl, b5, fun H6 s6 => ⟨_, rfl, _, rfl, iteF ⟨_, _, _, _, rfl, fin H6 s6⟩⟩⟩
      · exact ⟨_, rfl, b, rfl, b5, fun H6 s6 => ⟨_, rfl, _, rfl, iteF ⟨_, _, _, _, rfl, fin H6 s6⟩⟩⟩
    · rintro σ H3 ⟨v2, v3, v4, v5, rfl, s3⟩
      exact q H3
end
end WC

set_option maxHeartbeats 16000000
namespace WC
open PySem PySem.Spec PyProof.Rows L2
theorem raw0 {P : Program} {w : World} {K : PySem.W.Frag} {mg : Str → Option Value} {base : Heap} {CX : CXT} {k : Nat} {f : Addr} {fd : FuncData} {ps : List Str} {sp : Sp} (F : FnOk P w K mg base CX k f fd ps sp) (hb : Binds K fd ps []) : FnR P w K mg base CX k f sp :=
  (F.raw hb .nil).imp fun vs H Q E h => by
    rw [List.append_nil]
    exact h
abbrev PK : Program := PySem.Challenge.pw_withincall_k00_pipelines_checked
theorem all_k00 {w : World} {K : PySem.W.Frag} {h : Heap} {mg : Str → Option Value} {fa : Addr} (X : K.In h) (G : h.Ns mainGlobals mg) (hfa : mg "law" = some (.ref fa))
    {fbtw : Addr}
    {ocbtw kVbtw dcbtw pmbtw cdbtw ctbtw : Value} {odbtw anbtw : Option Addr} {slbtw : Array (Option Value)}
    {fnat : Addr}
    {ocnat kVnat dcnat pmnat cdnat ctnat : Value} {odnat annat : Option Addr} {slnat : Array (Option Value)}
    {fjoi : Addr}
    {ocjoi kVjoi dcjoi pmjoi cdjoi ctjoi : Value} {odjoi anjoi : Option Addr} {sljoi : Array (Option Value)}
    {fcir : Addr}
    {occir kVcir dccir pmcir cdcir ctcir : Value} {odcir ancir : Option Addr} {slcir : Array (Option Value)}
    {fcch : Addr}
    {occch kVcch dccch pmcch cdcch ctcch : Value} {odcch ancch : Option Addr} {slcch : Array (Option Value)}
    {fwic : Addr}
    {ocwic kVwic dcwic pmwic cdwic ctwic : Value} {odwic anwic : Option Addr} {slwic : Array (Option Value)}
    {fcel : Addr}
    {occel kVcel dccel pmcel cdcel ctcel : Value} {odcel ancel : Option Addr} {slcel : Array (Option Value)}
    {fbag : Addr}
    {ocbag kVbag dcbag pmbag cdbag ctbag : Value} {odbag anbag : Option Addr} {slbag : Array (Option Value)}
    {fdra : Addr}
    {ocdra kVdra dcdra pmdra cddra ctdra : Value} {oddra andra : Option Addr} {sldra : Array (Option Value)}
    {fsam : Addr}
    {ocsam kVsam dcsam pmsam cdsam ctsam : Value} {odsam ansam : Option Addr} {slsam : Array (Option Value)}
    {fsar : Addr}
    {ocsar kVsar dcsar pmsar cdsar ctsar : Value} {odsar ansar : Option Addr} {slsar : Array (Option Value)}
    {fsrs : Addr}
    {ocsrs kVsrs dcsrs pmsrs cdsrs ctsrs : Value} {odsrs ansrs : Option Addr} {slsrs : Array (Option Value)}
    {ford : Addr}
    {ocord kVord dcord pmord cdord ctord : Value} {odord anord : Option Addr} {slord : Array (Option Value)}
    {fnum : Addr}
    {ocnum kVnum dcnum pmnum cdnum ctnum : Value} {odnum annum : Option Addr} {slnum : Array (Option Value)}
    {fchf : Addr}
    {occhf kVchf dcchf pmchf cdchf ctchf : Value} {odchf anchf : Option Addr} {slchf : Array (Option Value)}
    {flci : Addr}
    {oclci kVlci dclci pmlci cdlci ctlci : Value} {odlci anlci : Option Addr} {sllci : Array (Option Value)}
    {ffau : Addr}
    {ocfau kVfau dcfau pmfau cdfau ctfau : Value} {odfau anfau : Option Addr} {slfau : Array (Option Value)}
    {fful : Addr}
    {ocful kVful dcful pmful cdful ctful : Value} {odful anful : Option Addr} {slful : Array (Option Value)}
    {fove : Addr}
    {ocove kVove dcove pmove cdove ctove : Value} {odove anove : Option Addr} {slove : Array (Option Value)}
    {ffor : Addr}
    {ocfor kVfor dcfor pmfor cdfor ctfor : Value} {odfor anfor : Option Addr} {slfor : Array (Option Value)}
    {flef : Addr}
    {oclef kVlef dclef pmlef cdlef ctlef : Value} {odlef anlef : Option Addr} {sllef : Array (Option Value)}
    {fkey : Addr}
    {ockey kVkey dckey pmkey cdkey ctkey : Value} {odkey ankey : Option Addr} {slkey : Array (Option Value)}
    {fgoo : Addr}
    {ocgoo kVgoo dcgoo pmgoo cdgoo ctgoo : Value} {odgoo angoo : Option Addr} {slgoo : Array (Option Value)}
    {fans : Addr}
    {ocans kVans dcans pmans cdans ctans : Value} {odans anans : Option Addr} {slans : Array (Option Value)}
    {fcou : Addr}
    {occou kVcou dccou pmcou cdcou ctcou : Value} {odcou ancou : Option Addr} {slcou : Array (Option Value)}
    {fext : Addr}
    {ocext kVext dcext pmext cdext ctext : Value} {odext anext : Option Addr} {slext : Array (Option Value)}
    {fben : Addr}
    {ocben kVben dcben pmben cdben ctben : Value} {odben anben : Option Addr} {slben : Array (Option Value)}
    {fsiz : Addr}
    {ocsiz kVsiz dcsiz pmsiz cdsiz ctsiz : Value} {odsiz ansiz : Option Addr} {slsiz : Array (Option Value)}
    {fgiv : Addr}
    {ocgiv kVgiv dcgiv pmgiv cdgiv ctgiv : Value} {odgiv angiv : Option Addr} {slgiv : Array (Option Value)}
    {fsma : Addr}
    {ocsma kVsma dcsma pmsma cdsma ctsma : Value} {odsma ansma : Option Addr} {slsma : Array (Option Value)}
    {fpai : Addr}
    {ocpai kVpai dcpai pmpai cdpai ctpai : Value} {odpai anpai : Option Addr} {slpai : Array (Option Value)}
    {flar : Addr}
    {oclar kVlar dclar pmlar cdlar ctlar : Value} {odlar anlar : Option Addr} {sllar : Array (Option Value)}
    {frou : Addr}
    {ocrou kVrou dcrou pmrou cdrou ctrou : Value} {odrou anrou : Option Addr} {slrou : Array (Option Value)}
    {flaw : Addr}
    {oclaw kVlaw dclaw pmlaw cdlaw ctlaw : Value} {odlaw anlaw : Option Addr} {sllaw : Array (Option Value)}
    {CI fxI NNI : Addr} {nmI qnI : Str} {bsI bmI subI : List Value} {snI : List Str} {abI : Bool} {coI : Option Bool} {ddI : Option Addr} {m0I m1I m2I m3I m5I : Option Value}
    {ocxI kVxI dcxI pmxI cdxI ctxI : Value} {odxI anxI : Option Addr} {slxI : Array (Option Value)}
    {CW : Addr}
    {CB : Addr}
    {CM : Addr}
    {CS : Addr}
    {CT : Addr}
    {CN : Addr}
    {N pIC gIC : Addr} {restIC : List Value} {t1 t2 t3 t4 : Tok}
    {ocIC kVIC dcIC pmIC cdIC ctIC : Value} {odIC anIC : Option Addr} {slIC : Array (Option Value)}
    {fNI : Addr}
    {CP iniP ccP cdaP : Addr}
    {Dk : Addr} {tD : Tok}
    {oSP dSP pSP tSP kc_P o1P : Value} {qSP nSP_ dc_P o2P : Option Addr} {sSP lc_P o3P : Array (Option Value)} {vsP : Array Value} {fileP : Str} {tkP : Tok}
    {ocNI kVNI dcNI pmNI cdNI ctNI : Value} {odNI anNI : Option Addr} {slNI : Array (Option Value)}
    {pslots gslots : Addr} {restslots : List Value}
    {ocslots kVslots dcslots pmslots cdslots ctslots : Value} {odslots anslots : Option Addr} {slslots : Array (Option Value)}
    (z_isi : PySem.W.nsIn K mainGlobals "isinstance" = some none)
    (z_int : PySem.W.nsIn K mainGlobals "int" = some none)
    (z_bool : PySem.W.nsIn K mainGlobals "bool" = some none)
    (z_tuple : PySem.W.nsIn K mainGlobals "tuple" = some none)
    (z_list : PySem.W.nsIn K mainGlobals "list" = some none)
    (z_str : PySem.W.nsIn K mainGlobals "str" = some none)
    (z_len : PySem.W.nsIn K mainGlobals "len" = some none)
    (z_range : PySem.W.nsIn K mainGlobals "range" = some none)
    (z_sorted : PySem.W.nsIn K mainGlobals "sorted" = some none)
    (z_enum : PySem.W.nsIn K mainGlobals "enumerate" = some none)
    (z_sum : PySem.W.nsIn K mainGlobals "sum" = some none)
    (z_all : PySem.W.nsIn K mainGlobals "all" = some none)
    (z_max : PySem.W.nsIn K mainGlobals "max" = some none)
    (z_min : PySem.W.nsIn K mainGlobals "min" = some none)
    (z_verr : PySem.W.nsIn K mainGlobals "ValueError" = some none)
    (z_sup : PySem.W.nsIn K mainGlobals "super" = some none)
    (abtw : PySem.W.nsIn K mainGlobals "is_between" = some (some (.ref fbtw)))
    (lbtw : K.lookup fbtw = some ⟨ocbtw, odbtw, .func (PySem.W.fnOf "is_between" "is_between" (defArgs s_is_between) (defBody s_is_between) (defScope s_is_between) .none kVbtw dcbtw pmbtw anbtw cdbtw ctbtw), slbtw⟩)
    (cbtw : PySem.W.codeIn K cdbtw "is_between" = true)
    (kbtw : PySem.W.keepIn K (.ref fbtw) = true)
    (anat : PySem.W.nsIn K mainGlobals "_numbers_at" = some (some (.ref fnat)))
    (lnat : K.lookup fnat = some ⟨ocnat, odnat, .func (PySem.W.fnOf "_numbers_at" "_numbers_at" (defArgs s_numbers_at) (defBody s_numbers_at) (defScope s_numbers_at) .none kVnat dcnat pmnat annat cdnat ctnat), slnat⟩)
    (cnat : PySem.W.codeIn K cdnat "_numbers_at" = true)
    (knat : PySem.W.keepIn K (.ref fnat) = true)
    (ajoi : PySem.W.nsIn K mainGlobals "_joins_two_stages" = some (some (.ref fjoi)))
    (ljoi : K.lookup fjoi = some ⟨ocjoi, odjoi, .func (PySem.W.fnOf "_joins_two_stages" "_joins_two_stages" (defArgs s_joins_two_stages) (defBody s_joins_two_stages) (defScope s_joins_two_stages) .none kVjoi dcjoi pmjoi anjoi cdjoi ctjoi), sljoi⟩)
    (cjoi : PySem.W.codeIn K cdjoi "_joins_two_stages" = true)
    (kjoi : PySem.W.keepIn K (.ref fjoi) = true)
    (acir : PySem.W.nsIn K mainGlobals "has_circle" = some (some (.ref fcir)))
    (lcir : K.lookup fcir = some ⟨occir, odcir, .func (PySem.W.fnOf "has_circle" "has_circle" (defArgs s_has_circle) (defBody s_has_circle) (defScope s_has_circle) .none kVcir dccir pmcir ancir cdcir ctcir), slcir⟩)
    (ccir : PySem.W.codeIn K cdcir "has_circle" = true)
    (kcir : PySem.W.keepIn K (.ref fcir) = true)
    (acch : PySem.W.nsIn K mainGlobals "_check_channels" = some (some (.ref fcch)))
    (lcch : K.lookup fcch = some ⟨occch, odcch, .func (PySem.W.fnOf "_check_channels" "_check_channels" (defArgs s_check_channels) (defBody s_check_channels) (defScope s_check_channels) .none kVcch dccch pmcch ancch cdcch ctcch), slcch⟩)
    (ccch : PySem.W.codeIn K cdcch "_check_channels" = true)
    (kcch : PySem.W.keepIn K (.ref fcch) = true)
    (awic : PySem.W.nsIn K mainGlobals "_with_capacity" = some (some (.ref fwic)))
    (lwic : K.lookup fwic = some ⟨ocwic, odwic, .func (PySem.W.fnOf "_with_capacity" "_with_capacity" (defArgs s_with_capacity) (defBody s_with_capacity) (defScope s_with_capacity) .none kVwic dcwic pmwic anwic cdwic ctwic), slwic⟩)
    (cwic : PySem.W.codeIn K cdwic "_with_capacity" = true)
    (kwic : PySem.W.keepIn K (.ref fwic) = true)
    (acel : PySem.W.nsIn K mainGlobals "_law_cell" = some (some (.ref fcel)))
    (lcel : K.lookup fcel = some ⟨occel, odcel, .func (PySem.W.fnOf "_law_cell" "_law_cell" (defArgs s_law_cell) (defBody s_law_cell) (defScope s_law_cell) .none kVcel dccel pmcel ancel cdcel ctcel), slcel⟩)
    (ccel : PySem.W.codeIn K cdcel "_law_cell" = true)
    (kcel : PySem.W.keepIn K (.ref fcel) = true)
    (abag : PySem.W.nsIn K mainGlobals "_law_bag" = some (some (.ref fbag)))
    (lbag : K.lookup fbag = some ⟨ocbag, odbag, .func (PySem.W.fnOf "_law_bag" "_law_bag" (defArgs s_law_bag) (defBody s_law_bag) (defScope s_law_bag) .none kVbag dcbag pmbag anbag cdbag ctbag), slbag⟩)
    (cbag : PySem.W.codeIn K cdbag "_law_bag" = true)
    (kbag : PySem.W.keepIn K (.ref fbag) = true)
    (adra : PySem.W.nsIn K mainGlobals "_law_draw" = some (some (.ref fdra)))
    (ldra : K.lookup fdra = some ⟨ocdra, oddra, .func (PySem.W.fnOf "_law_draw" "_law_draw" (defArgs s_law_draw) (defBody s_law_draw) (defScope s_law_draw) .none kVdra dcdra pmdra andra cddra ctdra), sldra⟩)
    (cdra : PySem.W.codeIn K cddra "_law_draw" = true)
    (kdra : PySem.W.keepIn K (.ref fdra) = true)
    (asam : PySem.W.nsIn K mainGlobals "_law_same" = some (some (.ref fsam)))
    (lsam : K.lookup fsam = some ⟨ocsam, odsam, .func (PySem.W.fnOf "_law_same" "_law_same" (defArgs s_law_same) (defBody s_law_same) (defScope s_law_same) .none kVsam dcsam pmsam ansam cdsam ctsam), slsam⟩)
    (csam : PySem.W.codeIn K cdsam "_law_same" = true)
    (ksam : PySem.W.keepIn K (.ref fsam) = true)
    (asar : PySem.W.nsIn K mainGlobals "_law_same_row" = some (some (.ref fsar)))
    (lsar : K.lookup fsar = some ⟨ocsar, odsar, .func (PySem.W.fnOf "_law_same_row" "_law_same_row" (defArgs s_law_same_row) (defBody s_law_same_row) (defScope s_law_same_row) .none kVsar dcsar pmsar ansar cdsar ctsar), slsar⟩)
    (csar : PySem.W.codeIn K cdsar "_law_same_row" = true)
    (ksar : PySem.W.keepIn K (.ref fsar) = true)
    (asrs : PySem.W.nsIn K mainGlobals "_law_same_rows" = some (some (.ref fsrs)))
    (lsrs : K.lookup fsrs = some ⟨ocsrs, odsrs, .func (PySem.W.fnOf "_law_same_rows" "_law_same_rows" (defArgs s_law_same_rows) (defBody s_law_same_rows) (defScope s_law_same_rows) .none kVsrs dcsrs pmsrs ansrs cdsrs ctsrs), slsrs⟩)
    (csrs : PySem.W.codeIn K cdsrs "_law_same_rows" = true)
    (ksrs : PySem.W.keepIn K (.ref fsrs) = true)
    (aord : PySem.W.nsIn K mainGlobals "_law_order" = some (some (.ref ford)))
    (lord : K.lookup ford = some ⟨ocord, odord, .func (PySem.W.fnOf "_law_order" "_law_order" (defArgs s_law_order) (defBody s_law_order) (defScope s_law_order) .none kVord dcord pmord anord cdord ctord), slord⟩)
    (cord : PySem.W.codeIn K cdord "_law_order" = true)
    (kord : PySem.W.keepIn K (.ref ford) = true)
    (anum : PySem.W.nsIn K mainGlobals "_law_number" = some (some (.ref fnum)))
    (lnum : K.lookup fnum = some ⟨ocnum, odnum, .func (PySem.W.fnOf "_law_number" "_law_number" (defArgs s_law_number) (defBody s_law_number) (defScope s_law_number) .none kVnum dcnum pmnum annum cdnum ctnum), slnum⟩)
    (cnum : PySem.W.codeIn K cdnum "_law_number" = true)
    (knum : PySem.W.keepIn K (.ref fnum) = true)
    (achf : PySem.W.nsIn K mainGlobals "_law_channel_fault" = some (some (.ref fchf)))
    (lchf : K.lookup fchf = some ⟨occhf, odchf, .func (PySem.W.fnOf "_law_channel_fault" "_law_channel_fault" (defArgs s_law_channel_fault) (defBody s_law_channel_fault) (defScope s_law_channel_fault) .none kVchf dcchf pmchf anchf cdchf ctchf), slchf⟩)
    (cchf : PySem.W.codeIn K cdchf "_law_channel_fault" = true)
    (kchf : PySem.W.keepIn K (.ref fchf) = true)
    (alci : PySem.W.nsIn K mainGlobals "_law_circle" = some (some (.ref flci)))
    (llci : K.lookup flci = some ⟨oclci, odlci, .func (PySem.W.fnOf "_law_circle" "_law_circle" (defArgs s_law_circle) (defBody s_law_circle) (defScope s_law_circle) .none kVlci dclci pmlci anlci cdlci ctlci), sllci⟩)
    (clci : PySem.W.codeIn K cdlci "_law_circle" = true)
    (klci : PySem.W.keepIn K (.ref flci) = true)
    (afau : PySem.W.nsIn K mainGlobals "_law_fault" = some (some (.ref ffau)))
    (lfau : K.lookup ffau = some ⟨ocfau, odfau, .func (PySem.W.fnOf "_law_fault" "_law_fault" (defArgs s_law_fault) (defBody s_law_fault) (defScope s_law_fault) .none kVfau dcfau pmfau anfau cdfau ctfau), slfau⟩)
    (cfau : PySem.W.codeIn K cdfau "_law_fault" = true)
    (kfau : PySem.W.keepIn K (.ref ffau) = true)
    (aful : PySem.W.nsIn K mainGlobals "_law_full" = some (some (.ref fful)))
    (lful : K.lookup fful = some ⟨ocful, odful, .func (PySem.W.fnOf "_law_full" "_law_full" (defArgs s_law_full) (defBody s_law_full) (defScope s_law_full) .none kVful dcful pmful anful cdful ctful), slful⟩)
    (cful : PySem.W.codeIn K cdful "_law_full" = true)
    (kful : PySem.W.keepIn K (.ref fful) = true)
    (aove : PySem.W.nsIn K mainGlobals "_law_over" = some (some (.ref fove)))
    (love : K.lookup fove = some ⟨ocove, odove, .func (PySem.W.fnOf "_law_over" "_law_over" (defArgs s_law_over) (defBody s_law_over) (defScope s_law_over) .none kVove dcove pmove anove cdove ctove), slove⟩)
    (cove : PySem.W.codeIn K cdove "_law_over" = true)
    (kove : PySem.W.keepIn K (.ref fove) = true)
    (afor : PySem.W.nsIn K mainGlobals "_law_forty" = some (some (.ref ffor)))
    (lfor : K.lookup ffor = some ⟨ocfor, odfor, .func (PySem.W.fnOf "_law_forty" "_law_forty" (defArgs s_law_forty) (defBody s_law_forty) (defScope s_law_forty) .none kVfor dcfor pmfor anfor cdfor ctfor), slfor⟩)
    (cfor : PySem.W.codeIn K cdfor "_law_forty" = true)
    (kfor : PySem.W.keepIn K (.ref ffor) = true)
    (alef : PySem.W.nsIn K mainGlobals "_law_left_out" = some (some (.ref flef)))
    (llef : K.lookup flef = some ⟨oclef, odlef, .func (PySem.W.fnOf "_law_left_out" "_law_left_out" (defArgs s_law_left_out) (defBody s_law_left_out) (defScope s_law_left_out) .none kVlef dclef pmlef anlef cdlef ctlef), sllef⟩)
    (clef : PySem.W.codeIn K cdlef "_law_left_out" = true)
    (klef : PySem.W.keepIn K (.ref flef) = true)
    (akey : PySem.W.nsIn K mainGlobals "_law_keyed" = some (some (.ref fkey)))
    (lkey : K.lookup fkey = some ⟨ockey, odkey, .func (PySem.W.fnOf "_law_keyed" "_law_keyed" (defArgs s_law_keyed) (defBody s_law_keyed) (defScope s_law_keyed) .none kVkey dckey pmkey ankey cdkey ctkey), slkey⟩)
    (ckey : PySem.W.codeIn K cdkey "_law_keyed" = true)
    (kkey : PySem.W.keepIn K (.ref fkey) = true)
    (agoo : PySem.W.nsIn K mainGlobals "_law_good" = some (some (.ref fgoo)))
    (lgoo : K.lookup fgoo = some ⟨ocgoo, odgoo, .func (PySem.W.fnOf "_law_good" "_law_good" (defArgs s_law_good) (defBody s_law_good) (defScope s_law_good) .none kVgoo dcgoo pmgoo angoo cdgoo ctgoo), slgoo⟩)
    (cgoo : PySem.W.codeIn K cdgoo "_law_good" = true)
    (kgoo : PySem.W.keepIn K (.ref fgoo) = true)
    (aans : PySem.W.nsIn K mainGlobals "_law_answered" = some (some (.ref fans)))
    (lans : K.lookup fans = some ⟨ocans, odans, .func (PySem.W.fnOf "_law_answered" "_law_answered" (defArgs s_law_answered) (defBody s_law_answered) (defScope s_law_answered) .none kVans dcans pmans anans cdans ctans), slans⟩)
    (cans : PySem.W.codeIn K cdans "_law_answered" = true)
    (kans : PySem.W.keepIn K (.ref fans) = true)
    (acou : PySem.W.nsIn K mainGlobals "_law_count" = some (some (.ref fcou)))
    (lcou : K.lookup fcou = some ⟨occou, odcou, .func (PySem.W.fnOf "_law_count" "_law_count" (defArgs s_law_count) (defBody s_law_count) (defScope s_law_count) .none kVcou dccou pmcou ancou cdcou ctcou), slcou⟩)
    (ccou : PySem.W.codeIn K cdcou "_law_count" = true)
    (kcou : PySem.W.keepIn K (.ref fcou) = true)
    (aext : PySem.W.nsIn K mainGlobals "_law_extra" = some (some (.ref fext)))
    (lext : K.lookup fext = some ⟨ocext, odext, .func (PySem.W.fnOf "_law_extra" "_law_extra" (defArgs s_law_extra) (defBody s_law_extra) (defScope s_law_extra) .none kVext dcext pmext anext cdext ctext), slext⟩)
    (cext : PySem.W.codeIn K cdext "_law_extra" = true)
    (kext : PySem.W.keepIn K (.ref fext) = true)
    (aben : PySem.W.nsIn K mainGlobals "_law_bent" = some (some (.ref fben)))
    (lben : K.lookup fben = some ⟨ocben, odben, .func (PySem.W.fnOf "_law_bent" "_law_bent" (defArgs s_law_bent) (defBody s_law_bent) (defScope s_law_bent) .none kVben dcben pmben anben cdben ctben), slben⟩)
    (cben : PySem.W.codeIn K cdben "_law_bent" = true)
    (kben : PySem.W.keepIn K (.ref fben) = true)
    (asiz : PySem.W.nsIn K mainGlobals "_law_size" = some (some (.ref fsiz)))
    (lsiz : K.lookup fsiz = some ⟨ocsiz, odsiz, .func (PySem.W.fnOf "_law_size" "_law_size" (defArgs s_law_size) (defBody s_law_size) (defScope s_law_size) .none kVsiz dcsiz pmsiz ansiz cdsiz ctsiz), slsiz⟩)
    (csiz : PySem.W.codeIn K cdsiz "_law_size" = true)
    (ksiz : PySem.W.keepIn K (.ref fsiz) = true)
    (agiv : PySem.W.nsIn K mainGlobals "_law_given" = some (some (.ref fgiv)))
    (lgiv : K.lookup fgiv = some ⟨ocgiv, odgiv, .func (PySem.W.fnOf "_law_given" "_law_given" (defArgs s_law_given) (defBody s_law_given) (defScope s_law_given) .none kVgiv dcgiv pmgiv angiv cdgiv ctgiv), slgiv⟩)
    (cgiv : PySem.W.codeIn K cdgiv "_law_given" = true)
    (kgiv : PySem.W.keepIn K (.ref fgiv) = true)
    (asma : PySem.W.nsIn K mainGlobals "_law_small" = some (some (.ref fsma)))
    (lsma : K.lookup fsma = some ⟨ocsma, odsma, .func (PySem.W.fnOf "_law_small" "_law_small" (defArgs s_law_small) (defBody s_law_small) (defScope s_law_small) .none kVsma dcsma pmsma ansma cdsma ctsma), slsma⟩)
    (csma : PySem.W.codeIn K cdsma "_law_small" = true)
    (ksma : PySem.W.keepIn K (.ref fsma) = true)
    (apai : PySem.W.nsIn K mainGlobals "_law_pairs" = some (some (.ref fpai)))
    (lpai : K.lookup fpai = some ⟨ocpai, odpai, .func (PySem.W.fnOf "_law_pairs" "_law_pairs" (defArgs s_law_pairs) (defBody s_law_pairs) (defScope s_law_pairs) .none kVpai dcpai pmpai anpai cdpai ctpai), slpai⟩)
    (cpai : PySem.W.codeIn K cdpai "_law_pairs" = true)
    (kpai : PySem.W.keepIn K (.ref fpai) = true)
    (alar : PySem.W.nsIn K mainGlobals "_law_large" = some (some (.ref flar)))
    (llar : K.lookup flar = some ⟨oclar, odlar, .func (PySem.W.fnOf "_law_large" "_law_large" (defArgs s_law_large) (defBody s_law_large) (defScope s_law_large) .none kVlar dclar pmlar anlar cdlar ctlar), sllar⟩)
    (clar : PySem.W.codeIn K cdlar "_law_large" = true)
    (klar : PySem.W.keepIn K (.ref flar) = true)
    (arou : PySem.W.nsIn K mainGlobals "_law_round_trip" = some (some (.ref frou)))
    (lrou : K.lookup frou = some ⟨ocrou, odrou, .func (PySem.W.fnOf "_law_round_trip" "_law_round_trip" (defArgs s_law_round_trip) (defBody s_law_round_trip) (defScope s_law_round_trip) .none kVrou dcrou pmrou anrou cdrou ctrou), slrou⟩)
    (crou : PySem.W.codeIn K cdrou "_law_round_trip" = true)
    (krou : PySem.W.keepIn K (.ref frou) = true)
    (alaw : PySem.W.nsIn K mainGlobals "law" = some (some (.ref flaw)))
    (llaw : K.lookup flaw = some ⟨oclaw, odlaw, .func (PySem.W.fnOf "law" "law" (defArgs s_law) (defBody s_law) (defScope s_law) .none kVlaw dclaw pmlaw anlaw cdlaw ctlaw), sllaw⟩)
    (claw : PySem.W.codeIn K cdlaw "law" = true)
    (klaw : PySem.W.keepIn K (.ref flaw) = true)
    (aI : PySem.W.nsIn K mainGlobals "InvalidNet" = some (some (.ref CI)))
    (xI : K.lookup CI = some (excClassObj nmI qnI CI NNI bsI bmI true snI subI abI coI ddI m0I m1I m2I m3I m5I "ValueError.__new__"))
    (rbI : PySem.HandSPX.refsVE bmI = true)
    (saI : PySem.W.findIn K (.ref CI) "__setattr__" = some (some (.builtin "object.__setattr__")))
    (ebI : PySem.W.subIn K (.ref CI) (.type "BaseException") = some true)
    (tyI : PySem.W.typeIn K (.ref CI) = some (.type "type"))
    (kcI : PySem.W.keepIn K (.ref CI) = true)
    (inI : PySem.W.findIn K (.ref CI) "__init__" = some (some (.ref fxI)))
    (tfI : PySem.W.typeIn K (.ref fxI) = some (.type "function"))
    (lxI : K.lookup fxI = some ⟨ocxI, odxI, .func (PySem.W.fnOf "__init__" "InvalidNet.__init__" (defArgs s_InvalidNet_init) (defBody s_InvalidNet_init) (defScope s_InvalidNet_init) .none kVxI dcxI pmxI anxI cdxI ctxI), slxI⟩)
    (cxI : PySem.W.codeIn K cdxI "InvalidNet.__init__" = true)
    (kxI : PySem.W.keepIn K (.ref fxI) = true)
    (noI_reason : PySem.W.findIn K (.ref CI) "reason" = some none)
    (noI_position : PySem.W.findIn K (.ref CI) "position" = some none)
    (aW : PySem.W.nsIn K mainGlobals "WithinCallError" = some (some (.ref CW)))
    (aB : PySem.W.nsIn K mainGlobals "Blocked" = some (some (.ref CB)))
    (aM : PySem.W.nsIn K mainGlobals "InvalidMove" = some (some (.ref CM)))
    (aS : PySem.W.nsIn K mainGlobals "InvalidState" = some (some (.ref CS)))
    (aT : PySem.W.nsIn K mainGlobals "InvalidText" = some (some (.ref CT)))
    (aN : PySem.W.nsIn K mainGlobals "NotFound" = some (some (.ref CN)))
    (e_hn : PySem.W.specialIn K (.builtin "object.__class__") "__get__" = some (some (.builtin "getset_descriptor.__get__")))
    (e_ht : PySem.W.takesIn K (.builtin "object.__class__") = some true)
    (e_hgI : PySem.W.findIn K (.ref CI) "__getattribute__" = some (some (.builtin "BaseException.__getattribute__")))
    (e_hkI : PySem.W.findIn K (.ref CI) "__getattr__" = some none)
    (e_hdI : PySem.W.hasDictIn K CI = true)
    (e_haI : PySem.W.findIn K (.ref CI) "__class__" = some (some (.builtin "object.__class__")))
    (e_hmI : PySem.W.mroIn K CI (.type "object") = some true)
    (exm_IW : PySem.W.exmOne K (.ref CI) (.ref CW) = some true)
    (kit_II : PySem.W.kitOne K (.ref CI) (.ref CI) = some true)
    (kit_IV : PySem.W.kitOne K (.ref CI) (.type "ValueError") = some true)
    (kit_any : PySem.W.kitAny K (.ref CI) [.ref CB, .ref CM, .ref CS, .ref CT, .ref CN] = some false)
    (aNet : PySem.W.nsIn K mainGlobals "Net" = some (some (.ref N)))
    (rdN : PySem.W.readsIn K N (.type "type") = true)
    (gaN : PySem.W.specialIn K (.ref N) "__getattribute__" = some (some (.builtin "type.__getattribute__")))
    (cv1 : PySem.W.findCls K (.ref N) (.type "type") "MOST_STAGES" = some (.val (.int 40 t1)))
    (cv2 : PySem.W.findCls K (.ref N) (.type "type") "MOST_CHANNELS" = some (.val (.int 120 t2)))
    (cv3 : PySem.W.findCls K (.ref N) (.type "type") "MOST_CAPACITY" = some (.val (.int 999 t3)))
    (cv4 : PySem.W.findCls K (.ref N) (.type "type") "MOST_COUNTER" = some (.val (.int 999 t4)))
    (fIC : PySem.W.findCls K (.ref N) (.type "type") "is_capacity" = some (.get (.builtin "staticmethod.__get__") (.ref pIC) .none (.ref N)))
    (rIC : PySem.W.recIn K pIC "staticmethod" = some (.ref gIC :: restIC))
    (lIC : K.lookup gIC = some ⟨ocIC, odIC, .func (PySem.W.fnOf "is_capacity" "Net.is_capacity" (defArgs s_Net_is_capacity) (defBody s_Net_is_capacity) (defScope s_Net_is_capacity) .none kVIC dcIC pmIC anIC cdIC ctIC), slIC⟩)
    (cIC : PySem.W.codeIn K cdIC "Net.is_capacity" = true)
    (kIC : PySem.W.keepIn K (.ref gIC) = true)
    (aP : PySem.W.nsIn K mainGlobals "Pipeline" = some (some (.ref CP)))
    (pgP : PySem.W.plainGet K CP Str.empty = true)
    (hdP : PySem.W.hasDictIn K CP = true)
    (poP : PySem.W.plainOver K CP = true)
    (stP : PySem.W.findIn K (.ref CP) "__setattr__" = some (some (.builtin "object.__setattr__")))
    (nSP : PySem.W.findIn K (.ref CP) "stages" = some none)
    (nCP : PySem.W.findIn K (.ref CP) "channels" = some none)
    (nJP : PySem.W.findIn K (.ref CP) "_incoming" = some none)
    (nOP : PySem.W.findIn K (.ref CP) "_outgoing" = some none)
    (mkP : PySem.W.makesIn K CP = true)
    (keP : PySem.W.keepIn K (.ref CP) = true)
    (itP : PySem.W.findIn K (.ref CP) "__init__" = some (some (.ref iniP)))
    (ifP : PySem.W.isFn K (.ref iniP) = true)
    (sl_P : K.lookup iniP = some ⟨oSP, qSP, .func (PySem.W.fnX "__init__" "Pipeline.__init__" (defArgs s_Pipeline_init) (defBody s_Pipeline_init) (defScope s_Pipeline_init) [(cls_, ccP)] .none (.ref Dk) dSP pSP nSP_ (.ref cdaP) tSP), sSP⟩)
    (sc_P : PySem.W.codeIn K (.ref cdaP) "Pipeline.__init__" = true)
    (ce_P : K.lookup ccP = some ⟨kc_P, dc_P, .cell (some (.ref CP)), lc_P⟩)
    (co_P : K.lookup cdaP = some ⟨o1P, o2P, .fields vsP, o3P⟩)
    (fi_P : vsP[2]? = some (.str fileP tkP))
    (fe_P : ((PySem.Challenge.pw_withincall_k00_pipelines_checked.main.file : Str) == fileP) = true)
    (di_P : (PySem.W.clsIn K CP).isSome = true)
    (mr_P : PySem.W.mroIn K CP (.ref CP) = some true)
    (ks_P : PySem.W.ks_superIn K CP CP "__init__" = some (some (.ref fNI)))
    (opq : PySem.W.nsIn K cStatics "thirdparty.any" = some none)
    (tyNI : PySem.W.typeIn K (.ref fNI) = some (.type "function"))
    (fnNI : PySem.W.fnIn K fNI = true)
    (lNI : K.lookup fNI = some ⟨ocNI, odNI, .func (PySem.W.fnOf "__init__" "Net.__init__" (defArgs s_Net_init) (defBody s_Net_init) (defScope s_Net_init) .none kVNI dcNI pmNI anNI cdNI ctNI), slNI⟩)
    (cNI : PySem.W.codeIn K cdNI "Net.__init__" = true)
    (kNI : PySem.W.keepIn K (.ref fNI) = true)
    (capD : PySem.W.nsIn K Dk "capacity" = some (some (.int 1 tD)))
    (ps_P : PySem.W.findIn K (.ref CP) "slots" = some (some (.ref pslots)))
    (gs_ : PySem.W.specialIn K (.ref pslots) "__get__" = some (some (.builtin "property.__get__")))
    (ts_ : PySem.W.takesIn K (.ref pslots) = some true)
    (rs_ : PySem.W.recIn K pslots "property" = some (.ref gslots :: restslots))
    (lslots : K.lookup gslots = some ⟨ocslots, odslots, .func (PySem.W.fnOf "slots" "Net.slots" (defArgs s_Net_slots) (defBody s_Net_slots) (defScope s_Net_slots) .none kVslots dcslots pmslots anslots cdslots ctslots), slslots⟩)
    (cslots : PySem.W.codeIn K cdslots "Net.slots" = true)
    (kslots : PySem.W.keepIn K (.ref gslots) = true) :
    ∃ fd : FuncData, (∀ (s : Shared) (v : Value), BindsTo s fd ⟨[v], []⟩ [("script", v)]) ∧ ∀ base : Heap, K.In base → base.Ns mainGlobals mg → FnOk PK w K mg base (L2.CX PK w) 11 fa fd ["script"] (spLaw K) := by
  have e := hfa.symm.trans (PySem.W.mg_of X G alaw)
  cases e
  refine ⟨PySem.W.fnOf "law" "law" (defArgs s_law) (defBody s_law) (defScope s_law) .none kVlaw dclaw pmlaw anlaw cdlaw ctlaw, fun s v => .of_eq rfl, fun base _ _ => ?_⟩
  have m1 : ∀ {x : Str} {v : Value}, PySem.W.nsIn K mainGlobals x = some (some v) → mg x = some v := fun {x v} e => PySem.W.mg_of X G e
  have m0 : ∀ {x : Str}, PySem.W.nsIn K mainGlobals x = some none → mg x = none := fun {x} e => PySem.W.mg_none_of X G e
  have B : Blt mg := ⟨m0 z_isi, m0 z_int, m0 z_bool, m0 z_tuple, m0 z_list, m0 z_str, m0 z_len, m0 z_range, m0 z_sorted, m0 z_enum, m0 z_sum, m0 z_all, m0 z_max, m0 z_min, m0 z_verr⟩
  have Fbtw := fun_mk (st := s_is_between) lbtw cbtw kbtw
  have bbtw := Fbtw.binds (ps := ["value", "low", "high"]) fun _ _ _ _ _ _ us hl => match us, hl with | [_, _, _], _ => rfl
  have Fnat := fun_mk (st := s_numbers_at) lnat cnat knat
  have bnat := Fnat.binds (ps := ["stages", "ends"]) fun _ _ _ _ _ _ us hl => match us, hl with | [_, _], _ => rfl
  have Fjoi := fun_mk (st := s_joins_two_stages) ljoi cjoi kjoi
  have bjoi := Fjoi.binds (ps := ["stages", "channel"]) fun _ _ _ _ _ _ us hl => match us, hl with | [_, _], _ => rfl
  have Fcir := fun_mk (st := s_has_circle) lcir ccir kcir
  have bcir := Fcir.binds (ps := ["channels"]) fun _ _ _ _ _ _ us hl => match us, hl with | [_], _ => rfl
  have Fcch := fun_mk (st := s_check_channels) lcch ccch kcch
  have bcch := Fcch.binds (ps := ["stages", "channels"]) fun _ _ _ _ _ _ us hl => match us, hl with | [_, _], _ => rfl
  have Fwic := fun_mk (st := s_with_capacity) lwic cwic kwic
  have bwic := Fwic.binds (ps := ["channel", "capacity"]) fun _ _ _ _ _ _ us hl => match us, hl with | [_, _], _ => rfl
  have Fcel := fun_mk (st := s_law_cell) lcel ccel kcel
  have bcel := Fcel.binds (ps := ["script", "k"]) fun _ _ _ _ _ _ us hl => match us, hl with | [_, _], _ => rfl
  have Fbag := fun_mk (st := s_law_bag) lbag cbag kbag
  have bbag := Fbag.binds (ps := ["script", "k"]) fun _ _ _ _ _ _ us hl => match us, hl with | [_, _], _ => rfl
  have Fdra := fun_mk (st := s_law_draw) ldra cdra kdra
  have bdra := Fdra.binds (ps := ["bag", "many"]) fun _ _ _ _ _ _ us hl => match us, hl with | [_, _], _ => rfl
  have Fsam := fun_mk (st := s_law_same) lsam csam ksam
  have bsam := Fsam.binds (ps := ["told", "due"]) fun _ _ _ _ _ _ us hl => match us, hl with | [_, _], _ => rfl
  have Fsar := fun_mk (st := s_law_same_row) lsar csar ksar
  have bsar := Fsar.binds (ps := ["told", "due"]) fun _ _ _ _ _ _ us hl => match us, hl with | [_, _], _ => rfl
  have Fsrs := fun_mk (st := s_law_same_rows) lsrs csrs ksrs
  have bsrs := Fsrs.binds (ps := ["told", "due"]) fun _ _ _ _ _ _ us hl => match us, hl with | [_, _], _ => rfl
  have Ford := fun_mk (st := s_law_order) lord cord kord
  have bord := Ford.binds (ps := ["bag", "many"]) fun _ _ _ _ _ _ us hl => match us, hl with | [_, _], _ => rfl
  have Fnum := fun_mk (st := s_law_number) lnum cnum knum
  have bnum := Fnum.binds (ps := ["thing", "least", "most"]) fun _ _ _ _ _ _ us hl => match us, hl with | [_, _, _], _ => rfl
  have Fchf := fun_mk (st := s_law_channel_fault) lchf cchf kchf
  have bchf := Fchf.binds (ps := ["count", "given", "place"]) fun _ _ _ _ _ _ us hl => match us, hl with | [_, _, _], _ => rfl
  have Flci := fun_mk (st := s_law_circle) llci clci klci
  have blci := Flci.binds (ps := ["count", "given"]) fun _ _ _ _ _ _ us hl => match us, hl with | [_, _], _ => rfl
  have Ffau := fun_mk (st := s_law_fault) lfau cfau kfau
  have bfau := Ffau.binds (ps := ["count", "given", "extra"]) fun _ _ _ _ _ _ us hl => match us, hl with | [_, _, _], _ => rfl
  have Fful := fun_mk (st := s_law_full) lful cful kful
  have bful := Fful.binds (ps := ["count", "c"]) fun _ _ _ _ _ _ us hl => match us, hl with | [_, _], _ => rfl
  have Fove := fun_mk (st := s_law_over) love cove kove
  have bove := Fove.binds (ps := ["count", "c"]) fun _ _ _ _ _ _ us hl => match us, hl with | [_, _], _ => rfl
  have Ffor := fun_mk (st := s_law_forty) lfor cfor kfor
  have bfor := Ffor.binds (ps := ["count", "c"]) fun _ _ _ _ _ _ us hl => match us, hl with | [_, _], _ => rfl
  have Flef := fun_mk (st := s_law_left_out) llef clef klef
  have blef := Flef.binds (ps := ["count", "c"]) fun _ _ _ _ _ _ us hl => match us, hl with | [_, _], _ => rfl
  have Fkey := fun_mk (st := s_law_keyed) lkey ckey kkey
  have bkey := Fkey.binds (ps := ["count", "c", "extra"]) fun _ _ _ _ _ _ us hl => match us, hl with | [_, _, _], _ => rfl
  have Fgoo := fun_mk (st := s_law_good) lgoo cgoo kgoo
  have bgoo := Fgoo.binds (ps := ["net", "count", "given", "extra"]) fun _ _ _ _ _ _ us hl => match us, hl with | [_, _, _, _], _ => rfl
  have Fans := fun_mk (st := s_law_answered) lans cans kans
  have bans := Fans.binds (ps := ["count", "given", "extra", "keyed", "due"]) fun _ _ _ _ _ _ us hl => match us, hl with | [_, _, _, _, _], _ => rfl
  have Fcou := fun_mk (st := s_law_count) lcou ccou kcou
  have bcou := Fcou.binds (ps := ["bag"]) fun _ _ _ _ _ _ us hl => match us, hl with | [_], _ => rfl
  have Fext := fun_mk (st := s_law_extra) lext cext kext
  have bext := Fext.binds (ps := ["bag"]) fun _ _ _ _ _ _ us hl => match us, hl with | [_], _ => rfl
  have Fben := fun_mk (st := s_law_bent) lben cben kben
  have bben := Fben.binds (ps := ["bag", "count", "a", "b"]) fun _ _ _ _ _ _ us hl => match us, hl with | [_, _, _, _], _ => rfl
  have Fsiz := fun_mk (st := s_law_size) lsiz csiz ksiz
  have bsiz := Fsiz.binds (ps := ["bag"]) fun _ _ _ _ _ _ us hl => match us, hl with | [_], _ => rfl
  have Fgiv := fun_mk (st := s_law_given) lgiv cgiv kgiv
  have bgiv := Fgiv.binds (ps := ["bag", "count"]) fun _ _ _ _ _ _ us hl => match us, hl with | [_, _], _ => rfl
  have Fsma := fun_mk (st := s_law_small) lsma csma ksma
  have bsma := Fsma.binds (ps := ["bag"]) fun _ _ _ _ _ _ us hl => match us, hl with | [_], _ => rfl
  have Fpai := fun_mk (st := s_law_pairs) lpai cpai kpai
  have bpai := Fpai.binds (ps := ["count"]) fun _ _ _ _ _ _ us hl => match us, hl with | [_], _ => rfl
  have Flar := fun_mk (st := s_law_large) llar clar klar
  have blar := Flar.binds (ps := ["bag"]) fun _ _ _ _ _ _ us hl => match us, hl with | [_], _ => rfl
  have Frou := fun_mk (st := s_law_round_trip) lrou crou krou
  have brou := Frou.binds (ps := ["bag"]) fun _ _ _ _ _ _ us hl => match us, hl with | [_], _ => rfl
  have Flaw := fun_mk (st := s_law) llaw claw klaw
  have blaw := Flaw.binds (ps := ["script"]) fun _ _ _ _ _ _ us hl => match us, hl with | [_], _ => rfl
  have Dbtw : DefR PK w K mg base "is_between" 1 (spBtw K) := ⟨fbtw, m1 abtw, kbtw, raw0 (ok_is_between Fbtw B) bbtw⟩
  have TI : OexC K CI := ⟨⟨nmI, qnI, NNI, bsI, bmI, snI, subI, abI, coI, ddI, m0I, m1I, m2I, m3I, m5I, xI, rbI⟩, saI, ebI, tyI, kcI⟩
  have FxI := fun_mk (st := s_InvalidNet_init) lxI cxI kxI
  have bxI := FxI.binds (ps := ["self", "reason", "position"]) fun _ _ _ _ _ _ us hl => match us, hl with | [_, _, _], _ => rfl
  have EI : ExcR PK w K mg base "InvalidNet" CI 1 2 flI := ⟨TI, m1 aI, fxI, _, ["self", "reason", "position"], inI, tfI, bxI, ok_InvalidNet_init FxI TI noI_reason noI_position⟩
  have XCI : ExcC K CI := ⟨e_hgI, e_hkI, ebI, e_hdI, e_haI, e_hn, e_ht, e_hmI⟩
  have XFI : XfC K CI := ⟨e_hgI, e_hkI, ebI, e_hdI⟩
  have Dnat : DefR PK w K mg base "_numbers_at" 1 spNums := ⟨fnat, m1 anat, knat, raw0 (ok_numbers_at Fnat B) bnat⟩
  have Z : NetK K mg N := ⟨m1 aNet, .type "type", ⟨rdN, gaN⟩, ⟨_, cv1, _, rfl⟩, ⟨_, cv2, _, rfl⟩, ⟨_, cv3, _, rfl⟩, ⟨_, cv4, _, rfl⟩⟩
  have FIC := fun_mk (st := s_Net_is_capacity) lIC cIC kIC
  have bIC := FIC.binds (ps := ["value"]) fun _ _ _ _ _ _ us hl => match us, hl with | [_], _ => rfl
  have SIC : StaR PK w K mg base N "is_capacity" 2 (spCap K) := ⟨.type "type", pIC, gIC, ⟨rdN, gaN, fIC, ⟨_, rIC⟩, kIC⟩, raw0 (ok_is_capacity FIC Z Dbtw) bIC⟩
  have Djoi : DefR PK w K mg base "_joins_two_stages" 2 (spJoinsG K) := ⟨fjoi, m1 ajoi, kjoi, raw0 (ok_joinsG Fjoi B Dbtw) bjoi⟩
  have Dcir : DefR PK w K mg base "has_circle" 1 spCircle := ⟨fcir, m1 acir, kcir, raw0 (ok_circle Fcir B) bcir⟩
  have Dwic : DefR PK w K mg base "_with_capacity" 1 spWithG := ⟨fwic, m1 awic, kwic, raw0 (ok_with_G Fwic B) bwic⟩
  have Ncch : DefN PK w K mg base "_check_channels" 3 (spCheckX CI) := ⟨fcch, m1 acch, kcch, raw0 (ok_check_X Fcch B Z Djoi SIC EI) bcch⟩
  have NCP : NetCls K CP := ⟨⟨pgP, hdP, poP, stP⟩, nSP, nCP, nJP, nOP⟩
  have FNI := fun_mk (st := s_Net_init) lNI cNI kNI
  have bNI := FNI.binds (ps := ["self", "stages", "channels"]) fun _ _ _ _ _ _ us hl => match us, hl with | [_, _, _], _ => rfl
  have RNIP : FnR PK w K mg base (L2.CX PK w) 2 fNI (spNetInit CP) := raw0 (ok_Net_init FNI B NCP Dnat) bNI
  have SUP : SupTxt PK K mg CP CP fNI "__init__" := ⟨Option.isSome_iff_exists.mp di_P, mr_P, m0 z_sup, by decide +kernel, by decide +kernel, opq, ks_P, tyNI, fnNI⟩
  have SFP : SFun PK K "__init__" "Pipeline.__init__" s_Pipeline_init iniP ccP CP (.ref Dk) := ⟨⟨_, _, _, _, _, _, _, _, _, _, _, _, _, _, _, _, _, sl_P, sc_P, ce_P, co_P, fi_P, fe_P⟩⟩
  have MkP : Mk K CP iniP := ⟨mkP, itP, ifP, keP⟩
  have DPN : ClsN PK w K mg base CP 4 (spPipeX K CP CI) := ⟨iniP, MkP, ok_Pipeline_X SFP capD ⟨_, rfl⟩ B Z Dbtw Ncch SIC Dwic Dcir EI SUP RNIP⟩
  have DPK : ClsK PK w K mg base CP 4 "capacity" (spPipeK K CP CI) := ⟨iniP, MkP, ok_Pipeline_K SFP B Z Dbtw Ncch SIC Dwic Dcir EI SUP RNIP⟩
  have TC : ∀ C ∈ [CP], NetCls K C := fun C hC => by rw [List.mem_singleton.mp hC]; exact NCP
  have Fslots := fun_mk (st := s_Net_slots) lslots cslots kslots
  have bslots := Fslots.binds (ps := ["self"]) fun _ _ _ _ _ _ us hl => match us, hl with | [_], _ => rfl
  have SL : SlotR PK w K mg base [CP] := ⟨fun C hC => by
    rw [List.mem_singleton.mp hC]; exact ⟨pslots, gslots, _, ["self"], NCP.cl, ⟨ps_P, gs_, ts_, _, rs_⟩, ok_slots Fslots B TC, bslots⟩⟩
  have EL : ErrL K mg CW CI CB CM CS CT CN := ⟨m1 aW, m1 aI, m1 aB, m1 aM, m1 aS, m1 aT, m1 aN, exm_IW, XCI, XFI, kit_II, kit_IV, kit_any, noI_reason, noI_position⟩
  have Dcel : DefR PK w K mg base "_law_cell" 1 (spCell K) := ⟨fcel, m1 acel, kcel, raw0 (ok_cell Fcel B) bcel⟩
  have Dbag : DefR PK w K mg base "_law_bag" 2 (spBag K) := ⟨fbag, m1 abag, kbag, raw0 (ok_bag Fbag B Dcel) bbag⟩
  have Ddra : DefR PK w K mg base "_law_draw" 1 spDraw := ⟨fdra, m1 adra, kdra, raw0 (ok_draw Fdra B) bdra⟩
  have Qsam : DefQ PK w K mg base "_law_same" 1 spSame := ⟨fsam, _, ["told", "due"], m1 asam, ksam, bsam, ok_same Fsam B⟩
  have Dsar : DefR PK w K mg base "_law_same_row" 2 (spSR K) := ⟨fsar, m1 asar, ksar, raw0 (ok_same_row Fsar B Qsam) bsar⟩
  have Hsar : DefH PK w K mg base "_law_same_row" 2 (spSR K) := ⟨fsar, _, _, m1 asar, ksar, bsar, ok_same_row_H Fsar B Qsam⟩
  have Dsrs : DefR PK w K mg base "_law_same_rows" 3 (spSRs K) := ⟨fsrs, m1 asrs, ksrs, raw0 (ok_same_rows Fsrs B Dsar) bsrs⟩
  have Dord : DefR PK w K mg base "_law_order" 2 spOrder := ⟨ford, m1 aord, kord, raw0 (ok_order Ford B Ddra) bord⟩
  have Dnum : DefR PK w K mg base "_law_number" 1 (spBtw K) := ⟨fnum, m1 anum, knum, raw0 (ok_number Fnum B) bnum⟩
  have Dchf : DefR PK w K mg base "_law_channel_fault" 2 spChF := ⟨fchf, m1 achf, kchf, raw0 (ok_channel_fault Fchf B Dnum) bchf⟩
  have Dlci : DefR PK w K mg base "_law_circle" 1 spCirc := ⟨flci, m1 alci, klci, raw0 (ok_law_circle Flci B) blci⟩
  have Dfau : DefR PK w K mg base "_law_fault" 3 (spLFault K) := ⟨ffau, m1 afau, kfau, raw0 (ok_law_fault Ffau B Dnum Dchf Dlci) bfau⟩
  have Nfor : DefN PK w K mg base "_law_forty" 6 (spMkN K CP CI 40) := ⟨ffor, m1 afor, kfor, raw0 (ok_law_forty Ffor (m1 aP) DPN) bfor⟩
  have Nful : DefN PK w K mg base "_law_full" 6 (spMkN K CP CI 120) := ⟨fful, m1 aful, kful, raw0 (ok_law_full Fful (m1 aP) DPN) bful⟩
  have Nove : DefN PK w K mg base "_law_over" 6 (spMkN K CP CI 121) := ⟨fove, m1 aove, kove, raw0 (ok_law_over Fove (m1 aP) DPN) bove⟩
  have Nlef : DefN PK w K mg base "_law_left_out" 7 (spLeft K CP CI) := ⟨flef, m1 alef, klef, raw0 (ok_law_left_out Flef B (m1 aP) DPN Nfor Nful Nove) blef⟩
  have Nkey : DefN PK w K mg base "_law_keyed" 6 (spKeyed K CP CI) := ⟨fkey, m1 akey, kkey, raw0 (ok_law_keyed Fkey B (m1 aP) DPK) bkey⟩
  have Dgoo : DefR PK w K mg base "_law_good" 5 (spGoodP CP) := ⟨fgoo, m1 agoo, kgoo, raw0 (ok_law_good Fgoo B NCP SL Qsam Dsrs) bgoo⟩
  have Dans : DefR PK w K mg base "_law_answered" 9 (spAns K) := ⟨fans, m1 aans, kans, raw0 (off_N (ok_answered_N Fans B EL Nkey Nlef Hsar Dgoo) (fun _ _ _ _ h => h)) bans⟩
  have Dcou : DefR PK w K mg base "_law_count" 2 spVal := ⟨fcou, m1 acou, kcou, raw0 (ok_law_count Fcou Ddra) bcou⟩
  have Dext : DefR PK w K mg base "_law_extra" 2 spVal := ⟨fext, m1 aext, kext, raw0 (ok_law_extra Fext Ddra) bext⟩
  have Dben : DefR PK w K mg base "_law_bent" 2 spBent := ⟨fben, m1 aben, kben, raw0 (ok_bent Fben Ddra) bben⟩
  have Dsiz : DefR PK w K mg base "_law_size" 2 spSz := ⟨fsiz, m1 asiz, ksiz, raw0 (ok_size0 Fsiz Ddra) bsiz⟩
  have Dgiv : DefR PK w K mg base "_law_given" 3 spGiven := ⟨fgiv, m1 agiv, kgiv, raw0 (ok_given Fgiv B Ddra Dord Dsiz Dben) bgiv⟩
  have Dsma : DefR PK w K mg base "_law_small" 10 spRes := ⟨fsma, m1 asma, ksma, raw0 (ok_small Fsma B Ddra Dcou Dext Dnum Dgiv Dfau Dans) bsma⟩
  have Dpai : DefR PK w K mg base "_law_pairs" 1 spPairs := ⟨fpai, m1 apai, kpai, raw0 (ok_pairs Fpai B) bpai⟩
  have Dlar : DefR PK w K mg base "_law_large" 10 spRes := ⟨flar, m1 alar, klar, raw0 (ok_large Flar B Ddra Dpai Dfau Dans) blar⟩
  have Drou : DefR PK w K mg base "_law_round_trip" 10 spRes := ⟨frou, m1 arou, krou, raw0 (ok_round_trip Frou B Ddra Dord Dfau Dans) brou⟩
  exact ok_law Flaw B EL EI Dsar Dbag Ddra Dlar Drou Dsma
end WC

namespace WC
open PySem PySem.Spec PyProof.Rows L2
theorem walk_k00 {l : PySem.W.OpenLaw} {q : Program} {loose : List Str} {XP : (Str → Option Value) → Heap → Prop} {YP : World → Heap → Prop} {d : DefRec} {K : Params → PySem.W.Frag} (hl : l.prog = PK) (hn : l.most = some 63) (hdf : d.params.defaults = [])
    (hY : ∀ (w : World) (h : Heap), YP w h → (K w.params).In h)
    (F : ∀ (w : World) (mg : Str → Option Value) (fa : Addr) (h : Heap), (K w.params).In h → h.Ns mainGlobals mg → mg d.name = some (.ref fa) →
      ∃ fd : FuncData, (∀ (s : Shared) (u : Value), BindsTo s fd ⟨[u], []⟩ [("script", u)]) ∧ ∀ base : Heap, (K w.params).In base → base.Ns mainGlobals mg → FnOk PK w (K w.params) mg base (L2.CX PK w) 11 fa fd ["script"] (spLaw (K w.params))) :
    PySem.W.WalkO q loose XP YP l.row.toRowW d [] (fun f vs => PySem.call f vs) := by
  refine L2.walk_of (n := 63) (k := 11) (x := "script") (CX := fun w => L2.CX PK w) (sp := fun w => spLaw (K w.params)) hn (by decide) hdf ⟨rfl, by decide, by decide⟩ hY ?_ (fun _ _ a ns hl2 _ hS => ⟨a, ns, rfl, hS, hl2, fun _ => rfl⟩) (fun _ _ _ _ _ z => ?_)
  · rw [hl]
    exact F
  · obtain ⟨_, _, _, _, _, _, _, _, _, _, _, _, y⟩ := z
    exact y.elim
end WC
open PySem PySem.W PyProof.Rows
set_option maxRecDepth 100000 in
set_option maxHeartbeats 0 in
theorem PySem.Challenge.cw_withincall_k00_pipelines_checked_holds : PySem.Challenge.rw_withincall_k00_pipelines_checked.Holds := by
  w_on; o_law; k_head; (case hw => w_witness2)
  k_fill
  refine WC.walk_k00 (l := PySem.Challenge.rw_withincall_k00_pipelines_checked) rfl rfl rfl (fun w h Y => PySem.W.kIn_of Y) ?F
  case F =>
    intro w mg fa h KX G hmg
    refine' WC.all_k00 KX G hmg ?z_isi ?z_int ?z_bool ?z_tuple ?z_list ?z_str ?z_len ?z_range ?z_sorted ?z_enum ?z_sum ?z_all ?z_max ?z_min ?z_verr ?z_sup ?abtw ?lbtw ?cbtw ?kbtw ?anat ?lnat ?cnat ?knat ?ajoi ?ljoi ?cjoi ?kjoi ?acir ?lcir ?ccir ?kcir ?acch ?lcch ?ccch ?kcch ?awic ?lwic ?cwic ?kwic ?acel ?lcel ?ccel ?kcel ?abag ?lbag ?cbag ?kbag ?adra ?ldra ?cdra ?kdra ?asam ?lsam ?csam ?ksam ?asar ?lsar ?csar ?ksar ?asrs ?lsrs ?csrs ?ksrs ?aord ?lord ?cord ?kord ?anum ?lnum ?cnum ?knum ?achf ?lchf ?cchf ?kchf ?alci ?llci ?clci ?klci ?afau ?lfau ?cfau ?kfau ?aful ?lful ?cful ?kful ?aove ?love ?cove ?kove ?afor ?lfor ?cfor ?kfor ?alef ?llef ?clef ?klef ?akey ?lkey ?ckey ?kkey ?agoo ?lgoo ?cgoo ?kgoo ?aans ?lans ?cans ?kans ?acou ?lcou ?ccou ?kcou ?aext ?lext ?cext ?kext ?aben ?lben ?cben ?kben ?asiz ?lsiz ?csiz ?ksiz ?agiv ?lgiv ?cgiv ?kgiv ?asma ?lsma ?csma ?ksma ?apai ?lpai ?cpai ?kpai ?alar ?llar ?clar ?klar ?arou ?lrou ?crou ?krou ?alaw ?llaw ?claw ?klaw ?aI ?xI ?rbI ?saI ?ebI ?tyI ?kcI ?inI ?tfI ?lxI ?cxI ?kxI ?noI_reason ?noI_position ?aW ?aB ?aM ?aS ?aT ?aN ?e_hn ?e_ht ?e_hgI ?e_hkI ?e_hdI ?e_haI ?e_hmI ?exm_IW ?kit_II ?kit_IV ?kit_any ?aNet ?rdN ?gaN ?cv1 ?cv2 ?cv3 ?cv4 ?fIC ?rIC ?lIC ?cIC ?kIC ?aP ?pgP ?hdP ?poP ?stP ?nSP ?nCP ?nJP ?nOP ?mkP ?keP ?itP ?ifP ?sl_P ?sc_P ?ce_P ?co_P ?fi_P ?fe_P ?di_P ?mr_P ?ks_P ?opq ?tyNI ?fnNI ?lNI ?cNI ?kNI ?capD ?ps_P ?gs_ ?ts_ ?rs_ ?lslots ?cslots ?kslots
    (case z_isi => first | k_is | rfl | (decide +kernel))
    (case z_int => first | k_is | rfl | (decide +kernel))
    (case z_bool => first | k_is | rfl | (decide +kernel))
    (case z_tuple => first | k_is | rfl | (decide +kernel))
    (case z_list => first | k_is | rfl | (decide +kernel))
    (case z_str => first | k_is | rfl | (decide +kernel))
    (case z_len => first | k_is | rfl | (decide +kernel))
    (case z_range => first | k_is | rfl | (decide +kernel))
    (case z_sorted => first | k_is | rfl | (decide +kernel))
    (case z_enum => first | k_is | rfl | (decide +kernel))
    (case z_sum => first | k_is | rfl | (decide +kernel))
    (case z_all => first | k_is | rfl | (decide +kernel))
    (case z_max => first | k_is | rfl | (decide +kernel))
    (case z_min => first | k_is | rfl | (decide +kernel))
    (case z_verr => first | k_is | rfl | (decide +kernel))
    (case z_sup => first | k_is | rfl | (decide +kernel))
    (case abtw => first | k_is | rfl | (decide +kernel))
    (case lbtw => first | k_is | rfl | (decide +kernel))
    (case cbtw => first | k_is | rfl | (decide +kernel))
    (case kbtw => first | k_is | rfl | (decide +kernel))
    (case anat => first | k_is | rfl | (decide +kernel))
    (case lnat => first | k_is | rfl | (decide +kernel))
    (case cnat => first | k_is | rfl | (decide +kernel))
    (case knat => first | k_is | rfl | (decide +kernel))
    (case ajoi => first | k_is | rfl | (decide +kernel))
    (case ljoi => first | k_is | rfl | (decide +kernel))
    (case cjoi => first | k_is | rfl | (decide +kernel))
    (case kjoi => first | k_is | rfl | (decide +kernel))
    (case acir => first | k_is | rfl | (decide +kernel))
    (case lcir => first | k_is | rfl | (decide +kernel))
    (case ccir => first | k_is | rfl | (decide +kernel))
    (case kcir => first | k_is | rfl | (decide +kernel))
    (case acch => first | k_is | rfl | (decide +kernel))
    (case lcch => first | k_is | rfl | (decide +kernel))
    (case ccch => first | k_is | rfl | (decide +kernel))
    (case kcch => first | k_is | rfl | (decide +kernel))
    (case awic => first | k_is | rfl | (decide +kernel))
    (case lwic => first | k_is | rfl | (decide +kernel))
    (case cwic => first | k_is | rfl | (decide +kernel))
    (case kwic => first | k_is | rfl | (decide +kernel))
    (case acel => first | k_is | rfl | (decide +kernel))
    (case lcel => first | k_is | rfl | (decide +kernel))
    (case ccel => first | k_is | rfl | (decide +kernel))
    (case kcel => first | k_is | rfl | (decide +kernel))
    (case abag => first | k_is | rfl | (decide +kernel))
    (case lbag => first | k_is | rfl | (decide +kernel))
    (case cbag => first | k_is | rfl | (decide +kernel))
    (case kbag => first | k_is | rfl | (decide +kernel))
    (case adra => first | k_is | rfl | (decide +kernel))
    (case ldra => first | k_is | rfl | (decide +kernel))
    (case cdra => first | k_is | rfl | (decide +kernel))
    (case kdra => first | k_is | rfl | (decide +kernel))
    (case asam => first | k_is | rfl | (decide +kernel))
    (case lsam => first | k_is | rfl | (decide +kernel))
    (case csam => first | k_is | rfl | (decide +kernel))
    (case ksam => first | k_is | rfl | (decide +kernel))
    (case asar => first | k_is | rfl | (decide +kernel))
    (case lsar => first | k_is | rfl | (decide +kernel))
    (case csar => first | k_is | rfl | (decide +kernel))
    (case ksar => first | k_is | rfl | (decide +kernel))
    (case asrs => first | k_is | rfl | (decide +kernel))
    (case lsrs => first | k_is | rfl | (decide +kernel))
    (case csrs => first | k_is | rfl | (decide +kernel))
    (case ksrs => first | k_is | rfl | (decide +kernel))
    (case aord => first | k_is | rfl | (decide +kernel))
    (case lord => first | k_is | rfl | (decide +kernel))
    (case cord => first | k_is | rfl | (decide +kernel))
    (case kord => first | k_is | rfl | (decide +kernel))
    (case anum => first | k_is | rfl | (decide +kernel))
    (case lnum => first | k_is | rfl | (decide +kernel))
    (case cnum => first | k_is | rfl | (decide +kernel))
    (case knum => first | k_is | rfl | (decide +kernel))
    (case achf => first | k_is | rfl | (decide +kernel))
    (case lchf => first | k_is | rfl | (decide +kernel))
    (case cchf => first | k_is | rfl | (decide +kernel))
    (case kchf => first | k_is | rfl | (decide +kernel))
    (case alci => first | k_is | rfl | (decide +kernel))
    (case llci => first | k_is | rfl | (decide +kernel))
    (case clci => first | k_is | rfl | (decide +kernel))
    (case klci => first | k_is | rfl | (decide +kernel))
    (case afau => first | k_is | rfl | (decide +kernel))
    (case lfau => first | k_is | rfl | (decide +kernel))
    (case cfau => first | k_is | rfl | (decide +kernel))
    (case kfau => first | k_is | rfl | (decide +kernel))
    (case aful => first | k_is | rfl | (decide +kernel))
    (case lful => first | k_is | rfl | (decide +kernel))
    (case cful => first | k_is | rfl | (decide +kernel))
    (case kful => first | k_is | rfl | (decide +kernel))
    (case aove => first | k_is | rfl | (decide +kernel))
    (case love => first | k_is | rfl | (decide +kernel))
    (case cove => first | k_is | rfl | (decide +kernel))
    (case kove => first | k_is | rfl | (decide +kernel))
    (case afor => first | k_is | rfl | (decide +kernel))
    (case lfor => first | k_is | rfl | (decide +kernel))
    (case cfor => first | k_is | rfl | (decide +kernel))
    (case kfor => first | k_is | rfl | (decide +kernel))
    (case alef => first | k_is | rfl | (decide +kernel))
    (case llef => first | k_is | rfl | (decide +kernel))
    (case clef => first | k_is | rfl | (decide +kernel))
    (case klef => first | k_is | rfl | (decide +kernel))
    (case akey => first | k_is | rfl | (decide +kernel))
    (case lkey => first | k_is | rfl | (decide +kernel))
    (case ckey => first | k_is | rfl | (decide +kernel))
    (case kkey => first | k_is | rfl | (decide +kernel))
    (case agoo => first | k_is | rfl | (decide +kernel))
    (case lgoo => first | k_is | rfl | (decide +kernel))
    (case cgoo => first | k_is | rfl | (decide +kernel))
    (case kgoo => first | k_is | rfl | (decide +kernel))
    (case aans => first | k_is | rfl | (decide +kernel))
    (case lans => first | k_is | rfl | (decide +kernel))
    (case cans => first | k_is | rfl | (decide +kernel))
    (case kans => first | k_is | rfl | (decide +kernel))
    (case acou => first | k_is | rfl | (decide +kernel))
    (case lcou => first | k_is | rfl | (decide +kernel))
    (case ccou => first | k_is | rfl | (decide +kernel))
    (case kcou => first | k_is | rfl | (decide +kernel))
    (case aext => first | k_is | rfl | (decide +kernel))
    (case lext => first | k_is | rfl | (decide +kernel))
    (case cext => first | k_is | rfl | (decide +kernel))
    (case kext => first | k_is | rfl | (decide +kernel))
    (case aben => first | k_is | rfl | (decide +kernel))
    (case lben => first | k_is | rfl | (decide +kernel))
    (case cben => first | k_is | rfl | (decide +kernel))
    (case kben => first | k_is | rfl | (decide +kernel))
    (case asiz => first | k_is | rfl | (decide +kernel))
    (case lsiz => first | k_is | rfl | (decide +kernel))
    (case csiz => first | k_is | rfl | (decide +kernel))
    (case ksiz => first | k_is | rfl | (decide +kernel))
    (case agiv => first | k_is | rfl | (decide +kernel))
    (case lgiv => first | k_is | rfl | (decide +kernel))
    (case cgiv => first | k_is | rfl | (decide +kernel))
    (case kgiv => first | k_is | rfl | (decide +kernel))
    (case asma => first | k_is | rfl | (decide +kernel))
    (case lsma => first | k_is | rfl | (decide +kernel))
    (case csma => first | k_is | rfl | (decide +kernel))
    (case ksma => first | k_is | rfl | (decide +kernel))
    (case apai => first | k_is | rfl | (decide +kernel))
    (case lpai => first | k_is | rfl | (decide +kernel))
    (case cpai => first | k_is | rfl | (decide +kernel))
    (case kpai => first | k_is | rfl | (decide +kernel))
    (case alar => first | k_is | rfl | (decide +kernel))
    (case llar => first | k_is | rfl | (decide +kernel))
    (case clar => first | k_is | rfl | (decide +kernel))
    (case klar => first | k_is | rfl | (decide +kernel))
    (case arou => first | k_is | rfl | (decide +kernel))
    (case lrou => first | k_is | rfl | (decide +kernel))
    (case crou => first | k_is | rfl | (decide +kernel))
    (case krou => first | k_is | rfl | (decide +kernel))
    (case alaw => first | k_is | rfl | (decide +kernel))
    (case llaw => first | k_is | rfl | (decide +kernel))
    (case claw => first | k_is | rfl | (decide +kernel))
    (case klaw => first | k_is | rfl | (decide +kernel))
    (case aI => first | k_is | rfl | (decide +kernel))
    (case xI => first | k_is | rfl | (decide +kernel))
    (case rbI => first | k_is | rfl | (decide +kernel))
    (case saI => first | k_is | rfl | (decide +kernel))
    (case ebI => first | k_is | rfl | (decide +kernel))
    (case tyI => first | k_is | rfl | (decide +kernel))
    (case kcI => first | k_is | rfl | (decide +kernel))
    (case inI => first | k_is | rfl | (decide +kernel))
    (case tfI => first | k_is | rfl | (decide +kernel))
    (case lxI => first | k_is | rfl | (decide +kernel))
    (case cxI => first | k_is | rfl | (decide +kernel))
    (case kxI => first | k_is | rfl | (decide +kernel))
    (case noI_reason => first | k_is | rfl | (decide +kernel))
    (case noI_position => first | k_is | rfl | (decide +kernel))
    (case aW => first | k_is | rfl | (decide +kernel))
    (case aB => first | k_is | rfl | (decide +kernel))
    (case aM => first | k_is | rfl | (decide +kernel))
    (case aS => first | k_is | rfl | (decide +kernel))
    (case aT => first | k_is | rfl | (decide +kernel))
    (case aN => first | k_is | rfl | (decide +kernel))
    (case e_hn => first | k_is | rfl | (decide +kernel))
    (case e_ht => first | k_is | rfl | (decide +kernel))
    (case e_hgI => first | k_is | rfl | (decide +kernel))
    (case e_hkI => first | k_is | rfl | (decide +kernel))
    (case e_hdI => first | k_is | rfl | (decide +kernel))
    (case e_haI => first | k_is | rfl | (decide +kernel))
    (case e_hmI => first | k_is | rfl | (decide +kernel))
    (case exm_IW => first | k_is | rfl | (decide +kernel))
    (case kit_II => first | k_is | rfl | (decide +kernel))
    (case kit_IV => first | k_is | rfl | (decide +kernel))
    (case kit_any => first | k_is | rfl | (decide +kernel))
    (case aNet => first | k_is | rfl | (decide +kernel))
    (case rdN => first | k_is | rfl | (decide +kernel))
    (case gaN => first | k_is | rfl | (decide +kernel))
    (case cv1 => first | k_is | rfl | (decide +kernel))
    (case cv2 => first | k_is | rfl | (decide +kernel))
    (case cv3 => first | k_is | rfl | (decide +kernel))
    (case cv4 => first | k_is | rfl | (decide +kernel))
    (case fIC => first | k_is | rfl | (decide +kernel))
    (case rIC => first | k_is | rfl | (decide +kernel))
    (case lIC => first | k_is | rfl | (decide +kernel))
    (case cIC => first | k_is | rfl | (decide +kernel))
    (case kIC => first | k_is | rfl | (decide +kernel))
    (case aP => first | k_is | rfl | (decide +kernel))
    (case pgP => first | k_is | rfl | (decide +kernel))
    (case hdP => first | k_is | rfl | (decide +kernel))
    (case poP => first | k_is | rfl | (decide +kernel))
    (case stP => first | k_is | rfl | (decide +kernel))
    (case nSP => first | k_is | rfl | (decide +kernel))
    (case nCP => first | k_is | rfl | (decide +kernel))
    (case nJP => first | k_is | rfl | (decide +kernel))
    (case nOP => first | k_is | rfl | (decide +kernel))
    (case mkP => first | k_is | rfl | (decide +kernel))
    (case keP => first | k_is | rfl | (decide +kernel))
    (case itP => first | k_is | rfl | (decide +kernel))
    (case ifP => first | k_is | rfl | (decide +kernel))
    (case sl_P => first | k_is | rfl | (decide +kernel))
    (case sc_P => first | k_is | rfl | (decide +kernel))
    (case ce_P => first | k_is | rfl | (decide +kernel))
    (case co_P => first | k_is | rfl | (decide +kernel))
    (case fi_P => first | k_is | rfl | (decide +kernel))
    (case fe_P => first | k_is | rfl | (decide +kernel))
    (case di_P => first | k_is | rfl | (decide +kernel))
    (case mr_P => first | k_is | rfl | (decide +kernel))
    (case ks_P => first | k_is | rfl | (decide +kernel))
    (case opq => first | k_is | rfl | (decide +kernel))
    (case tyNI => first | k_is | rfl | (decide +kernel))
    (case fnNI => first | k_is | rfl | (decide +kernel))
    (case lNI => first | k_is | rfl | (decide +kernel))
    (case cNI => first | k_is | rfl | (decide +kernel))
    (case kNI => first | k_is | rfl | (decide +kernel))
    (case capD => first | k_is | rfl | (decide +kernel))
    (case ps_P => first | k_is | rfl | (decide +kernel))
    (case gs_ => first | k_is | rfl | (decide +kernel))
    (case ts_ => first | k_is | rfl | (decide +kernel))
    (case rs_ => first | k_is | rfl | (decide +kernel))
    (case lslots => first | k_is | rfl | (decide +kernel))
    (case cslots => first | k_is | rfl | (decide +kernel))
    (case kslots => first | k_is | rfl | (decide +kernel))

