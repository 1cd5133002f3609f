import PyProof.Rows.All
import Wide.All
import OpenK.AllK
import Wide.FinOn
import KE.KSuper
import HandS.ForMost
import HandS.ForExc
import HandS.Star
import HandS.ClsMeth
import HandS.ExcInit
import HandS.ExcIs
import HandS.ExcField
import HandS.HotCalls
import HandS.Iter
import HandS.Walk
import KE.GoesEnum
import HandS.DictComp
import HandS.IsInst
import KE.KExcIs
import HandS.Zip
import KE.GoesMore
import HandS.Rev
import HandS.TupAny
import HandS.RaiseMore
import HandS.OwnEq
import HandS.FStr
import HandS.TupSets
import HandS.DictTup
import HandS.TupLen
import HandS.Flow
import HandS.Style
import HandS.Property
import HandS.Conv
import HandS.Codes
import HandS.SortOrd
import PySem.Challenge.RW_withincall_k01_rings_and_kinds
set_option Elab.async false
set_option linter.all false
set_option maxRecDepth 100000
set_option maxHeartbeats 4000000
namespace WC
open PySem PySem.Spec PyProof.Rows L2

/-! cells of a def that closes over the class -/
theorem cf_app : ∀ (names : List (Str × NameKind)) (n : Nat) (acc : List (Str × Addr)), cellsFrom n names acc = cellsFrom n names [] ++ acc
  | [], _, _ => rfl
  | (x, k) :: r, n, acc => by
    unfold cellsFrom
    by_cases hk : (k == NameKind.cell) = true
    · simp only [hk, if_true]
      rw [cf_app r (n + 1) ((x, n) :: acc), cf_app r (n + 1) [(x, n)], List.append_assoc]
      rfl
    · simp only [hk, if_false]
      exact cf_app r n acc
theorem cf_mem : ∀ (names : List (Str × NameKind)) (n : Nat) (x : Str) (c : Addr), (x, c) ∈ cellsFrom n names [] → (x, NameKind.cell) ∈ names
  | [], _, _, _, h => by cases h
  | (y, k) :: r, n, x, c, h => by
    unfold cellsFrom at h
    by_cases hk : (k == NameKind.cell) = true
    · simp only [hk, if_true] at h
      rw [cf_app, List.mem_append] at h
      rcases h with h | h
      · exact List.mem_cons_of_mem _ (cf_mem r _ x c h)
      · have e := List.mem_singleton.mp h
        cases e
        have e2 : k = NameKind.cell := by cases k <;> first | rfl | cases hk
        rw [e2]
        exact List.mem_cons_self
    · simp only [hk, if_false] at h
      exact List.mem_cons_of_mem _ (cf_mem r _ x c h)
theorem store_same {e1 e2 : Env} {x : Str} {v : Value} (h1 : e1.scope = e2.scope) (h2 : e1.locals = e2.locals) (h3 : e1.globals = e2.globals) (h4 : e1.cells.lookup x = e2.cells.lookup x) : storeName e1 x v = storeName e2 x v := by
  obtain ⟨s1, l1, g1, c1⟩ := e1
  obtain ⟨s2, l2, g2, c2⟩ := e2
  dsimp only at h1 h2 h3 h4
  subst h1 h2 h3
  unfold storeName PySem.cellOf
  simp only [h4]
  rfl
theorem forIn_same {β : Type} {α : Type} {f g : α → β → Sem (ForInStep β)} : ∀ (l : List α) (b : β), (∀ a ∈ l, ∀ b, f a b = g a b) → forIn l b f = forIn l b g
  | [], _, _ => rfl
  | a :: l, b, h => by
    rw [List.forIn_cons, List.forIn_cons, h a List.mem_cons_self]
    congr 1
    funext r
    cases r with
    | done b => rfl
    | yield b => exact forIn_same l b fun c hc => h c (List.mem_cons_of_mem _ hc)
end WC

set_option maxHeartbeats 4000000
namespace WC
open PySem PySem.Spec PyProof.Rows L2
section
variable {M : Model} {A : Around} {E : Value → Shared → Prop} {s : Shared}
theorem env_made {scope : Scope} {gl cc : Addr} {binds : List (Str × Value)} {qual : Str} {func : Option Addr} {code : Value} {blt : Addr} {Q : Env → Shared → Prop} (hk : scope.kind = .function)
    (hb : ∀ x ∈ binds, x.1 ≠ ("__class__" : Str) ∧ (scope.names.lookup x.1 = some .local ∨ (scope.names.lookup x.1 = some .cell ∧ ((cellsFrom (s.heap.objs.size + 1) scope.names []).lookup x.1).isSome = true)))
    (hQ : ∀ s', InCallC s s.heap.objs.size (bindL (fun x => scope.names.lookup x) binds fun _ => none) (cellsFrom (s.heap.objs.size + 1) scope.names []) (bindC (fun x => scope.names.lookup x) binds fun _ => none) s' →
      Q (newEnv scope s.heap.objs.size gl (cellsFrom (s.heap.objs.size + 1) scope.names [] ++ [(("__class__" : Str), cc)]) qual func code none blt) s') :
    wpAny M A (newFunctionEnv scope gl [(("__class__" : Str), cc)] binds qual func code none blt) Q E s := by
  have hz : ∀ o : Obj, ({ s with heap := s.heap.push o } : Shared).heap.objs.size = s.heap.objs.size + 1 := fun o => Heap.size_push ..
  have ok := cellsFrom_ok scope.names (s.heap.push { cls := .type "frame", data := .dict #[] }) (s.heap.objs.size + 1) [] ⟨fun _ _ z => (nomatch z), .nil⟩ (by rw [Heap.size_push]; exact Nat.le_refl _)
  rw [Heap.size_push] at ok
  simp only [newFunctionEnv, Option.isSome_none, Bool.false_eq_true, if_false]
  refine wpAny_bind <| wpAny_alloc ?_
  refine wpAny_bind <| wpAny_layCells _ (fun name kind cells => by cases e : kind == NameKind.cell <;> simp [e]) _ _ _ _ ?_
  rw [hz, cf_app]
  have st : ∀ x ∈ binds, ∀ u : PUnit, (do storeName (newEnv scope s.heap.objs.size gl (cellsFrom (s.heap.objs.size + 1) scope.names [] ++ [(("__class__" : Str), cc)]) qual func code none blt) x.1 x.2; pure (ForInStep.yield PUnit.unit) : Sem _) =
      (do storeName (newEnv scope s.heap.objs.size gl (cellsFrom (s.heap.objs.size + 1) scope.names []) qual func code none blt) x.1 x.2; pure (ForInStep.yield PUnit.unit)) := fun x hx _ => by
    have ne := (hb x hx).1
    have hl : List.lookup x.1 [(("__class__" : Str), cc)] = none := by
      have q : (x.1 == ("__class__" : Str)) = false := by simpa using ne
      simp [List.lookup, q]
    have h := store_same (v := x.2) (e1 := newEnv scope s.heap.objs.size gl (cellsFrom (s.heap.objs.size + 1) scope.names [] ++ [(("__class__" : Str), cc)]) qual func code none blt) (e2 := newEnv scope s.heap.objs.size gl (cellsFrom (s.heap.objs.size + 1) scope.names []) qual func code none blt) rfl rfl rfl (by
      show List.lookup x.1 (cellsFrom (s.heap.objs.size + 1) scope.names [] ++ [(("__class__" : Str), cc)]) = List.lookup x.1 (cellsFrom (s.heap.objs.size + 1) scope.names [])
      rw [List.lookup_append, hl]
      cases List.lookup x.1 (cellsFrom (s.heap.objs.size + 1) scope.names []) <;> rfl)
    rw [h]
  refine wpAny_bind ?_
  refine Eq.mpr (congrArg (fun t => wpAny M A t _ E _) (forIn_same binds PUnit.unit fun x hx b => st x hx b)) ?_
  refine wpAny_bindParams (s₀ := s) (env := newEnv scope s.heap.objs.size gl (cellsFrom (s.heap.objs.size + 1) scope.names []) qual func code none blt) _ (fun _ _ _ => rfl) hk binds (fun _ => none) (fun _ => none) _ _
    ⟨⟨⟨_, _, rfl⟩, (Heap.Ns.new s.heap (.type "frame")).keeps (pushCells_keeps _ _), fun b o e => pushCells_keeps _ _ b o (Heap.get?_push_of_some _ e), Nat.le_refl _⟩, fun n c hc => (ok.empty n c (mem_of_lookup hc)).1, ok.apart, fun n c hm => (ok.empty n c hm).2⟩
    (fun x hx => (hb x hx).2) fun s' x => wpAny_pure (hQ s' x)
end
end WC

set_option maxHeartbeats 4000000
namespace WC
open PySem PySem.Spec PyProof.Rows L2
abbrev cls_ : Str := "__class__"
/-- names of a def that says super(): the parameters first; one captured name, the class -/
structure CScope (N ps : List Str) (sc : Scope) : Prop where
  knd : sc.kind = .function
  coR : sc.isCoroutine = false
  gnr : sc.isGenerator = false
  nod : N.Nodup
  pfx : N.take ps.length = ps
  prm : ∀ x ∈ ps, x ≠ cls_ ∧ (sc.names.lookup x = some .local ∨ sc.names.lookup x = some .cell)
  fre : ∀ y ∈ sc.names, y.2 = .free → y.1 = cls_
  frc : sc.names.lookup cls_ = some .free
  nin : cls_ ∉ N
  once : ∀ y ∈ sc.names, y.1 = cls_ → y.2 = .free
abbrev envS (qual : Str) (sc : Scope) (L f : Addr) (cd : Value) (cc : Addr) : Env := PySem.W.envX qual sc L f cd (cellsFrom (L + 1) sc.names [] ++ [(cls_, cc)])
def cxS (CX : CXT) (P : Program) (w : World) (K : PySem.W.Frag) (mg : Str → Option Value) (base : Heap) (N : List Str) (qual : Str) (sc : Scope) (f : Addr) (cd : Value) (cc : Addr) (A : Around) (outer : List Env) (s : Shared) (H : Hp) (E : XK) : Cx :=
  { prog := P, w := w, K := K, mg := mg, base := base, A := A.deeper (envS qual sc s.heap.objs.size f cd cc), N := N, s_0 := s, H_0 := H, env := envS qual sc s.heap.objs.size f cd cc, outer := outer,
    stack := envS qual sc s.heap.objs.size f cd cc :: outer, ex := [], calm := true, fn := fun y => decide (y ≠ cls_), pn := [],
    xe := fun e s' => wpAny (model P w) (A.deeper (envS qual sc s.heap.objs.size f cd cc)) (leaving (envS qual sc s.heap.objs.size f cd cc) e) (fun _ s2 => CX outer H s E e s2) (fun e2 s2 => CX outer H s E e2 s2) s' }
theorem look_app {l : List (Str × Addr)} {x : Str} {cc c : Addr} (h : (l ++ [(cls_, cc)]).lookup x = some c) : l.lookup x = some c ∨ (x = cls_ ∧ c = cc) := by
  rw [List.lookup_append] at h
  cases e : l.lookup x with
  | some d => rw [e] at h; exact .inl h
  | none =>
    rw [e] at h
    have h : List.lookup x [(cls_, cc)] = some c := h
    by_cases q : x = cls_
    · subst q
      have z : List.lookup cls_ [(cls_, cc)] = some cc := by simp [List.lookup]
      rw [z] at h
      exact .inr ⟨rfl, (Option.some.inj h).symm⟩
    · have b : (x == cls_) = false := by simpa using q
      have z : List.lookup x [(cls_, cc)] = none := by simp [List.lookup, b]
      rw [z] at h
      cases h
section
variable {CX : CXT} {P : Program} {w : World} {K : PySem.W.Frag} {mg : Str → Option Value} {base : Heap} {N ps : List Str} {qual : Str} {sc : Scope} {f cc D : Addr} {cd : Value} {A : Around} {outer : List Env} {s s1 : Shared} {H : Hp} {E : XK} {us : List Value} {vs : List V}
theorem inv_startS {kc : Value} {dc : Option Addr} {lc : Array (Option Value)} (S : CScope N ps sc) (hd : A.handled = none) (e0 : Env0 P w K mg base A outer s H) (hl : vs.length = ps.length) (r : Vals vs us) (hcc : K.lookup cc = some ⟨kc, dc, .cell (some (.ref D)), lc⟩)
    (x : InCallC s s.heap.objs.size (bindL (fun x => sc.names.lookup x) (ps.zip us) fun _ => none) (cellsFrom (s.heap.objs.size + 1) sc.names []) (bindC (fun x => sc.names.lookup x) (ps.zip us) fun _ => none) s1) :
    Inv (cxS CX P w K mg base N qual sc f cd cc A outer s H E) [] (start N vs) H s1 := by
  have hN : ps.length ≤ N.length := by
    have z := congrArg List.length S.pfx
    rw [List.length_take] at z
    omega
  obtain ⟨h1, tk, rfl, hk⟩ := x.done
  have bcc : base.get? cc = some ⟨kc, dc, .cell (some (.ref D)), lc⟩ := e0.mod.kin _ _ hcc
  have scc := e0.bs _ _ bcc
  have ltc : cc < s.heap.objs.size := Heap.lt_size scc.1
  have nm : ∀ y c, (cellsFrom (s.heap.objs.size + 1) sc.names []).lookup y = some c → y ≠ cls_ ∧ s.heap.objs.size < c := fun y c h => by
    have m := mem_of_lookup h
    refine ⟨fun z => ?_, x.above y c m⟩
    have z2 := S.once _ (cf_mem _ _ _ _ m) z
    cases z2
  have lkc : (cellsFrom (s.heap.objs.size + 1) sc.names [] ++ [(cls_, cc)]).lookup cls_ = some cc := by
    rw [List.lookup_append]
    cases e : (cellsFrom (s.heap.objs.size + 1) sc.names []).lookup cls_ with
    | some c => exact absurd rfl (nm _ _ e).1
    | none => show List.lookup cls_ [(cls_, cc)] = some cc; simp [List.lookup]
  have lko : ∀ y c, (cellsFrom (s.heap.objs.size + 1) sc.names []).lookup y = some c → (cellsFrom (s.heap.objs.size + 1) sc.names [] ++ [(cls_, cc)]).lookup y = some c := fun y c e => by
    rw [List.lookup_append, e]
    rfl
  have nx : ∀ b : Addr, b ∉ (cxS CX P w K mg base N qual sc f cd cc A outer s H E).ex := fun b z => absurd (show b ∈ ([] : List Addr) from z) (by simp)
  refine
    { ok :=
        { mod := e0.mod, kind := S.knd, glob := rfl, blt := rfl, above := Nat.le_refl _,
          inj := fun y z c g1 g2 => ?_, has := fun y hy => ?_, cab := fun y c g1 g2 => ?_, hd := fun _ => hd, frames := Around.frames_deeper e0.frames, stk := .inr ⟨rfl, rfl⟩, exf := fun b z => absurd z (nx b), bs := e0.bs, bsz := e0.bsz,
          noex := fun b _ _ => nx b, exfs := fun b z => absurd z (nx b), funs := e0.funs, frf := e0.frf },
      os := rfl, bare := e0.bare, base := Un.kept hk, loc := ⟨_, x.toInCall.ns, fun i y v g1 g2 g3 => ?_⟩, cell := fun y c g => ?_, free := e0.hok.fresh (Nat.le_refl _), freeC := fun y c g => ?_,
      pin := fun p hp => absurd (show p ∈ ([] : List (Addr × Obj)) from hp) (by simp), hok := e0.hok.kept hk, len := ?_ }
  · rcases look_app g1 with a | ⟨a, a2⟩
    · rcases look_app g2 with b | ⟨b, b2⟩
      · exact name_of_addr x.apart (mem_of_lookup a) (mem_of_lookup b)
      · exact absurd (Nat.lt_trans ((b2 : c = cc) ▸ (nm _ _ a).2) ltc) (Nat.lt_irrefl _)
    · rcases look_app g2 with b | ⟨b, b2⟩
      · exact absurd (Nat.lt_trans ((a2 : c = cc) ▸ (nm _ _ b).2) ltc) (Nat.lt_irrefl _)
      · rw [a, b]
  · have hy : sc.names.lookup y = some .cell ∨ sc.names.lookup y = some .free := hy
    rcases hy with hy | hy
    · obtain ⟨c, hc⟩ := cell_has (n := s.heap.objs.size + 1) hy
      exact ⟨c, lko _ _ hc⟩
    · have z := S.fre _ (mem_of_lookup hy) rfl
      have z : y = cls_ := z
      rw [z]
      exact ⟨cc, lkc⟩
  · have g1 : y ≠ cls_ := of_decide_eq_true g1
    rcases look_app g2 with a | ⟨a, _⟩
    · exact Nat.le_of_lt (nm _ _ a).2
    · exact absurd a g1
  · have hi : i < vs.length := by
      unfold L2.start at g2
      by_cases hi : i < vs.length
      · exact hi
      · rw [List.getElem?_append_right (by simpa using hi), List.getElem?_replicate] at g2
        split at g2 <;> cases g2
    have ha : vs[i]? = some v := by
      unfold L2.start at g2
      rw [List.getElem?_append_left (by simpa using hi), List.getElem?_map] at g2
      cases e : vs[i]? with
      | none => rw [e] at g2; cases g2
      | some a => rw [e] at g2; cases g2; rfl
    obtain ⟨u, hu, rv⟩ := r.get ha
    have hp : ps[i]? = some y := by
      rw [← S.pfx, List.getElem?_take_of_lt (by omega)]
      exact g1
    have ndP : ps.Nodup := by
      rw [← S.pfx]
      exact S.nod.sublist (List.take_sublist _ _)
    refine ⟨u, rv, ?_⟩
    rcases (S.prm y (List.mem_of_getElem? hp)).2 with k | k
    · exact .inl ⟨k, bindL_get ndP hp hu k⟩
    · obtain ⟨c, e⟩ := cell_has (n := s.heap.objs.size + 1) k
      refine .inr ⟨.inl k, c, lko _ _ e, ?_⟩
      have q := x.cell y c e
      rw [bindC_get ndP hp hu (by rw [k]; decide)] at q
      exact q
  · rcases look_app g with a | ⟨_, a⟩
    · exact ⟨_, x.cell _ _ a⟩
    · subst a
      exact ⟨_, _, hk _ _ scc.1, rfl⟩
  · rcases look_app g with a | ⟨_, a⟩
    · exact e0.hok.fresh (Nat.le_of_lt (nm _ _ a).2)
    · subst a
      exact scc.2
  · unfold L2.start
    show _ = N.length
    rw [List.length_append, List.length_map, List.length_replicate]
    omega
end
end WC

set_option maxHeartbeats 4000000
namespace WC
open PySem PySem.Spec PyProof.Rows L2
/-- a block, run in the activation c -/
structure PX (X : Cx) (c : Code) (st : List Stmt) (t : TS) : Prop where
  run : ∀ (pins : List (Addr × Obj)) (s : Shared) (σ : L2.St) (H : Hp) (D : Ends), Inv X pins σ H s → t D σ H → PySem.wpAt (model X.prog X.w) X.A c (execs st X.env) (SP X pins D) X.xe s
section
variable {X : Cx} {c : Code} {st : Stmt} {rest : List Stmt} {t u : TS}
theorem px_of {st : List Stmt} (h : PSs X st t) : PX X c st t := ⟨fun pins s σ H D I z => wpAt_of_wpAny (h.run pins s σ H D I z)⟩
theorem px_cons (h1 : PS X st t) (h2 : PX X c rest u) : PX X c (st :: rest) (tSeq t u) := by
  refine ⟨fun pins s σ H D I h => ks_wpAt_execs_cons (wpAt_of_wpAny (thn (h1.run pins s σ H { D with nx := u D } I h) fun f s1 q => ?_))⟩
  cases f with
  | next =>
    obtain ⟨σ1, H1, I1, q1⟩ := q
    exact h2.run pins s1 σ1 H1 D I1 q1
  | ret v => exact q
  | brk => exact q
  | cont => exact q
/-- what the written part says for super() in a method of the class at D, called upon an instance of the class at C; g: the def that is met -/
structure SupTxt (P : Program) (K : PySem.W.Frag) (mg : Str → Option Value) (D C g : Addr) (m : Str) : Prop where
  dCls : ∃ cdD, PySem.W.clsIn K D = some cdD
  sub : PySem.W.mroIn K C (.ref D) = some true
  sup : mg "super" = none
  nat : (m == cls_) = false
  top : (P.main.scope.names.lookup ("super" : Str)).isSome = false
  opq : PySem.W.nsIn K cStatics "thirdparty.any" = some none
  met : PySem.W.ks_superIn K C D m = some (some (.ref g))
  typ : PySem.W.typeIn K (.ref g) = some (.type "function")
  fni : PySem.W.fnIn K g = true
/-- what it says of the def that says so: where it stands, its cell, its code -/
structure SelfTxt (P : Program) (K : PySem.W.Frag) (env : Env) (D : Addr) (slf : Str) : Prop where
  kS : env.kindOf "super" = some .globalImplicit
  kC : env.kindOf cls_ = some .free
  kL : env.kindOf slf = some .local
  lc : ∃ cc k d l, env.cells.lookup cls_ = some cc ∧ K.lookup cc = some ⟨k, d, .cell (some (.ref D)), l⟩
  fn : ∃ f oc od fd sl ar, env.func = some f ∧ K.lookup f = some ⟨oc, od, .func fd, sl⟩ ∧ (fd.params.posonlyargs ++ fd.params.args).head? = some ar ∧ ar.arg = slf
  cod : ∃ c oc od vs sl file t, env.code = .ref c ∧ K.lookup c = some ⟨oc, od, .fields vs, sl⟩ ∧ vs[2]? = some (.str file t) ∧ ((P.main.file : Str) == file) = true
/-- super().m(e, ..) -/
def tSup (C : Addr) (i : Nat) (sp : Sp) (E : XK) (t : TA) : TE := fun σ H Q => ∃ x dx fs, σ[i]? = some (some (.ref x)) ∧ H x = some (.ins C dx fs) ∧ t σ H fun vs H1 => sp (.ref x :: vs) H1 Q E
section
variable {CX : CXT} {k i : Nat} {C D g : Addr} {sp : Sp} {E : XK} {e : Expr} {es : List Expr} {m slf : Str} {p0 p1 p2 p3 : Pos} {ta : TA} {body : List Stmt} {pl : Sem Bool}
theorem at_sup {pins : List (Addr × Obj)} {s : Shared} {σ : L2.St} {H : Hp} {Q : VK} (T : SupTxt X.prog X.K X.mg D C g m) (Z : SelfTxt X.prog X.K X.env D slf) (F : FnR X.prog X.w X.K X.mg X.base CX k g sp) (hr : Room k X.A) (hx : Passes CX X E) (hN : X.N[i]? = some slf) (ha : PA X (e :: es) ta)
    (he : eval (.Call (.Attribute (.Call (.Name "super" p0) [] [] p1) m p2) (e :: es) [] p3) X.env = (do
      let ov ← attributeBase (.Call (.Name "super" p0) [] [] p1) m X.env (eval (.Call (.Name "super" p0) [] [] p1) X.env)
      standAt p2.atName
      let (f, first) ← holding [ov] (getMethod ov m pl)
      callWith p3 f first (backTo p3 (starEach (e :: es) X.env)) [])) 
    (hst : starEach (e :: es) X.env = (false, eval e X.env) :: starEach es X.env) (hpl : (backTo p3 (starEach es X.env)).any (·.1) = false)
    (I : Inv X pins σ H s) (h : tSup C i sp E ta σ H Q) : PySem.wpAt (model X.prog X.w) X.A (.func body X.env) (eval (.Call (.Attribute (.Call (.Name "super" p0) [] [] p1) m p2) (e :: es) [] p3) X.env) (EP X pins σ Q) X.xe s := by
  obtain ⟨x, dx, fs, hs, hH, ht⟩ := h
  obtain ⟨f, of1, of2, fd, of3, ar, ef, kf, hd, har⟩ := Z.fn
  obtain ⟨c, oc1, oc2, vs, oc3, file, tf, ec, kc, hvs, hfile⟩ := Z.cod
  obtain ⟨cc, k1, k2, k3, lcc, kcc⟩ := Z.lc
  obtain ⟨cdD, hD⟩ := T.dCls
  have K1 := I.kIn
  obtain ⟨oD, hD1, hD2⟩ : ∃ oD, s.heap.get? D = some oD ∧ oD.data = .cls cdD := by
    unfold PySem.W.clsIn at hD
    split at hD
    · rename_i a b cd' d ho
      cases hD
      exact ⟨_, K1 _ _ ho, rfl⟩
    · cases hD
  obtain ⟨_, O, _, _, _⟩ := ins_get I.hok hH
  have hob := O.1
  refine ks_wpAt_MethodCall ?_ he
  refine ks_wpAt_super_base Z.kS Z.kC T.nat ef (K1 _ _ kf) rfl hd ec (K1 _ _ kc) rfl hvs hfile T.top ?_
  obtain ⟨mb, hb1, hb2⟩ := I.mod.blt
  refine PySem.W.ks_loadName_global I.ok.kind Z.kS (Calls.loadGlobal_builtin (by rw [I.ok.glob]; exact I.mod.glob.keeps I.bk) T.sup (by rw [I.ok.blt]; exact hb1.keeps I.bk) ((hb2 _ (by decide)).trans (show bootBuiltins "super" = some (.type "super") by decide +kernel)) ⟨rfl, ?_⟩)
  refine wpAny_loadName_free I.ok.kind Z.kC lcc ⟨_, K1 _ _ kcc, rfl⟩ ?_
  obtain ⟨mL, hn, hl⟩ := id I.loc
  obtain ⟨u, ru, lu⟩ := hl i slf _ hN hs (.inl Z.kL)
  obtain rfl : u = Value.ref x := ru
  have hm : mL slf = some (.ref x) := by
    rcases lu with ⟨_, q⟩ | ⟨q, _⟩
    · exact q
    · rw [Z.kL] at q
      rcases q with q | q <;> cases q
  rw [har]
  refine wpAny_loadName_local I.ok.kind Z.kL hn hm ?_
  refine ks_wpAny_isType_cls hD1 hD2 ⟨rfl, ?_⟩
  refine ks_wpAny_call_super hD1 hD2 hob rfl (fun c e => by cases e) (PySem.W.looks_mroIn K1 T.sub) fun h1 e1 k1 => ?_
  have I1 : Inv X pins σ H { s with heap := h1, toks := s.toks } := I.kept (t' := s.toks) k1
  have K2 := I1.kIn
  have K2 : X.K.In h1 := K2
  cases hC : PySem.W.clsIn X.K C with
  | none =>
    have z := T.met
    unfold PySem.W.ks_superIn at z
    rw [hC] at z
    cases z
  | some cd =>
    have z := T.met
    unfold PySem.W.ks_superIn at z
    rw [hC] at z
    obtain ⟨og, hog, hogc⟩ : ∃ og, h1.get? g = some og ∧ og.cls = .type "function" := by
      have y : (X.K.lookup g).map (·.cls) = some (.type "function") := T.typ
      cases q : X.K.lookup g with
      | none => rw [q] at y; cases y
      | some og =>
        rw [q] at y
        exact ⟨og, K2 _ _ q, Option.some.inj y⟩
    have hxC : x ≠ C := by
      rintro rfl
      unfold PySem.W.clsIn at hC
      split at hC
      · rename_i a b cd' d ho
        have e := K1 _ _ ho
        rw [hob] at e
        cases e
      · cases hC
    refine ks_wpAny_getMethod_super e1 (PySem.W.looks_opaque K2 T.opq) (l₀ := cd.mro) (fun A Q E s k q => wpAny_bind ((PySem.W.looks_clsIn K2 hC) A _ E s k (wpAny_pure q))) rfl K2 z hog hogc hxC T.nat ?_
    have I2 := ClX.met_new (C := x) (g := g) I1
    refine ClX.callwith_cm (C := x) (g := g) I2 (ClX.base_none I1 (Nat.le_refl _)) T.fni (thn (ha.run p3 _ _ σ H _ I2 ht) fun us s3 ⟨vs3, H3, I3, rv, q3⟩ => ⟨⟨ClX.pin_at I3, I3.kIn⟩, ?_⟩) hst hpl
    exact ClX.run_cm F hr hx I3 rv q3
end
end
end WC

set_option maxHeartbeats 4000000
namespace WC
open PySem PySem.Spec PyProof.Rows L2
section
variable {X : Cx} {CX : CXT} {k i : Nat} {C D g : Addr} {sp : Sp} {E : XK} {e : Expr} {es : List Expr} {m slf : Str} {p0 p1 p2 p3 p4 : Pos} {ta : TA} {body rest : List Stmt} {pl : Sem Bool} {u : TS}
/-- super().m(e, ..) as a statement -/
theorem px_sup (T : SupTxt X.prog X.K X.mg D C g m) (Z : SelfTxt X.prog X.K X.env D slf) (F : FnR X.prog X.w X.K X.mg X.base CX k g sp) (hr : Room k X.A) (hx : Passes CX X E) (hN : X.N[i]? = some slf) (ha : PA X (e :: es) ta) (hrest : PX X (.func body X.env) rest u)
    (he : eval (.Call (.Attribute (.Call (.Name "super" p0) [] [] p1) m p2) (e :: es) [] p3) X.env = (do
      let ov ← attributeBase (.Call (.Name "super" p0) [] [] p1) m X.env (eval (.Call (.Name "super" p0) [] [] p1) X.env)
      standAt p2.atName
      let (f, first) ← holding [ov] (getMethod ov m pl)
      callWith p3 f first (backTo p3 (starEach (e :: es) X.env)) []) := by rfl)
    (hst : starEach (e :: es) X.env = (false, eval e X.env) :: starEach es X.env := by rfl) (hpl : (backTo p3 (starEach es X.env)).any (·.1) = false := by rfl)
    (hs : swapsWith (.Call (.Attribute (.Call (.Name "super" p0) [] [] p1) m p2) (e :: es) [] p3) none p4.line X.env = pure false := by rfl) :
    PX X (.func body X.env) (.Expr (.Call (.Attribute (.Call (.Name "super" p0) [] [] p1) m p2) (e :: es) [] p3) p4 :: rest) (tSeq (tDrop (tSup C i sp E ta)) u) := by
  refine ⟨fun pins s σ H D0 I h => ks_wpAt_execs_cons (ks_wpAt_Expr_any (PySem.wpAt_mono (at_sup T Z F hr hx hN ha he hst hpl I h) (fun v s1 q => ?_) fun _ _ q => q) I.quiet hs)⟩
  obtain ⟨v1, H1, I1, r1, q1⟩ := q
  exact hrest.run pins s1 σ H1 D0 I1 q1
end
section
variable {CX : CXT} {P : Program} {w : World} {K : PySem.W.Frag} {mg : Str → Option Value} {base : Heap} {k : Nat} {f cc D : Addr} {name qual : Str} {params : Arguments} {body : List Stmt} {sc : Scope} {dV kV doc pm cdv ct oc kc : Value} {an od dc : Option Addr}
  {osl lc : Array (Option Value)} {N ps : List Str} {sp : Sp}
theorem run_bndS {A : Around} {outer : List Env} {s : Shared} {H : Hp} {args : Args} {Q : VK} {E : XK} {G : List V → Hp → Prop} (lk : K.lookup f = some ⟨oc, od, .func (PySem.W.fnX name qual params body sc [(cls_, cc)] dV kV doc pm an cdv ct), osl⟩) (hcd : PySem.W.codeIn K cdv qual = true)
    (hcc : K.lookup cc = some ⟨kc, dc, .cell (some (.ref D)), lc⟩) (S : CScope N ps sc) (hr : Room (k + 1) A) (e0 : Env0 P w K mg base A outer s H)
    (hb : StX.Bnd CX P w K mg base (PySem.W.fnX name qual params body sc [(cls_, cc)] dV kV doc pm an cdv ct) args ps A outer s H E G)
    (hbody : ∀ (s2 : Shared) (H2 : Hp) (vs : List V), G vs H2 → Room k (A.deeper (envS qual sc s2.heap.objs.size f cdv cc)) →
      ∃ t, PX (cxS CX P w K mg base N qual sc f cdv cc A outer s2 H2 E) (.func body (envS qual sc s2.heap.objs.size f cdv cc)) body t ∧ t { nx := fun _ H' => Q .non H', rt := Q } (L2.start N vs) H2) :
    codeAny (model P w) A (.call (.ref f) args) (CR CX outer P w H s Q E) s := by
  have KX : K.In s.heap := e0.mod.kin.keeps fun b o e => (e0.bs b o e).1
  refine codeAny_call_function hr.depth (KX _ _ lk) rfl S.coR S.gnr rfl (PySem.W.codeRec_of KX hcd) ?_
  refine hb _ _ _ fun s2 H2 vs us e2 un ho hx r hl g => ?_
  have lim : s2.heap.NoLimit := e0.mod.nolimit.keeps fun b o e => (e2.bs b o e).1
  refine env_made S.knd (fun y hy => ⟨(S.prm _ (List.of_mem_zip hy).1).1, ?_⟩) fun s1 x => ⟨lim.keeps x.toInCall.keep, ks_codeAny_funcAt ?_⟩
  · rcases (S.prm _ (List.of_mem_zip hy).1).2 with q | q
    · exact .inl q
    · exact .inr ⟨q, PySem.W.cellsFrom_some _ _ _ (.inl q)⟩
  obtain ⟨t, ht, hq⟩ := hbody s2 H2 vs g (hr.deeper _)
  have I : Inv (cxS CX P w K mg base N qual sc f cdv cc A outer s2 H2 E) [] (L2.start N vs) H2 s1 := inv_startS S hr.hd e2 hl r hcc x
  refine PySem.wpAt_mono (ht.run [] s1 _ _ _ I hq) (fun fl s3 hs => ?_) fun e s3 hs => ?_
  · have fin : ∀ {σ3 : L2.St} {H3 : Hp} {v3 : V} {u3 : Value}, Inv (cxS CX P w K mg base N qual sc f cdv cc A outer s2 H2 E) [] σ3 H3 s3 → RelV v3 u3 → Q v3 H3 → CE outer P w H s Q u3 s3 :=
      fun {σ3 H3 v3 u3} J rv q => ⟨v3, H3, J.os.trans ho, J.bare, un.trans J.base, J.hok, rv, q⟩
    cases fl with
    | ret u =>
      obtain ⟨v3, σ3, H3, J, rv, q⟩ := hs
      exact fin J rv q
    | next =>
      obtain ⟨σ3, H3, J, q⟩ := hs
      exact fin (v3 := V.non) (u3 := Value.none) J rfl q
    | brk =>
      obtain ⟨_, _, _, q⟩ := hs
      exact q.elim
    | cont =>
      obtain ⟨_, _, _, q⟩ := hs
      exact q.elim
  · exact wpAny_mono hs (fun _ s4 z => hx e s4 z) fun e2 s4 z => hx e2 s4 z
end
end WC

set_option maxHeartbeats 4000000
namespace WC
open PySem PySem.Spec PyProof.Rows L2
/-- def f(a, .., *pv, k = d, ..): how it binds positional values, the keywords left out (kv: the values of the keywords ks) -/
def BindStar (K : PySem.W.Frag) (fd : FuncData) (ps ks : List Str) (kv : List Value) (pv : Str) : Prop :=
  ∀ (u1 u2 : List Value), u1.length = ps.length → ∀ (M : Model) (A : Around) (Q : List (Str × Value) → Shared → Prop) (E : Value → Shared → Prop) (s : Shared), K.In s.heap →
    wpAny M A (newTuple u2 >>= fun t => pure ((ps ++ ks).zip (u1 ++ kv) ++ [(pv, t)])) Q E s → wpAny M A (bindArgs fd ⟨u1 ++ u2, []⟩) Q E s
theorem BindStar.of_eq {K : PySem.W.Frag} {fd : FuncData} {ps : List Str} {pv : Str} (h : ∀ u1 u2 : List Value, u1.length = ps.length → bindArgs fd ⟨u1 ++ u2, []⟩ = (newTuple u2 >>= fun t => pure (ps.zip u1 ++ [(pv, t)]))) : BindStar K fd ps [] [] pv := fun u1 u2 hl M A Q E s _ z => by
  rw [h u1 u2 hl]
  rw [List.append_nil, List.append_nil] at z
  exact z
/-- one keyword -/
theorem BindStar.of_kw {K : PySem.W.Frag} {fd : FuncData} {ps : List Str} {k1 pv : Str} {v : Value} {D : Addr} (hD : PySem.W.nsIn K D k1 = some (some v))
    (h : ∀ u1 u2 : List Value, u1.length = ps.length → ∃ (β γ : Type) (f1 : Option Value → Sem β) (f2 : β → Sem γ) (f3 : γ → Sem (List (Str × Value))) (a : β), bindArgs fd ⟨u1 ++ u2, []⟩ = ((nsGet D k1 >>= f1) >>= f2) >>= f3 ∧ f1 (some v) = pure a ∧
      (f2 a >>= f3) = (newTuple u2 >>= fun t => pure ((ps ++ [k1]).zip (u1 ++ [v]) ++ [(pv, t)]))) : BindStar K fd ps [k1] [v] pv := fun u1 u2 hl M A Q E s X z => by
  obtain ⟨β, γ, f1, f2, f3, a, e1, e2, e3⟩ := h u1 u2 hl
  rw [e1, bind_assoc, bind_assoc]
  refine wpAny_bind ((PySem.W.looks_nsIn X hD).here ?_)
  rw [e2, pure_bind, e3]
  exact z
section
variable {CX : CXT} {P : Program} {w : World} {K : PySem.W.Frag} {mg : Str → Option Value} {base : Heap} {k : Nat} {f cc D : Addr} {name qual : Str} {params : Arguments} {body : List Stmt} {sc : Scope} {dV kV doc pm cdv ct oc kc : Value} {an od dc : Option Addr}
  {osl lc : Array (Option Value)} {N ps ks : List Str} {sp : Sp} {pv : Str} {kvV : List V} {kv : List Value}
theorem bnd_star {fd : FuncData} {A : Around} {outer : List Env} {s : Shared} {H : Hp} {E : XK} {ws rest : List V} {us : List Value} (hCX : StX.CXUp CX) (hb : BindStar K fd ps ks kv pv) (hkv : Vals kvV kv) (hks : kv.length = ks.length) (e0 : Env0 P w K mg base A outer s H)
    (r : Vals (ws ++ rest) us) (hl : ws.length = ps.length) (hz : rest.length ≤ sizeLine) :
    StX.Bnd CX P w K mg base fd ⟨us, []⟩ (ps ++ ks ++ [pv]) A outer s H E (fun xs H2 => ∃ p, H p = none ∧ xs = ws ++ kvV ++ [V.ref p] ∧ H2 = upd H p (.tup rest)) := by
  intro A2 Ex Q2 h
  obtain ⟨u1, u2, eu, r1, r2⟩ := StX.vals_split r
  subst eu
  have hl1 : u1.length = ps.length := r1.length ▸ hl
  have hl2 : u2.length ≤ sizeLine := r2.length ▸ hz
  have hn : H s.heap.objs.size = none := e0.hok.fresh (Nat.le_refl _)
  refine hb u1 u2 hl1 _ _ _ _ _ (e0.mod.kin.keeps fun b o e => (e0.bs b o e).1) (wpAny_bind (wpAny_newTuple (wpAny_pure ?_) hl2))
  have new : ObjOk P w (upd H s.heap.objs.size (.tup rest)) (s.heap.push ({ cls := .type "tuple", data := .seq u2.toArray } : Obj)) s.heap.objs.size (.tup rest) := ⟨hz, u2, r2, _, Heap.get?_push_size _ rfl, rfl, _, rfl⟩
  have un := StX.un_laid (fs := frs outer) (s := s) (o := ({ cls := .type "tuple", data := .seq u2.toArray } : Obj)) (u := .tup rest) hn
  have z := h _ _ (ws ++ kvV ++ [V.ref s.heap.objs.size]) (u1 ++ kv ++ [Value.ref s.heap.objs.size]) (StX.env0_laid e0 new) un rfl (fun e s2 => hCX outer s H _ _ E e s2 un (fun b o q => Heap.get?_push_of_some _ q) rfl)
    ((r1.append hkv).append (.cons rfl .nil)) (by simp only [List.length_append, hl, hkv.length, hks, List.length_cons, List.length_nil]) ⟨_, hn, rfl, rfl⟩
  have q : (ps ++ ks).length = (u1 ++ kv).length := by rw [List.length_append, List.length_append, hl1, hks]
  rw [List.zip_append q] at z
  exact z
/-- the rule: a def with *pv that says super() -/
theorem fn_starS (lk : K.lookup f = some ⟨oc, od, .func (PySem.W.fnX name qual params body sc [(cls_, cc)] dV kV doc pm an cdv ct), osl⟩) (hcd : PySem.W.codeIn K cdv qual = true)
    (hcc : K.lookup cc = some ⟨kc, dc, .cell (some (.ref D)), lc⟩) (S : CScope N (ps ++ ks ++ [pv]) sc) (hCX : StX.CXUp CX) (hb : BindStar K (PySem.W.fnX name qual params body sc [(cls_, cc)] dV kV doc pm an cdv ct) ps ks kv pv) (hkv : Vals kvV kv) (hks : kv.length = ks.length)
    (hbody : ∀ (A : Around) (outer : List Env) (s : Shared) (H : Hp) (vs : List V) (Q : VK) (E : XK), Room k (A.deeper (envS qual sc s.heap.objs.size f cdv cc)) → sp vs H Q E →
      ∃ t, PX (cxS CX P w K mg base N qual sc f cdv cc A outer s H E) (.func body (envS qual sc s.heap.objs.size f cdv cc)) body t ∧ t { nx := fun _ H' => Q .non H', rt := Q } (L2.start N vs) H) :
    FnR P w K mg base CX (k + 1) f (fun vs H Q E => ∃ ws rest, vs = ws ++ rest ∧ ws.length = ps.length ∧ rest.length ≤ sizeLine ∧ ∀ p, H p = none → sp (ws ++ kvV ++ [V.ref p]) (upd H p (.tup rest)) Q E) := by
  intro A outer s H us vs Q E hr e0 r hsp
  obtain ⟨ws, rest, ev, hl, hz, hq⟩ := hsp
  subst ev
  refine run_bndS lk hcd hcc S hr e0 (bnd_star hCX hb hkv hks e0 r hl hz) fun s2 H2 xs ⟨p, hp, ex, eH⟩ hr2 => ?_
  subst ex eH
  exact hbody A outer s2 _ _ Q E hr2 (hq p hp)
/-- the same without super() -/
theorem fn_starP (lk : K.lookup f = some ⟨oc, od, .func (PySem.W.fnOf name qual params body sc dV kV doc pm an cdv ct), osl⟩) (hcd : PySem.W.codeIn K cdv qual = true)
    (S : FnScope N (ps ++ ks ++ [pv]) sc) (hCX : StX.CXUp CX) (hb : BindStar K (PySem.W.fnOf name qual params body sc dV kV doc pm an cdv ct) ps ks kv pv) (hkv : Vals kvV kv) (hks : kv.length = ks.length)
    (hbody : ∀ (A : Around) (outer : List Env) (s : Shared) (H : Hp) (vs : List V) (Q : VK) (E : XK), Room k (A.deeper (envOfC qual sc s.heap.objs.size f cdv)) → sp vs H Q E →
      ∃ t, PSs (cxOf CX P w K mg base N qual sc f cdv A outer s H E) body t ∧ t { nx := fun _ H' => Q .non H', rt := Q } (L2.start N vs) H) :
    FnR P w K mg base CX (k + 1) f (fun vs H Q E => ∃ ws rest, vs = ws ++ rest ∧ ws.length = ps.length ∧ rest.length ≤ sizeLine ∧ ∀ p, H p = none → sp (ws ++ kvV ++ [V.ref p]) (upd H p (.tup rest)) Q E) := by
  intro A outer s H us vs Q E hr e0 r hsp
  obtain ⟨ws, rest, ev, hl, hz, hq⟩ := hsp
  subst ev
  refine StX.run_bnd lk hcd S hr e0 (bnd_star hCX hb hkv hks e0 r hl hz) fun s2 H2 xs ⟨p, hp, ex, eH⟩ hr2 => ?_
  subst ex eH
  exact hbody A outer s2 _ _ Q E hr2 (hq p hp)
end
end WC

set_option maxHeartbeats 4000000
namespace WC
open PySem PySem.Spec PyProof.Rows L2
/-! calls: a def of the module by its name; a class by its name, or held by a local name; a function kept in a class -/
/-- the def that the module's name x holds keeps sp -/
structure DefR (P : Program) (w : World) (K : PySem.W.Frag) (mg : Str → Option Value) (base : Heap) (x : Str) (k : Nat) (sp : Sp) : Prop where
  ex : ∃ f, mg x = some (.ref f) ∧ PySem.W.keepIn K (.ref f) = true ∧ FnR P w K mg base (L2.CX P w) k f sp
/-- the class that stands at C is made by sp -/
structure ClsR (P : Program) (w : World) (K : PySem.W.Frag) (mg : Str → Option Value) (base : Heap) (C : Addr) (k : Nat) (sp : Sp) : Prop where
  ex : ∃ f, Mk K C f ∧ FnR P w K mg base (L2.CX P w) k f sp
def tCallR (sp : Sp) (E : XK) (t : TA) : TE := fun σ H Q => t σ H fun vs H1 => sp vs H1 Q E
def tMakeL (i : Nat) (C : Addr) (sp : Sp) (E : XK) (t : TA) : TE := fun σ H Q => σ[i]? = some (some (.ref C)) ∧ StX.tMakeR C sp E t σ H Q
section
variable {X : Cx} {j k i : Nat} {C : Addr} {sp : Sp} {E : XK} {x m : Str} {e o : Expr} {es : List Expr} {t : TA} {ta : TE} {p pos apos : Pos}
theorem pe_cd (D : DefR X.prog X.w X.K X.mg X.base x k sp) (hr : Room j X.A) (hx : Passes (L2.CX X.prog X.w) X E) (ha : PA X (e :: es) t) (hle : k ≤ j := by decide) (hg : Gl X x := by rfl) (hdb : (x == ("__debug__" : Str)) = false := by decide)
    (he : starEach (e :: es) X.env = (false, eval e X.env) :: starEach es X.env := by rfl) (hpl : (backTo pos (starEach es X.env)).any (·.1) = false := by rfl) : PE X (.Call (.Name x p) (e :: es) [] pos) (tCallR sp E t) := by
  obtain ⟨f, hm, hk, F⟩ := D.ex
  refine ⟨fun pins s σ H Q I h => wpAny_Call_Name_kw (ld_glob I hg hm ?_ hdb)⟩
  exact PySem.W.callWith_K (h₀ := X.base) I.ok.mod.kin hk (thn (ha.run pos pins s σ H _ I h) fun us s1 ⟨vs, H1, I1, r, q⟩ => ⟨I1.kIn, wpAny_call (run_fnR F (hr.mono hle) hx I1 r q)⟩) he hpl
theorem pe_cc (D : ClsR X.prog X.w X.K X.mg X.base C k sp) (hm : X.mg x = some (.ref C)) (hr : Room j X.A) (hx : Passes (L2.CX X.prog X.w) X E) (ha : PA X (e :: es) t) (hle : k + 1 ≤ j := by decide) (hg : Gl X x := by rfl) (hdb : (x == ("__debug__" : Str)) = false := by decide)
    (he : starEach (e :: es) X.env = (false, eval e X.env) :: starEach es X.env := by rfl) (hpl : (backTo pos (starEach es X.env)).any (·.1) = false := by rfl) : PE X (.Call (.Name x p) (e :: es) [] pos) (StX.tMakeR C sp E t) := by
  obtain ⟨f, M, F⟩ := D.ex
  exact StX.pe_makeR M F (hr.mono hle) hg hm hx ha hdb he hpl
/-- .. with *e among the arguments -/
theorem pe_ccs (D : ClsR X.prog X.w X.K X.mg X.base C k sp) (hm : X.mg x = some (.ref C)) (hr : Room j X.A) (hx : Passes (L2.CX X.prog X.w) X E) (ha : PA X (e :: es) t) (hle : k + 1 ≤ j := by decide) (hg : Gl X x := by rfl) (hdb : (x == ("__debug__" : Str)) = false := by decide)
    (he : starEach (e :: es) X.env = (false, eval e X.env) :: starEach es X.env := by rfl) (hst : (backTo pos (starEach es X.env)).any (·.1) = true := by rfl) : PE X (.Call (.Name x p) (e :: es) [] pos) (StX.tMakeR C sp E t) := by
  obtain ⟨f, M, F⟩ := D.ex
  refine ⟨fun pins s σ H Q I h => wpAny_Call_Name_kw (ld_glob I hg hm ?_ hdb)⟩
  exact PySem.W.callWith_S2 (h₀ := X.base) I.ok.mod.kin M.kp (thn (ha.run pos pins s σ H _ I h) fun us s1 ⟨vs, H1, I1, r, q⟩ => ⟨I1.kIn, StX.run_makeR M F (hr.mono hle) hx I1 r q⟩) he hst
/-- .. the class held by a local name -/
theorem pe_cls (D : ClsR X.prog X.w X.K X.mg X.base C k sp) (hN : X.N[i]? = some x) (hv : Vis X.env.scope x) (hr : Room j X.A) (hx : Passes (L2.CX X.prog X.w) X E) (ha : PA X (e :: es) t) (hle : k + 1 ≤ j := by decide) (hdb : (x == ("__debug__" : Str)) = false := by decide)
    (hcd : (x == ("__classdict__" : Str)) = false := by decide)
    (he : starEach (e :: es) X.env = (false, eval e X.env) :: starEach es X.env := by rfl) (hst : (backTo pos (starEach es X.env)).any (·.1) = true := by rfl) : PE X (.Call (.Name x p) (e :: es) [] pos) (tMakeL i C sp E t) := by
  obtain ⟨f, M, F⟩ := D.ex
  refine ⟨fun pins s σ H Q I h => ?_⟩
  obtain ⟨hs, ht⟩ := h
  refine wpAny_Call_Name_kw (thn ((pe_var (pos := p) hN hv hdb hcd).run pins s σ H (fun v H1 => v = .ref C ∧ H1 = H) I ⟨_, hs, rfl, rfl⟩) fun u s1 ⟨v, H1, I1, r1, ev, eH⟩ => ?_)
  subst ev eH
  cases r1
  exact PySem.W.callWith_S2 (h₀ := X.base) I.ok.mod.kin M.kp (thn (ha.run pos pins s1 σ _ _ I1 ht) fun us s2 ⟨vs, H2, I2, r, q⟩ => ⟨I2.kIn, StX.run_makeR M F (hr.mono hle) hx I2 r q⟩) he hst
/-- C.m is a staticmethod: its record at p, its def at g -/
structure SMet (K : PySem.W.Frag) (C : Addr) (mc : Value) (m : Str) (p g : Addr) : Prop where
  rd : PySem.W.readsIn K C mc = true
  ga : PySem.W.specialIn K (.ref C) "__getattribute__" = some (some (.builtin "type.__getattribute__"))
  at_ : PySem.W.findCls K (.ref C) mc m = some (.get (.builtin "staticmethod.__get__") (.ref p) .none (.ref C))
  rc : ∃ l, PySem.W.recIn K p "staticmethod" = some (.ref g :: l)
  kp : PySem.W.keepIn K (.ref g) = true
/-- the function that is kept as C.m keeps sp -/
structure StaR (P : Program) (w : World) (K : PySem.W.Frag) (mg : Str → Option Value) (base : Heap) (C : Addr) (m : Str) (k : Nat) (sp : Sp) : Prop where
  ex : ∃ mc p g, SMet K C mc m p g ∧ FnR P w K mg base (L2.CX P w) k g sp
def tSta (C : Addr) (sp : Sp) (E : XK) (ta : TE) (t : TA) : TE := fun σ H Q => ta σ H fun y H1 => y = .ref C ∧ t σ H1 fun vs H2 => sp vs H2 Q E
theorem pe_sta {pl : Sem Bool} (D : StaR X.prog X.w X.K X.mg X.base C m k sp) (ho : PE X o ta) (hr : Room j X.A) (hx : Passes (L2.CX X.prog X.w) X E) (ha : PA X (e :: es) t) (hle : k ≤ j := by decide)
    (hst : starEach (e :: es) X.env = (false, eval e X.env) :: starEach es X.env := by rfl) (hpl : (backTo pos (starEach es X.env)).any (·.1) = false := by rfl)
    (ht : eval (.Call (.Attribute o m apos) (e :: es) [] pos) X.env = (do
      let ov ← eval o X.env
      standAt apos.atName
      let (f, first) ← holding [ov] (getMethod ov m pl)
      callWith pos f first (backTo pos (starEach (e :: es) X.env)) (backToKw pos (keywordEach [] X.env))) := by rfl) : PE X (.Call (.Attribute o m apos) (e :: es) [] pos) (tSta C sp E ta t) := by
  obtain ⟨mc, p, g, S, F⟩ := D.ex
  obtain ⟨l, hl⟩ := S.rc
  refine ⟨fun pins s σ H Q I h => PySem.W.methodCall_KW (pl := pl) (thn (ho.run pins s σ H _ I h) fun u s1 ⟨y, H1, I1, ry, ey, q⟩ => ?_) ht⟩
  subst ey
  obtain rfl : u = Value.ref C := ry
  refine PySem.W.method_cls I1.kIn S.ga (PySem.W.cls_bind I1.kIn S.rd S.at_ (wpAny_call (PySem.W.sm_get (s := { s1 with toks := s1.toks + 1 }) I1.kIn hl (PySem.W.handed_on rfl ?_))))
  have I2 := I1.tok (s1.toks + 1)
  exact PySem.W.callWith_K (h₀ := X.base) I.ok.mod.kin S.kp (thn (ha.run pos pins _ σ H1 _ I2 q) fun us s2 ⟨vs, H2, I3, r, q2⟩ => ⟨I3.kIn, wpAny_call (run_fnR F (hr.mono hle) hx I3 r q2)⟩) hst hpl
end
/-- what leaves a def's body is what the def lets out -/
theorem psE {P : Program} {w : World} {K : PySem.W.Frag} {mg : Str → Option Value} {base : Heap} {N : List Str} {qual : Str} {sc : Scope} {f : Addr} {cd : Value} {A : Around} {outer : List Env} {s : Shared} {H : Hp} {E : XK} :
    Passes (L2.CX P w) (cxOf (L2.CX P w) P w K mg base N qual sc f cd A outer s H E) E := passes_call (takes_of rfl rfl rfl rfl) fun _ _ _ _ z => z
theorem psS {P : Program} {w : World} {K : PySem.W.Frag} {mg : Str → Option Value} {base : Heap} {N : List Str} {qual : Str} {sc : Scope} {f cc : Addr} {cd : Value} {A : Around} {outer : List Env} {s : Shared} {H : Hp} {E : XK} :
    Passes (L2.CX P w) (cxS (L2.CX P w) P w K mg base N qual sc f cd cc A outer s H E) E := passes_call (takes_of rfl rfl rfl rfl) fun _ _ _ _ z => z
end WC

set_option maxHeartbeats 4000000
namespace WC
open PySem PySem.Spec PyProof.Rows L2
/-! own exceptions with fields -/
/-- what __init__ keeps: the fields fl of its arguments -/
def spX (C : Addr) (n : Nat) (fl : List V → List (Str × V)) : Sp := fun vs H Q _ => ∃ (a : Addr) (ws : List V), vs = .ref a :: ws ∧ ws.length = n ∧ H a = some (exo a C none) ∧
  ∀ d, H d = none → d ≠ a → Q .non (upd (upd H d (exd d (fl ws))) a (exo a C (some d)))
structure ExcR (P : Program) (w : World) (K : PySem.W.Frag) (mg : Str → Option Value) (base : Heap) (x : Str) (C : Addr) (k n : Nat) (fl : List V → List (Str × V)) : Prop where
  txt : OexC K C
  gC : mg x = some (.ref C)
  ini : ∃ f fd ps, PySem.W.findIn K (.ref C) "__init__" = some (some (.ref f)) ∧ PySem.W.typeIn K (.ref f) = some (.type "function") ∧ Binds K fd ps [] ∧ FnOk P w K mg base (L2.CX P w) k f fd ps (spX C n fl)
section
variable {X : Cx} {x : Str} {C : Addr} {k j n : Nat} {fl : List V → List (Str × V)} {e : Expr} {es : List Expr} {ta : TA} {p pos : Pos}
theorem pmk_x (T : ExcR X.prog X.w X.K X.mg X.base x C k n fl) (hr : Room j X.A) (ha : PA X (e :: es) ta) (hle : k + 1 ≤ j := by decide) (hg : Gl X x := by rfl) (hdb : (x == ("__debug__" : Str)) = false := by decide)
    (he : starEach (e :: es) X.env = (false, eval e X.env) :: starEach es X.env := by rfl) (hpl : (backTo pos (starEach es X.env)).any (·.1) = false := by rfl) : PMk X (.Call (.Name x p) (e :: es) [] pos) (tMkO C (spX C n fl) [] ta) := by
  obtain ⟨f, fd, ps, i1, i2, i3, F⟩ := T.ini
  exact pmk_oex (dvs := []) (ds := []) T.txt i1 i2 F (hr.mono hle) i3 .nil passL hg T.gC ha hdb he hpl
end
theorem heap_x {H : Hp} {a d : Addr} {u v w : HO} (ha : H a = none) (hd : d ≠ a) : upd (del (upd (upd (upd H a u) d v) a w) a) d v = upd H d v := by
  funext b
  by_cases e : b = d
  · rw [e, upd_same, upd_same]
  · rw [upd_ne e, upd_ne e]
    by_cases e2 : b = a
    · rw [e2, del_same, ha]
    · rw [del_ne e2, upd_ne e2, upd_ne e, upd_ne e2]
/-- the making: its arguments are as many as the fields want; d is the error's own dict, new -/
theorem x_use {H1 : Hp} {C : Addr} {n : Nat} {fl : List V → List (Str × V)} {vs : List V} {Q : XK} (hl : vs.length = n) (hn : n ≤ 1000) (h : ∀ d, H1 d = none → Q (.ref C) (some d) (upd H1 d (.xd (fl vs)))) :
    vs.length ≤ 1000 ∧ ∀ a, H1 a = none → spX C n fl (.ref a :: (vs ++ [])) (upd H1 a (exo a C none)) (fun v H2 => v = .non ∧ ∃ (d : Addr) (fs : List (Str × V)), H2 a = some (exo a C (some d)) ∧ H2 d = some (exd d fs) ∧ H1 d = none ∧ Q (.ref C) (some d) (upd (del H2 a) d (.xd fs))) (fun _ _ _ => False) := by
  refine ⟨by omega, fun a ha => ⟨a, vs, by rw [List.append_nil], hl, upd_same, fun d hd hne => ⟨rfl, d, fl vs, upd_same, by rw [upd_ne hne, upd_same], ?_, ?_⟩⟩⟩
  · rw [upd_ne hne] at hd
    exact hd
  · rw [upd_ne hne] at hd
    have q : upd (del (upd (upd (upd H1 a (exo a C none)) d (exd d (fl vs))) a (exo a C (some d))) a) d (.xd (fl vs)) = upd H1 d (.xd (fl vs)) := by
      funext b
      by_cases e : b = d
      · rw [e, upd_same, upd_same]
      · rw [upd_ne e, upd_ne e]
        by_cases e2 : b = a
        · rw [e2, del_same, ha]
        · rw [del_ne e2, upd_ne e2, upd_ne e, upd_ne e2]
    rw [q]
    exact h d hd
end WC

set_option maxHeartbeats 4000000
namespace WC
open PySem PySem.Spec PyProof.Rows L2
/-! enumerate(t), t a tuple -/
set_option maxHeartbeats 1000000 in
theorem new_enum {v : Value} {o : Obj} {Hh : Heap → Prop} (B : Begins v o Hh) :
    Meets (Builtin.«enumerate.__new__» ⟨[.type "enumerate", v], []⟩) (fun _ R s => Hh s.heap ∧
      R (.ok (.ret (.ref (s.heap.push o).objs.size))) { s with heap := (s.heap.push o).push { cls := .type "enumerate", data := .fields #[.none, .bool false, .ref s.heap.objs.size, rawInt 0, .none, .none] } }) :=
  .of_wp fun prog w A R s h => by
    obtain ⟨hp, g, d, tk, os⟩ := s
    obtain ⟨h1, h⟩ := h
    have hsub := sub_enumerate
    have q1 : ∀ {A2 : Around} {E : Value → Shared → Prop} {Q : Value → Shared → Prop}, Q (.ref hp.objs.size) ⟨hp.push o, g, d, tk, os⟩ → wpAny (model prog w) A2 (pyIter v) Q E ⟨hp, g, d, tk, os⟩ := fun q => B.iter prog w _ _ ⟨hp, g, d, tk, os⟩ _ h1 q
    wp_walk using q1
    refine wpAny_stack_any fun st => wpAny_pure ?_
    split
    · rename_i c _ _ _ _ _
      cases (c == Value.type "enumerate") <;> (wp_walk using q1; exact ⟨_, rfl, h⟩)
    · wp_walk using q1
      exact ⟨_, rfl, h⟩
section
variable {prog : Program} {w : World} {A : Around} {E : Value → Shared → Prop} {s : Shared}
theorem enum1_begins {v : Value} {o : Obj} {Hh : Heap → Prop} {Q : Value → Shared → Prop} (B : Begins v o Hh) (h1 : Hh s.heap)
    (h : ∀ h2, IsEnum h2 (s.heap.objs.size + 1) s.heap.objs.size 0 .none → h2.get? s.heap.objs.size = some o → (∀ b u, s.heap.get? b = some u → h2.get? b = some u) → Q (.ref (s.heap.objs.size + 1)) { s with heap := h2 }) :
    wpAny (model prog w) A (call (.type "enumerate") [v]) Q E s := by
  refine callType_new F.called_enumerate (by decide) (F.typeCall_enumerate_1 _) (F.newCall_enumerate_1 _) (fun obj => F.args_object_init_2 obj _) F.entry_enumerate_new (new_enum B) ⟨h1, ?_⟩
  have hz : (s.heap.push o).objs.size = s.heap.objs.size + 1 := Heap.size_push ..
  show _ ∧ _
  rw [hz]
  have he : IsEnum ((s.heap.push o).push { cls := .type "enumerate", data := .fields #[.none, .bool false, .ref s.heap.objs.size, rawInt 0, .none, .none] }) (s.heap.objs.size + 1) s.heap.objs.size 0 .none := by
    have z := Heap.get?_push_size (s.heap.push o) (o := { cls := .type "enumerate", data := .fields #[.none, .bool false, .ref s.heap.objs.size, rawInt 0, .none, .none] }) rfl
    rw [hz] at z
    exact z
  exact ⟨⟨_, he, rfl⟩, h _ he (Heap.get?_push_of_some _ (Heap.get?_push_size _ B.free)) fun b u x => Heap.get?_push_of_some _ (Heap.get?_push_of_some _ x)⟩
end
def ItT (K : PySem.W.Frag) (a : Addr) : It :=
  { go := fun i H => ∃ (xs : List V) (x : V), SqT K H a xs ∧ xs[i]? = some x
    yld := fun i H v H2 => ∃ T x, v = .ref T ∧ H T = none ∧ H2 = upd H T (.tup [.int (i : Nat), x]) ∧ ∀ xs, SqT K H a xs → xs[i]? = some x
    stop := fun i H => ∃ xs : List V, SqT K H a xs ∧ xs.length ≤ i }
theorem turn_et {P : Program} {w : World} {K : PySem.W.Frag} {elts : List Expr} {kk : Nat} {tpos : Pos} (a e it : Addr) :
    Turn P w K (.Tuple elts kk tpos) (ItT K a) [e, it] e (fun i h => (∃ old, IsEnum h e it ((i : Nat) : Int) old) ∧ h.IsTupleIter it a i ∧ e ≠ it) where
  mem := by simp
  obj := fun i h st b hb => by
    obtain ⟨⟨old, he⟩, ⟨o, ho, hc, hd⟩, _⟩ := st
    have q : b = e ∨ b = it := by simpa using hb
    rcases q with z | z
    · refine ⟨_, z ▸ he, fun v q => ?_⟩
      have q : Data.fields _ = Data.cell v := q
      cases q
    · exact ⟨o, z ▸ ho, fun v q => by rw [hd] at q; cases q⟩
  keep := fun i h h2 st k => by
    obtain ⟨⟨old, he⟩, st2, st3⟩ := st
    exact ⟨⟨old, k e (by simp) _ he⟩, st2.at fun o q => k it (by simp) o q, st3⟩
  item := by
    intro X hP hw hK hc i pins s σ H E I hf st hg
    subst hP hw hK
    obtain ⟨⟨old, he⟩, hit, hne⟩ := st
    obtain ⟨xs, x, hq, hx⟩ := hg
    obtain ⟨its, rv, pt, hz⟩ := I.tuple hq
    have pt : s.heap.IsTuple a its.toArray := pt
    have hel : e < s.heap.objs.size := Heap.lt_size he
    have hil : it < s.heap.objs.size := by obtain ⟨_, q, _⟩ := hit; exact Heap.lt_size q
    have nai : a ≠ it := fun z => by
      obtain ⟨o1, q1, c1, _⟩ := pt
      obtain ⟨o2, q2, c2, _⟩ := hit
      rw [z, q2] at q1
      cases q1
      rw [c1] at c2
      injection c2 with c2
      exact absurd c2 (by decide)
    have nae : e ≠ a := fun z => by
      obtain ⟨o1, q1, c1, _⟩ := pt
      have he : s.heap.get? e = some _ := he
      rw [← z, he] at q1
      cases q1
      injection c1 with c1
      exact absurd c1 (by decide)
    have hlt : i < its.toArray.size := by
      have := (List.getElem?_eq_some_iff.mp hx).1
      rw [rv.length] at this
      simpa using this
    refine wpAny_pyNext_enum_itemD (Draws.tuple (A := X.A.in1) (I.ok.hd hc) it a nai its.toArray) he ⟨hit, pt⟩ hlt hne (by simp [nae, hne]) fun u h2 tk hu ho hst hT hsz hk => ?_
    have hu2 : its[i]? = some u := by simpa using hu
    obtain ⟨u2, hu3, ru⟩ := rv.get hx
    rw [hu2] at hu3
    cases hu3
    refine ⟨_, rfl, wpAny_letOwnedTupleGo_enum (s := { s with heap := h2, toks := tk + 1 }) ho fun h3 he3 sb => ?_⟩
    have hT2 : h3.get? s.heap.objs.size = some { cls := .type "tuple", data := .seq #[.int i tk, u] } := (sb.2 _ (Nat.ne_of_gt hel)).trans hT
    have new : ObjOk X.prog X.w (upd H s.heap.objs.size (.tup [.int (i : Nat), x])) h3 s.heap.objs.size (.tup [.int (i : Nat), x]) := ⟨by show 2 ≤ sizeLine; decide, [.int i tk, u], .cons ⟨_, rfl⟩ (.cons ru .nil), ⟨_, hT2, rfl, _, rfl⟩⟩
    have I1 : Inv X pins σ (upd H s.heap.objs.size (.tup [.int (i : Nat), x])) { s with heap := h3, toks := tk + 1 } :=
      I.turnedNew (ch := [e, it]) (fun b ob hb q => (sb.2 b (fun z => hb (by simp [z]))).trans (hk b ob (fun z => hb (by simp [z])) (fun z => hb (by simp [z])) q)) hf (Nat.le_refl _) new
    refine ⟨.ref s.heap.objs.size, _, I1, rfl, ⟨_, x, rfl, I.hok.fresh (Nat.le_refl _), rfl, fun ys hy => by rw [I.tuple_inj hy hq]; exact hx⟩, ⟨⟨u, ?_⟩, hst.1.at fun o q => (sb.2 it (Ne.symm hne)).trans q, hne⟩, fun b hb => ?_⟩
    · have e1 : ((i + 1 : Nat) : Int) = (i : Int) + 1 := by omega
      rw [e1]
      exact he3
    · have q : b = e ∨ b = it := by simpa using hb
      have hb2 : b < s.heap.objs.size := by rcases q with z | z <;> rw [z] <;> assumption
      rw [upd_ne (Nat.ne_of_lt hb2)]
      exact (hf b hb).1
  done := by
    intro X hP hw hK hc i pins s σ H E I hf st hg
    subst hP hw hK
    obtain ⟨⟨old, he⟩, hit, hne⟩ := st
    obtain ⟨xs, hq, hx⟩ := hg
    obtain ⟨its, rv, pt, hz⟩ := I.tuple hq
    have pt : s.heap.IsTuple a its.toArray := pt
    obtain ⟨f0, f1, f2, f3, f4, f5⟩ := hf it (by simp)
    have nai : a ≠ it := fun z => by
      obtain ⟨o1, q1, c1, _⟩ := pt
      obtain ⟨o2, q2, c2, _⟩ := hit
      rw [z, q2] at q1
      cases q1
      rw [c1] at c2
      injection c2 with c2
      exact absurd c2 (by decide)
    have hl := rv.length
    have D := Draws.tuple (prog := X.prog) (w := X.w) (A := X.A.in1) (I.ok.hd hc) it a nai its.toArray
    have hn : its.toArray.size ≤ i := by simp; omega
    unfold pyNext
    refine wpAny_bind (wpAny_attempt (wpAny_callSpecial?_slot (name := Str.ofString "__next__") ⟨_, he, rfl⟩ F.slot_enumerate_next (wpAny_call_entry F.slot_enumerate_next ⟨_, he, rfl⟩ F.entry_enumerate_next ?_ (F.args_enumerate_next_1 _))))
    show wpAny _ _ (field (.ref e) 2 >>= _) _ _ _
    refine wpAny_bind (wpAny_field he rfl (x := .ref it) rfl ?_)
    refine wpAny_bind (wpAny_nextOf_tuple_end (show X.A.in1.handled = none from I.ok.hd hc) hit pt (by simp; omega) fun h2 x q1 q2 => ?_)
    obtain ⟨o, ho, hcl⟩ := q2
    refine wpAny_bind (wpAny_isInstance (T := "StopIteration") (b := true) ⟨o, ho, hcl⟩ isSubtype_stop ?_)
    exact wpAny_pure ⟨rfl, I.turned (t' := s.toks) (fun b o hb q => q1 b o hb q) f0 f1 f3 f4 f5⟩
  self := fun A i s Q E st h => let ⟨⟨_, he⟩, _⟩ := st; wpAny_pyIter_enum he h
def iET (K : PySem.W.Frag) (ta : TA) : TI := fun σ H R => ta σ H fun vs H1 => ∃ a xs, vs = [.ref a] ∧ SqT K H1 a xs ∧ R (ItT K a) H1
theorem pi_et {X : Cx} {e : Expr} {ta : TA} {p pos tpos : Pos} {elts : List Expr} {kk : Nat} (hm : X.mg "enumerate" = none) (ha : PA X [e] ta) (hg : Gl X "enumerate" := by rfl) (hs : starEach [e] X.env = [(false, eval e X.env)] := by rfl) :
    PI X (.Tuple elts kk tpos) (.Call (.Name "enumerate" p) [e] [] pos) (iET X.K ta) := by
  refine ⟨fun pins s σ H R I h => Call_ (ld_blt I hg hm boot_enumerate (PyProof.Rows.callWith_type1 (thn (ha.run pos pins s σ H _ I h) fun us s1 ⟨vs, H1, I1, r1, a, xs, ex, hq, q⟩ => ?_) hs rfl))⟩
  subst ex
  cases r1 with
  | cons r rr =>
    cases rr
    cases r
    obtain ⟨its, rv, pt, hz⟩ := I1.tuple hq
    have pt : s1.heap.IsTuple a its.toArray := pt
    refine enum1_begins (begins_tuple a its.toArray) pt fun h2 he hit hk => wpAny_pyIter_enum he ?_
    have I2 : Inv X pins σ H1 { s1 with heap := h2 } := I1.kept (t' := s1.toks) hk
    refine ⟨s1.heap.objs.size + 1, [s1.heap.objs.size + 1, s1.heap.objs.size], _, _, H1, rfl, I2, turn_et a (s1.heap.objs.size + 1) s1.heap.objs.size, ⟨⟨.none, he⟩, ⟨_, hit, rfl, rfl⟩, Nat.succ_ne_self _⟩, fun b hb => ?_, q⟩
    have q : b = s1.heap.objs.size + 1 ∨ b = s1.heap.objs.size := by simpa using hb
    have hle : s1.heap.objs.size ≤ b := by rcases q with z | z <;> rw [z] <;> first | exact Nat.le_add_right _ _ | exact Nat.le_refl _
    exact I1.fpOk hle (I1.hok.fresh hle)
theorem walk_et {K : PySem.W.Frag} {a : Addr} {xs : List V} : Walk (ItT K a) xs.length (fun H => SqT K H a xs) (YPair (fun i => some (.int (i : Nat))) (fun i => xs[i]?)) := by
  refine ⟨fun i _ hi q => ⟨xs, xs[i], q, by simp [hi]⟩, fun _ q => ⟨xs, q, Nat.le_refl _⟩, fun i H v H2 _ q y => ?_⟩
  obtain ⟨T, x, h1, h2, h3, h4⟩ := y
  exact ⟨T, .int (i : Nat), x, h1, h2, h3, rfl, h4 xs q⟩
end WC

set_option maxHeartbeats 4000000
namespace WC
open PySem PySem.Spec PyProof.Rows L2
/-! data -/
theorem pr_at {α β : Type} {F : α → β → Prop} : ∀ {l : List α} {r : List β}, Paired F l r → ∀ {i : Nat} {b : β}, r[i]? = some b → ∃ a, l[i]? = some a ∧ F a b
  | _, _, .nil, i, b, h => by simp at h
  | _, _, .cons p q, 0, b, h => by
    have e := Option.some.inj h
    subst e
    exact ⟨_, rfl, p⟩
  | _, _, .cons p q, i + 1, b, h => pr_at (i := i) q (by simpa using h)
theorem pr_to {α β : Type} {F : α → β → Prop} : ∀ {l : List α} {r : List β}, Paired F l r → ∀ {i : Nat} {a : α}, l[i]? = some a → ∃ b, r[i]? = some b ∧ F a b
  | _, _, .nil, i, b, h => by simp at h
  | _, _, .cons p q, 0, b, h => by
    have e := Option.some.inj h
    subst e
    exact ⟨_, rfl, p⟩
  | _, _, .cons p q, i + 1, b, h => pr_to (i := i) q (by simpa using h)
theorem pr_snoc {α β : Type} {F : α → β → Prop} : ∀ {l : List α} {r : List β} {a : α} {b : β}, Paired F l r → F a b → Paired F (l ++ [a]) (r ++ [b])
  | _, _, _, _, .nil, h => .cons h .nil
  | _, _, _, _, .cons p q, h => .cons p (pr_snoc q h)
theorem take_snoc {α : Type} : ∀ {l : List α} {i : Nat} {x : α}, l[i]? = some x → l.take (i + 1) = l.take i ++ [x]
  | [], _, _, h => by simp at h
  | a :: l, 0, x, h => by
    have e := Option.some.inj h
    subst e
    rfl
  | a :: l, i + 1, x, h => by
    have q := take_snoc (l := l) (i := i) (x := x) (by simpa using h)
    show a :: l.take (i + 1) = a :: l.take i ++ [x]
    rw [q]
    rfl
/-- a channel, a tuple of three ints -/
abbrev Tri := Int × Int × Int
def TriA (H : Hp) (c : Tri) (v : V) : Prop := ∃ t, v = .ref t ∧ H t = some (.tup [.int c.1, .int c.2.1, .int c.2.2])
theorem TriA.same {H H2 : Hp} {c : Tri} {v : V} (s : Same H H2) (h : TriA H c v) : TriA H2 c v := let ⟨t, e, q⟩ := h; ⟨t, e, s _ _ q⟩
theorem tris_same {H H2 : Hp} {cs : List Tri} {vs : List V} (s : Same H H2) (h : Paired (TriA H) cs vs) : Paired (TriA H2) cs vs := Paired.mapP h fun _ _ z => z.same s
/-- the places where es has j, below m -/
def occ (es : List Int) (j : Int) (m : Nat) : List Int := ((List.range m).filter fun k => decide (es[k]? = some j)).map fun (k : Nat) => (k : Int)
theorem occ_zero (es : List Int) (j : Int) : occ es j 0 = [] := rfl
theorem occ_hit {es : List Int} {j : Int} {m : Nat} (h : es[m]? = some j) : occ es j (m + 1) = occ es j m ++ [(m : Int)] := by
  unfold occ
  rw [List.range_succ, List.filter_append, List.map_append]
  congr 1
  simp [h]
theorem occ_miss {es : List Int} {j e : Int} {m : Nat} (h : es[m]? = some e) (ne : e ≠ j) : occ es j (m + 1) = occ es j m := by
  unfold occ
  rw [List.range_succ, List.filter_append, List.map_append]
  simp [h, ne]
theorem occ_len (es : List Int) (j : Int) (m : Nat) : (occ es j m).length ≤ m := by
  unfold occ
  rw [List.length_map]
  exact Nat.le_trans (List.length_filter_le _ _) (by simp)
/-- at r: a tuple of n tuples, the j-th one the places of j in es -/
def RowsA (H : Hp) (r : Addr) (n : Nat) (es : List Int) : Prop := ∃ ts : List V, H r = some (.tup ts) ∧ ts.length = n ∧ ∀ (j : Nat) v, ts[j]? = some v → ∃ t, v = .ref t ∧ H t = some (.tup ((occ es (j : Int) es.length).map V.int))
theorem RowsA.same {H H2 : Hp} {r : Addr} {n : Nat} {es : List Int} (s : Same H H2) (h : RowsA H r n es) : RowsA H2 r n es := by
  obtain ⟨ts, h1, h2, h3⟩ := h
  exact ⟨ts, s _ _ h1, h2, fun j v e => let ⟨t, e1, e2⟩ := h3 j v e; ⟨t, e1, s _ _ e2⟩⟩
theorem _root_.L2.Same.new {H : Hp} {p : Addr} {o : HO} (h : H p = none) : Same H (upd H p o) := fun a u e => by
  rw [upd_ne (ne_of_none e h)]
  exact e
theorem _root_.L2.Same.newer {H H1 : Hp} {p : Addr} {o : HO} (s : Same H H1) (h : H p = none) : Same H (upd H1 p o) := fun a u e => by
  rw [upd_ne (ne_of_none e h)]
  exact s _ _ e
theorem line_of {n : Nat} (h : n ≤ 100000) : n ≤ sizeLine := Nat.le_trans h (by decide)
theorem line_lt {n : Nat} (h : n < 100000) : n < sizeLine := Nat.lt_of_lt_of_le h (by decide)
end WC
namespace WC
open PySem PySem.Spec PyProof.Rows L2
theorem bt_tuple : bootBuiltins "tuple" = some (.type "tuple") := by decide +kernel
theorem bt_list : bootBuiltins "list" = some (.type "list") := by decide +kernel
theorem bt_int : bootBuiltins "int" = some (.type "int") := by decide +kernel
theorem bt_str : bootBuiltins "str" = some (.type "str") := by decide +kernel
theorem bt_isi : bootBuiltins "isinstance" = some (.builtin "isinstance") := by decide +kernel
theorem bt_len : bootBuiltins "len" = some (.builtin "len") := by decide +kernel
theorem bt_sorted : bootBuiltins "sorted" = some (.builtin "sorted") := by decide +kernel
theorem bt_sum : bootBuiltins "sum" = some (.builtin "sum") := by decide +kernel
theorem bt_all : bootBuiltins "all" = some (.builtin "all") := by decide +kernel
theorem bt_max : bootBuiltins "max" = some (.builtin "max") := by decide +kernel
theorem bt_min : bootBuiltins "min" = some (.builtin "min") := by decide +kernel
/-- readings that name the written part (within a comprehension's block) -/
def rTupOf (K : PySem.W.Frag) : List V → Hp → VK → Prop := fun xs H Q => ∃ p ys, xs = [.ref p] ∧ ((SqL K H p ys ∧ ∀ l, H l = none → Q (.ref l) (upd H l (.tup ys))) ∨ (SqT K H p ys ∧ Q (.ref p) H))
theorem c_tup {X : Cx} {K : PySem.W.Frag} (h : X.K = K := by rfl) : CallR X (.type "tuple") (rTupOf K) := by
  subst h
  exact call_tuple_of
theorem i_tup {X : Cx} {K : PySem.W.Frag} (h : X.K = K := by rfl) : IxR X (rIxT K) := by
  subst h
  exact ix_tup
theorem i_lst {X : Cx} {K : PySem.W.Frag} (h : X.K = K := by rfl) : IxR X (rIxL K) := by
  subst h
  exact ix_list
end WC
namespace WC
open PySem PySem.Spec PyProof.Rows L2
theorem yes {σ : L2.St} {H : Hp} {A B : Bool → Hp → Prop} (h : A true H) : tYes σ H (fun b H3 => if b = true then A b H3 else B b H3) := by
  show (if true = true then A true H else B true H)
  rw [if_pos rfl]
  exact h
end WC
namespace WC
open PySem PySem.Spec PyProof.Rows L2
/-- [c[j] for c in t], t a tuple of channels -/
theorem comp_sel {K : PySem.W.Frag} {wi : TI} {H : Hp} {σ : L2.St} {tc : Addr} {cs : List Tri} {vs : List V} {s : Nat} {j : Int} {Q : VK} (g : Tri → Int) (hg : ∀ c : Tri, atI [V.int c.1, V.int c.2.1, V.int c.2.2] j = some (V.int (g c))) (hw : ∀ R : It → Hp → Prop, R (Itt K tc) H → wi σ H R)
    (h1 : H tc = some (.tup vs)) (hp : Paired (TriA H) cs vs) (hlen : cs.length ≤ 1000) (hs1 : ∀ v, wipe ((wipe σ [s]).set s (some v)) [s] = wipe σ [s]) (hs2 : ∀ v, ((wipe σ [s]).set s (some v))[s]? = some (some v))
    (k : ∀ D H2, Same H H2 → H D = none → H2 D = some (.lst ((cs.map g).map V.int)) → Q (.ref D) H2) : tLc wi (gName s) tYes (tOp (rIxT K) (tVar s) (tC (.int j))) [s] σ H Q := by
  refine hw _ fun D hD => lc_tup (K := K) (a := tc) (xs := vs) (fun i H2 => Same H H2 ∧ H2 D = some (.lst (((cs.take i).map g).map V.int))) ⟨Same.new hD, by rw [upd_same]; rfl⟩ (fun i H2 _ q => SqT.of (q.1 _ _ h1)) ?_ ?_
  · rintro i x H2 hx ⟨s2, hd⟩
    obtain ⟨c, hc, t, rfl, ht⟩ := pr_at hp hx
    have hi : i < cs.length := (List.getElem?_eq_some_iff.mp hc).1
    refine ⟨hs1 _, yes ⟨_, hs2 _, t, _, _, _, rfl, rfl, SqT.of (s2 _ _ ht), hg c, _, hd, ?_, Same.newer s2 hD, ?_⟩⟩
    · rw [List.length_map, List.length_map, List.length_take]
      exact line_lt (by omega)
    · rw [upd_same, take_snoc hc, List.map_append, List.map_append]
      rfl
  · rintro H2 ⟨s2, hd⟩
    rw [← hp.length, List.take_length] at hd
    exact k D H2 s2 hD hd
end WC

set_option maxHeartbeats 4000000
namespace WC
open PySem PySem.Spec PyProof.Rows L2
/-- {k: v for .. in a list that stays} -/
theorem dc_lst {K : PySem.W.Frag} {a : Addr} {xs : List V} {g : TG} {tt : TT} {tk tv : TE} {vs : List Nat} {σ : L2.St} {H1 : Hp} {D : Addr} {Qd : Hp → Prop} (Pv : Nat → Hp → Prop) (h0 : Pv 0 (upd H1 D (.dK []))) (hl : ∀ i H, i ≤ xs.length → Pv i H → SqL K H a xs)
    (hs : ∀ i x H, xs[i]? = some x → Pv i H → g x (wipe σ vs) H fun s2 H2 => wipe s2 vs = wipe σ vs ∧ tt s2 H2 fun b H3 =>
      if b = true then tk s2 H3 fun y H4 => tv s2 H4 fun z H5 => ∃ kvs k, y = kV k ∧ H5 D = some (.dK kvs) ∧ kvs.length < sizeLine ∧ Pv (i + 1) (upd H5 D (.dK (putK kvs k z))) else Pv (i + 1) H3) (hd : ∀ H, Pv xs.length H → Qd H) :
    ∃ W : Nat → Nat → Hp → Prop, (∃ m, W 0 m (upd H1 D (.dK []))) ∧ ∀ i m H, W i m H →
      ((Itl K a).stop i H ∧ Qd H) ∨ ((Itl K a).go i H ∧ ∃ Nx : Hp → Prop, (∀ H2, Nx H2 → ∃ m2, m2 < m ∧ W (i + 1) m2 H2) ∧ ∀ x H2, (Itl K a).yld i H x H2 → g x (wipe σ vs) H2 fun s2 H3 => wipe s2 vs = wipe σ vs ∧ tt s2 H3 fun b H4 =>
        if b = true then tk s2 H4 fun y H5 => tv s2 H5 fun z H6 => ∃ kvs k, y = kV k ∧ H6 D = some (.dK kvs) ∧ kvs.length < sizeLine ∧ Nx (upd H6 D (.dK (putK kvs k z))) else Nx H4) := by
  have w : Walk (Itl K a) xs.length (fun H => SqL K H a xs) (YAt xs) := walk_list
  refine ⟨fun i m H => m = xs.length - i ∧ i ≤ xs.length ∧ Pv i H, ⟨_, rfl, Nat.zero_le _, h0⟩, fun i m H ⟨em, hi, p⟩ => ?_⟩
  have q := hl i H hi p
  rcases Nat.lt_or_ge i xs.length with hlt | hge
  · refine .inr ⟨w.goes i H hlt q, Pv (i + 1), fun H2 p2 => ⟨xs.length - (i + 1), by omega, rfl, hlt, p2⟩, fun x H2 y => ?_⟩
    obtain ⟨e, y2⟩ := w.yields i H x H2 hlt q y
    subst e
    exact hs i x _ y2 p
  · have e : i = xs.length := by omega
    subst e
    exact .inl ⟨w.stops H q, hd H p⟩
/-- (a, b, ..) as a target within a comprehension's block -/
theorem pg_tupK {X : Cx} {K : PySem.W.Frag} {es : List Expr} {k n : Nat} {pos : Pos} {t : TGs} (hc : X.calm = true) (h : PGs X es t) (hK : X.K = K := by rfl) (hn : (assignEach es X.env).length = n := by rfl) (hst : (assignEach es X.env).findIdx? (·.1) = none := by rfl) :
    PG X (.Tuple es k pos) (gTup K n t) := by
  subst hK
  exact pg_tup hc h hn hst
theorem pk_len {κ : Type} [DecidableEq κ] (c : List (κ × V)) (k : κ) (x : V) : (putK c k x).length ≤ c.length + 1 := by
  unfold putK
  split
  · rw [List.length_map]
    omega
  · rw [List.length_append]
    exact Nat.le_refl _
/-- no circle: the stages can be ranked -/
def Acyc (cs : List Tri) : Prop := ∃ r : Int → Nat, ∀ c ∈ cs, r c.1 < r c.2.1
theorem least_of {α : Type} (f : α → Nat) : ∀ {l : List α}, l ≠ [] → ∃ a ∈ l, ∀ b ∈ l, f a ≤ f b
  | [a], _ => ⟨a, by simp, fun b hb => by simp at hb; rw [hb]; exact Nat.le_refl _⟩
  | a :: b :: l, _ => by
    obtain ⟨c, hc, h⟩ := least_of f (l := b :: l) (by simp)
    by_cases q : f a ≤ f c
    · refine ⟨a, by simp, fun d hd => ?_⟩
      rcases List.mem_cons.mp hd with e | hd
      · rw [e]; exact Nat.le_refl _
      · exact Nat.le_trans q (h d hd)
    · refine ⟨c, List.mem_cons_of_mem _ hc, fun d hd => ?_⟩
      rcases List.mem_cons.mp hd with e | hd
      · rw [e]; omega
      · exact h d hd
theorem Acyc.first {cs : List Tri} (h : Acyc cs) (ne : cs ≠ []) : ∃ c ∈ cs, ∀ d ∈ cs, d.2.1 ≠ c.1 := by
  obtain ⟨r, hr⟩ := h
  obtain ⟨c, hc, hm⟩ := least_of (fun c : Tri => r c.1) ne
  refine ⟨c, hc, fun d hd e => ?_⟩
  have h1 := hr d hd
  have h2 := hm d hd
  have h2 : r c.1 ≤ r d.1 := h2
  rw [e] at h1
  omega
theorem Acyc.sub {cs ds : List Tri} (h : Acyc cs) (s : ∀ c ∈ ds, c ∈ cs) : Acyc ds := let ⟨r, hr⟩ := h; ⟨r, fun c hc => hr c (s c hc)⟩
end WC

set_option maxHeartbeats 4000000
namespace WC
open PySem PySem.Spec PyProof.Rows L2
/-- a method that says super(), as the written part has it: its cell at cc holds the class at D -/
structure SFun (P : Program) (K : PySem.W.Frag) (x qual : Str) (st : Stmt) (f cc D : Addr) (kV : Value) : Prop where
  ex : ∃ (oc : Value) (od : Option Addr) (doc pm : Value) (an : Option Addr) (cda : Addr) (ct : Value) (osl : Array (Option Value)) (kc : Value) (dc : Option Addr) (lc : Array (Option Value)) (oc1 : Value) (oc2 : Option Addr) (vs : Array Value) (oc3 : Array (Option Value)) (file : Str) (tf : Tok),
    K.lookup f = some ⟨oc, od, .func (PySem.W.fnX x qual (defArgs st) (defBody st) (defScope st) [(cls_, cc)] .none kV doc pm an (.ref cda) ct), osl⟩ ∧ PySem.W.codeIn K (.ref cda) qual = true ∧ K.lookup cc = some ⟨kc, dc, .cell (some (.ref D)), lc⟩ ∧
    K.lookup cda = some ⟨oc1, oc2, .fields vs, oc3⟩ ∧ vs[2]? = some (.str file tf) ∧ ((P.main.file : Str) == file) = true
theorem look_cls {N ps : List Str} {sc : Scope} (S : CScope N ps sc) (n : Nat) (cc : Addr) : (cellsFrom n sc.names [] ++ [(cls_, cc)]).lookup cls_ = some cc := by
  rw [List.lookup_append]
  cases e : (cellsFrom n sc.names []).lookup cls_ with
  | some c =>
    have z := S.once _ (cf_mem _ _ _ _ (mem_of_lookup e)) rfl
    cases z
  | none => show List.lookup cls_ [(cls_, cc)] = some cc; simp [List.lookup]
section
variable {P : Program} {w : World} {K : PySem.W.Frag} {mg : Str → Option Value} {base : Heap} {k : Nat} {f cc D : Addr} {x qual : Str} {st : Stmt} {kV : Value} {N ps ks : List Str} {sp : Sp} {pv : Str} {kvV : List V} {kv : List Value}
/-- the rule for such a def with *pv and keywords ks that are left out -/
theorem SFun.star (F : SFun P K x qual st f cc D kV) (S : CScope N (ps ++ ks ++ [pv]) (defScope st)) (hkv : Vals kvV kv) (hks : kv.length = ks.length)
    (hb : ∀ (doc pm : Value) (an : Option Addr) (cdv ct : Value), BindStar K (PySem.W.fnX x qual (defArgs st) (defBody st) (defScope st) [(cls_, cc)] .none kV doc pm an cdv ct) ps ks kv pv)
    (hp : ∃ ar : Arg, ((defArgs st).posonlyargs ++ (defArgs st).args).head? = some ar ∧ ar.arg = ("self" : Str)) (h1 : (defScope st).names.lookup ("super" : Str) = some .globalImplicit) (h2 : (defScope st).names.lookup ("self" : Str) = some .local)
    (hbody : ∀ (cdv : Value) (A : Around) (outer : List Env) (s : Shared) (H : Hp) (vs : List V) (Q : VK) (E : XK), Room k (A.deeper (envS qual (defScope st) s.heap.objs.size f cdv cc)) → SelfTxt P K (envS qual (defScope st) s.heap.objs.size f cdv cc) D "self" → sp vs H Q E →
      ∃ t, PX (cxS (L2.CX P w) P w K mg base N qual (defScope st) f cdv cc A outer s H E) (.func (defBody st) (envS qual (defScope st) s.heap.objs.size f cdv cc)) (defBody st) t ∧ t { nx := fun _ H' => Q .non H', rt := Q } (L2.start N vs) H) :
    FnR P w K mg base (L2.CX P w) (k + 1) f (fun vs H Q E => ∃ ws rest, vs = ws ++ rest ∧ ws.length = ps.length ∧ rest.length ≤ sizeLine ∧ ∀ p, H p = none → sp (ws ++ kvV ++ [V.ref p]) (upd H p (.tup rest)) Q E) := by
  obtain ⟨oc, od, doc, pm, an, cda, ct, osl, kc, dc, lc, oc1, oc2, cvs, oc3, file, tf, lk, hcd, hcc, hca, hvs, hfile⟩ := F.ex
  obtain ⟨ar, har, hs⟩ := hp
  refine fn_starS lk hcd hcc S StX.cxUp (hb doc pm an (.ref cda) ct) hkv hks fun A outer s H vs Q E hr hsp => hbody (.ref cda) A outer s H vs Q E hr ?_ hsp
  exact ⟨h1, S.frc, h2, ⟨cc, kc, dc, lc, look_cls S _ _, hcc⟩, ⟨f, oc, od, _, osl, ar, rfl, lk, har, hs⟩, ⟨cda, oc1, oc2, cvs, oc3, file, tf, rfl, hca, hvs, hfile⟩⟩
end
end WC

set_option maxHeartbeats 4000000
namespace WC
open PySem PySem.Spec PyProof.Rows L2
theorem sorted_one {α : Type} {f : α → Int} : ∀ {l r : List α}, l.Perm r → l.Pairwise (fun a b => f a ≤ f b) → r.Pairwise (fun a b => f a < f b) → l = r
  | [], r, p, _, _ => (List.nil_perm.mp p).symm
  | a :: l, [], p, _, _ => absurd (p.length_eq) (by simp)
  | a :: l, b :: r, p, h1, h2 => by
    have e : a = b := by
      rcases List.mem_cons.mp (p.mem_iff.mp (List.mem_cons_self (a := a))) with e | m
      · exact e
      · have q1 := (List.pairwise_cons.mp h2).1 a m
        rcases List.mem_cons.mp (p.mem_iff.mpr (List.mem_cons_self (a := b))) with e | m2
        · exact e.symm
        · have q2 := (List.pairwise_cons.mp h1).1 b m2
          omega
    subst e
    rw [sorted_one ((List.perm_cons a).mp p) (List.pairwise_cons.mp h1).2 (List.pairwise_cons.mp h2).2]
def rowOf (ns : List Int) : List Tri := ns.mapIdx fun k c => ((k : Int), (k : Int) + 1, c)
def ringOf (ns : List Int) : List Tri := ns.mapIdx fun k c => ((k : Int), ((k : Int) + 1) % (ns.length : Int), c)
theorem rowOf_at {ns : List Int} {i : Nat} {c : Int} (h : ns[i]? = some c) : (rowOf ns)[i]? = some ((i : Int), (i : Int) + 1, c) := by
  unfold rowOf
  rw [List.getElem?_mapIdx, h]
  rfl
theorem ringOf_at {ns : List Int} {i : Nat} {c : Int} (h : ns[i]? = some c) : (ringOf ns)[i]? = some ((i : Int), ((i : Int) + 1) % (ns.length : Int), c) := by
  unfold ringOf
  rw [List.getElem?_mapIdx, h]
  rfl
theorem rowOf_len (ns : List Int) : (rowOf ns).length = ns.length := List.length_mapIdx
theorem ringOf_len (ns : List Int) : (ringOf ns).length = ns.length := List.length_mapIdx
theorem rowOf_mem {ns : List Int} {t : Tri} (h : t ∈ rowOf ns) : ∃ (i : Nat) (c : Int), ns[i]? = some c ∧ t = ((i : Int), (i : Int) + 1, c) := by
  obtain ⟨i, hi⟩ := List.mem_iff_getElem?.mp h
  have hl := (List.getElem?_eq_some_iff.mp hi).1
  rw [rowOf_len] at hl
  have q : ns[i]? = some ns[i] := by simp [hl]
  rw [rowOf_at q] at hi
  exact ⟨i, _, q, (Option.some.inj hi).symm⟩
theorem ringOf_mem {ns : List Int} {t : Tri} (h : t ∈ ringOf ns) : ∃ (i : Nat) (c : Int), ns[i]? = some c ∧ t = ((i : Int), ((i : Int) + 1) % (ns.length : Int), c) := by
  obtain ⟨i, hi⟩ := List.mem_iff_getElem?.mp h
  have hl := (List.getElem?_eq_some_iff.mp hi).1
  rw [ringOf_len] at hl
  have q : ns[i]? = some ns[i] := by simp [hl]
  rw [ringOf_at q] at hi
  exact ⟨i, _, q, (Option.some.inj hi).symm⟩
/-- channels by rising producers -/
def Inc (cs : List Tri) : Prop := cs.Pairwise fun a b => a.1 < b.1
theorem rowOf_inc (ns : List Int) : Inc (rowOf ns) := by
  unfold Inc
  rw [List.pairwise_iff_getElem]
  intro i j hi hj hij
  simp only [rowOf, List.getElem_mapIdx]
  omega
theorem ringOf_inc (ns : List Int) : Inc (ringOf ns) := by
  unfold Inc
  rw [List.pairwise_iff_getElem]
  intro i j hi hj hij
  simp only [ringOf, List.getElem_mapIdx]
  omega
theorem nodup_of_inc {α : Type} {cs : List α} {f : α → Int} {g : α → Int × Int} (hg : ∀ a, (g a).1 = f a) (h : cs.Pairwise fun a b => f a < f b) : (cs.map g).Nodup := by
  rw [List.Nodup, List.pairwise_map]
  refine h.imp fun {a b} z e => ?_
  have q := congrArg Prod.fst e
  rw [hg, hg] at q
  omega
end WC

set_option maxHeartbeats 4000000
namespace WC
open PySem PySem.Spec PyProof.Rows L2
abbrev Lk := Int × Int
def PairA (H : Hp) (c : Lk) (v : V) : Prop := ∃ t, v = .ref t ∧ H t = some (.tup [.int c.1, .int c.2])
theorem pairs_same {H H2 : Hp} {cs : List Lk} {vs : List V} (s : Same H H2) (h : Paired (PairA H) cs vs) : Paired (PairA H2) cs vs := Paired.mapP h fun _ _ ⟨t, e, q⟩ => ⟨t, e, s _ _ q⟩
/-- b is a or lies behind links from a -/
inductive Reach (ls : List Lk) (a : Int) : Int → Prop
  | refl : Reach ls a a
  | step {y z : Int} : Reach ls a y → (y, z) ∈ ls → Reach ls a z
theorem nodup_le : ∀ (n : Nat) (l : List Int), l.Nodup → (∀ x ∈ l, 0 ≤ x ∧ x < n) → l.length ≤ n
  | 0, l, _, h => by
    cases l with
    | nil => exact Nat.le_refl _
    | cons a l =>
      have := h a List.mem_cons_self
      omega
  | n + 1, l, nd, h => by
    by_cases m : (n : Int) ∈ l
    · have q := nodup_le n (l.erase (n : Int)) (nd.erase _) fun x hx => by
        obtain ⟨h1, h2⟩ := (nd.mem_erase_iff).mp hx
        have := h x h2
        omega
      rw [List.length_erase_of_mem m] at q
      omega
    · have q := nodup_le n l nd fun x hx => by
        have := h x hx
        have : x ≠ n := fun e => m (e ▸ hx)
        omega
      omega
/-- the search: found so far, still waiting -/
structure Srch (ls : List Lk) (a : Int) (n : Nat) (F W : List Int) : Prop where
  nd : F.Nodup
  rng : ∀ x ∈ F, 0 ≤ x ∧ x < n
  fst : a ∈ F
  sub : ∀ x ∈ W, x ∈ F
  rch : ∀ x ∈ F, Reach ls a x
  clo : ∀ x ∈ F, x ∈ W ∨ ∀ z, (x, z) ∈ ls → z ∈ F
  wl : W.length ≤ F.length
theorem Srch.all {ls : List Lk} {a : Int} {n : Nat} {F : List Int} (h : Srch ls a n F []) : ∀ x, x ∈ F ↔ Reach ls a x := fun x => by
  constructor
  · exact h.rch x
  · intro r
    induction r with
    | refl => exact h.fst
    | step r m ih =>
      rcases h.clo _ ih with q | q
      · cases q
      · exact q _ m
/-- while the links of y are gone through: those of the first m links are seen -/
structure Mid (ls : List Lk) (a : Int) (n : Nat) (y : Int) (m : Nat) (F W : List Int) : Prop where
  nd : F.Nodup
  rng : ∀ x ∈ F, 0 ≤ x ∧ x < n
  fst : a ∈ F
  sub : ∀ x ∈ W, x ∈ F
  rch : ∀ x ∈ F, Reach ls a x
  yF : y ∈ F
  clo : ∀ x ∈ F, x ∈ W ∨ x = y ∨ ∀ z, (x, z) ∈ ls → z ∈ F
  sn : ∀ z, (y, z) ∈ ls.take m → z ∈ F
  wl : W.length ≤ F.length
theorem Srch.mid {ls : List Lk} {a : Int} {n : Nat} {F W : List Int} {y : Int} (h : Srch ls a n F (W ++ [y])) : Mid ls a n y 0 F W :=
  ⟨h.nd, h.rng, h.fst, fun x hx => h.sub x (List.mem_append_left _ hx), h.rch, h.sub y (by simp), fun x hx => by
    rcases h.clo x hx with q | q
    · rcases List.mem_append.mp q with q | q
      · exact .inl q
      · exact .inr (.inl (List.mem_singleton.mp q))
    · exact .inr (.inr q), fun z hz => by simp at hz, by have q := h.wl; rw [List.length_append] at q; omega⟩
theorem Mid.srch {ls : List Lk} {a : Int} {n : Nat} {F W : List Int} {y : Int} (h : Mid ls a n y ls.length F W) : Srch ls a n F W :=
  ⟨h.nd, h.rng, h.fst, h.sub, h.rch, fun x hx => by
    rcases h.clo x hx with q | q | q
    · exact .inl q
    · exact .inr fun z hz => h.sn z (by rw [List.take_length, ← q]; exact hz)
    · exact .inr q, h.wl⟩
theorem Mid.skip {ls : List Lk} {a : Int} {n : Nat} {F W : List Int} {y : Int} {m : Nat} {c : Lk} (h : Mid ls a n y m F W) (hc : ls[m]? = some c) (hz : c.1 = y → c.2 ∈ F) : Mid ls a n y (m + 1) F W :=
  ⟨h.nd, h.rng, h.fst, h.sub, h.rch, h.yF, h.clo, fun z hm => by
    rw [take_snoc hc] at hm
    rcases List.mem_append.mp hm with q | q
    · exact h.sn z q
    · have e := List.mem_singleton.mp q
      have e1 : c.1 = y := by rw [← e]
      have e2 : c.2 = z := by rw [← e]
      rw [← e2]
      exact hz e1, h.wl⟩
theorem Mid.add {ls : List Lk} {a : Int} {n : Nat} {F W : List Int} {y : Int} {m : Nat} {c : Lk} (h : Mid ls a n y m F W) (hc : ls[m]? = some c) (h1 : c.1 = y) (h2 : c.2 ∉ F) (h3 : 0 ≤ c.2 ∧ c.2 < n) : Mid ls a n y (m + 1) (F ++ [c.2]) (W ++ [c.2]) := by
  have hm : (y, c.2) ∈ ls := by
    have q := List.mem_of_getElem? hc
    rw [← h1]
    exact q
  refine ⟨?_, fun x hx => ?_, List.mem_append_left _ h.fst, fun x hx => ?_, fun x hx => ?_, List.mem_append_left _ h.yF, fun x hx => ?_, fun z hz => ?_, by have q := h.wl; rw [List.length_append, List.length_append]; simp only [List.length_cons, List.length_nil]; omega⟩
  · rw [List.nodup_append]
    exact ⟨h.nd, by simp, fun p hp q hq e => h2 (by rw [← List.mem_singleton.mp hq, ← e]; exact hp)⟩
  · rcases List.mem_append.mp hx with q | q
    · exact h.rng x q
    · rw [List.mem_singleton.mp q]; exact h3
  · rcases List.mem_append.mp hx with q | q
    · exact List.mem_append_left _ (h.sub x q)
    · exact List.mem_append_right _ q
  · rcases List.mem_append.mp hx with q | q
    · exact h.rch x q
    · rw [List.mem_singleton.mp q]; exact .step (h.rch y h.yF) hm
  · rcases List.mem_append.mp hx with q | q
    · rcases h.clo x q with r | r | r
      · exact .inl (List.mem_append_left _ r)
      · exact .inr (.inl r)
      · exact .inr (.inr fun z hz => List.mem_append_left _ (r z hz))
    · exact .inl (List.mem_append_right _ q)
  · rw [take_snoc hc] at hz
    rcases List.mem_append.mp hz with q | q
    · exact List.mem_append_left _ (h.sn z q)
    · have e := List.mem_singleton.mp q
      have e2 : c.2 = z := by rw [← e]
      rw [e2]
      exact List.mem_append_right _ (by simp)
end WC

set_option maxHeartbeats 4000000
namespace WC
open PySem PySem.Spec PyProof.Rows L2
/-- a value that has no address -/
def plainV : V → Bool
  | .int _ => true
  | .bl _ => true
  | .non => true
  | .str _ => true
  | _ => false
/-- x is True, x is False, x a plain value -/
theorem op_isB {X : Cx} : OpR X (compareOp .Is) (fun x y H Q => ∃ k : Bool, y = .bl k ∧ plainV x = true ∧ Q (.bl (decide (x = .bl k))) H) := by
  intro pins s σ H x y v u Q I rx ry h
  obtain ⟨k, rfl, hp, q⟩ := h
  obtain rfl : u = Value.bool k := ry
  have fin : ∀ b, decide (x = V.bl k) = b → EP X pins σ Q (.bool b) s := fun b e => ⟨.bl b, H, I, rfl, by rw [← e]; exact q⟩
  cases x with
  | int i =>
    obtain ⟨t, rfl⟩ := rx
    exact wpAny_pure (fin false (by simp))
  | bl b =>
    obtain rfl : v = Value.bool b := rx
    by_cases e : b = k
    · subst e
      exact wpAny_is_self rfl (fin true (by simp))
    · exact wpAny_is_other rfl (fun z => e (Value.bool.inj z)) (fin false (by simp [e]))
  | non =>
    obtain rfl : v = Value.none := rx
    exact wpAny_pure (fin false (by simp))
  | str z =>
    obtain ⟨t, rfl⟩ := rx
    exact wpAny_pure (fin false (by simp))
  | ref a => cases hp
  | byt b => cases hp
  | flt b => cases hp
  | ty n => cases hp
/-- all but what stands at b is as it was -/
def SameB (b : Addr) (H H2 : Hp) : Prop := ∀ c o, H c = some o → c ≠ b → H2 c = some o
theorem SameB.refl (b : Addr) (H : Hp) : SameB b H H := fun _ _ e _ => e
theorem SameB.trans {b : Addr} {H H1 H2 : Hp} (s : SameB b H H1) (t : SameB b H1 H2) : SameB b H H2 := fun c o e n => t c o (s c o e n) n
theorem SameB.of {b : Addr} {H H1 : Hp} (s : Same H H1) : SameB b H H1 := fun c o e _ => s c o e
theorem SameB.upd {b : Addr} {H H1 : Hp} {o : HO} (s : SameB b H H1) : SameB b H (upd H1 b o) := fun c u e n => by
  rw [upd_ne n]
  exact s c u e n
theorem SameB.put {b p : Addr} {H H1 : Hp} {o : HO} (s : SameB b H H1) (hp : H p = none) : SameB b H (L2.upd H1 p o) := fun c u e n => by
  rw [upd_ne (ne_of_none e hp)]
  exact s c u e n
/-- the bag of draws -/
def BagAt (H : Hp) (b : Addr) : Prop := ∃ x f : Int, H b = some (.lst [.int x, .int f])
theorem BagAt.same {H H2 : Hp} {b : Addr} (h : BagAt H b) (s : Same H H2) : BagAt H2 b := let ⟨x, f, e⟩ := h; ⟨x, f, s _ _ e⟩
theorem SameB.free {b p : Addr} {H H2 : Hp} (s : SameB b H H2) (hb : BagAt H2 b) (hp : H2 p = none) : H p = none := by
  cases e : H p with
  | none => rfl
  | some o =>
    by_cases n : p = b
    · obtain ⟨x, f, q⟩ := hb
      rw [n, q] at hp
      cases hp
    · rw [s p o e n] at hp
      cases hp
end WC

set_option maxHeartbeats 4000000
namespace WC
open PySem PySem.Spec PyProof.Rows L2
/-! a def that lets nothing out, called wherever: also while an exception is handled -/
def cxQ (CX : CXT) (P : Program) (w : World) (K : PySem.W.Frag) (mg : Str → Option Value) (base : Heap) (N : List Str) (qual : Str) (sc : Scope) (f : Addr) (cd : Value) (A : Around) (outer : List Env) (s : Shared) (H : Hp) : Cx :=
  { cxOf CX P w K mg base N qual sc f cd A outer s H E0 with calm := false, xe := fun _ _ => False }
structure FnQ (P : Program) (w : World) (K : PySem.W.Frag) (mg : Str → Option Value) (base : Heap) (k : Nat) (f : Addr) (fd : FuncData) (ps : List Str) (sp : Sp) : Prop where
  len : ∀ vs H Q E, sp vs H Q E → vs.length = ps.length
  run : ∀ (A : Around) (outer : List Env) (s : Shared) (H : Hp) (args : Args) (us : List Value) (vs : List V) (Q : VK), L2H.RoomH k A → Env0 P w K mg base A outer s H → BindsTo s fd args (ps.zip us) → Vals vs us → sp vs H Q E0 →
    codeAny (model P w) A (.call (.ref f) args) (fun r s' => match r with | .ok (.ret u) => CE outer P w H s Q u s' | _ => False) s
theorem inv_startQ {CX : CXT} {P : Program} {w : World} {K : PySem.W.Frag} {mg : Str → Option Value} {base : Heap} {N ps : List Str} {qual : Str} {scope : Scope} {f : Addr} {cd : Value} {A : Around} {outer : List Env} {s s1 : Shared} {H : Hp} {us : List Value} {vs : List V}
    (S : FnScope N ps scope) (e0 : Env0 P w K mg base A outer s H) (hl : vs.length = ps.length) (r : Vals vs us)
    (x : InCallC s s.heap.objs.size (bindL (envOfC qual scope s.heap.objs.size f cd).kindOf (ps.zip us) fun _ => none) (cellsFrom (s.heap.objs.size + 1) scope.names []) (bindC (envOfC qual scope s.heap.objs.size f cd).kindOf (ps.zip us) fun _ => none) s1) :
    Inv (cxQ CX P w K mg base N qual scope f cd A outer s H) [] (L2.start N vs) H s1 := by
  have hpl : ps.length ≤ N.length := by have := congrArg List.length S.pre; rw [List.length_take] at this; omega
  obtain ⟨h1, tk, rfl, hk⟩ := x.done
  have noA : ∀ b : Addr, b ∉ (cxQ CX P w K mg base N qual scope f cd A outer s H).ex := fun b z => absurd (show b ∈ ([] : List Addr) from z) (by simp)
  refine ⟨⟨e0.mod, S.kind, rfl, rfl, Nat.le_refl _, fun y z c h1 h2 => ?_, fun y hy => ?_, fun y c _ h => ?_, (fun z => Bool.noConfusion (show false = true from z)), Around.frames_deeper e0.frames, .inr ⟨rfl, rfl⟩, fun b z => absurd z (noA b), e0.bs, e0.bsz, fun b _ _ => noA b, fun b z => absurd z (noA b), e0.funs, e0.frf⟩,
    rfl, e0.bare, Un.kept hk, ⟨_, x.toInCall.ns, fun i y v h1 h2 h3 => ?_⟩, fun y c h => ⟨_, x.cell y c h⟩, e0.hok.fresh (Nat.le_refl _), fun y c h => ?_, fun q hq => ?_, e0.hok.kept hk, ?_⟩
  · exact name_of_addr x.apart (PySem.mem_of_lookup h1) (PySem.mem_of_lookup h2)
  · have hy : scope.names.lookup y = some .cell ∨ scope.names.lookup y = some .free := hy
    rcases hy with hy | hy
    · exact cell_has hy
    · exact absurd rfl (S.nofree _ (PySem.mem_of_lookup hy))
  · exact Nat.le_of_lt (x.above y c (PySem.mem_of_lookup h))
  · have hi : i < vs.length := by
      unfold L2.start at h2
      by_cases hi : i < vs.length
      · exact hi
      · rw [List.getElem?_append_right (by simpa using hi)] at h2
        rw [List.getElem?_replicate] at h2
        split at h2 <;> cases h2
    have ha : vs[i]? = some v := by
      unfold L2.start at h2
      rw [List.getElem?_append_left (by simpa using hi), List.getElem?_map] at h2
      cases e : vs[i]? with
      | none => rw [e] at h2; cases h2
      | some a => rw [e] at h2; cases h2; rfl
    obtain ⟨u, hu, rv⟩ := r.get ha
    have hp : ps[i]? = some y := by
      rw [← S.pre, List.getElem?_take_of_lt (by omega)]; exact h1
    have ndP : ps.Nodup := by rw [← S.pre]; exact S.nd.sublist (List.take_sublist _ _)
    refine ⟨u, rv, ?_⟩
    rcases S.par y (List.mem_of_getElem? hp) with k | k
    · exact .inl ⟨k, bindL_get ndP hp hu k⟩
    · obtain ⟨c, e⟩ := cell_has (n := s.heap.objs.size + 1) k
      refine .inr ⟨.inl k, c, e, ?_⟩
      have q := x.cell y c e
      rw [bindC_get ndP hp hu (by show scope.names.lookup y ≠ _; rw [k]; decide)] at q
      exact q
  · exact e0.hok.fresh (Nat.le_of_lt (x.above y c (PySem.mem_of_lookup h)))
  · exact absurd (show q ∈ ([] : List (Addr × Obj)) from hq) (by simp)
  · unfold L2.start
    show _ = N.length
    rw [List.length_append, List.length_map, List.length_replicate]
    omega
theorem fn_ofQ {CX : CXT} {P : Program} {w : World} {K : PySem.W.Frag} {mg : Str → Option Value} {base : Heap} {k : Nat} {f : Addr} {name qual : Str} {params : Arguments} {body : List Stmt} {scope : Scope} {dV kV doc pm cdv ct oc : Value} {an od : Option Addr}
    {osl : Array (Option Value)} {N ps : List Str} {sp : Sp} (lk : K.lookup f = some ⟨oc, od, .func (PySem.W.fnOf name qual params body scope dV kV doc pm an cdv ct), osl⟩) (hcd : PySem.W.codeIn K cdv qual = true) (S : FnScope N ps scope)
    (len : ∀ vs H Q E, sp vs H Q E → vs.length = ps.length)
    (hbody : ∀ (A : Around) (outer : List Env) (s : Shared) (H : Hp) (vs : List V) (Q : VK), L2H.RoomH k (A.deeper (envOfC qual scope s.heap.objs.size f cdv)) → sp vs H Q E0 →
      ∃ t, PSs (cxQ CX P w K mg base N qual scope f cdv A outer s H) body t ∧ t { nx := fun _ H' => Q .non H', rt := Q } (L2.start N vs) H) :
    FnQ P w K mg base (k + 1) f (PySem.W.fnOf name qual params body scope dV kV doc pm an cdv ct) ps sp := by
  refine ⟨len, fun A outer s H args us vs Q hr e0 hb r hsp => ?_⟩
  have hl := len _ _ _ _ hsp
  have KX : K.In s.heap := e0.mod.kin.keeps fun b o e => (e0.bs b o e).1
  have lim : s.heap.NoLimit := e0.mod.nolimit.keeps fun b o e => (e0.bs b o e).1
  have hkind : ∀ y ∈ ps.zip us, scope.names.lookup y.1 = some .local ∨ (scope.names.lookup y.1 = some .cell ∧ ((cellsFrom (s.heap.objs.size + 1) scope.names []).lookup y.1).isSome = true) := fun ⟨n, v⟩ hy => by
    rcases S.par n (List.of_mem_zip hy).1 with q | q
    · exact .inl q
    · exact .inr ⟨q, PySem.W.cellsFrom_some _ _ _ (.inl q)⟩
  refine codeAny_call_function hr.depth (KX _ _ lk) rfl S.co S.gen rfl (PySem.W.codeRec_of KX hcd) (hb _ _ _ _ ?_)
  refine wpAny_newFunctionEnv_cells S.kind hkind fun env he s1 x => ?_
  subst he
  refine ⟨lim.keeps x.toInCall.keep, codeAny_func ?_⟩
  obtain ⟨t, ht, hq⟩ := hbody A outer s H vs Q (hr.deeper _) hsp
  have I : Inv (cxQ CX P w K mg base N qual scope f cdv A outer s H) [] (L2.start N vs) H s1 := inv_startQ S e0 hl r x
  refine wpAny_mono (ht.run [] s1 (L2.start N vs) H _ I hq) (fun fl s' hs => ?_) fun e s' hs => False.elim hs
  have fin : ∀ {σ' : L2.St} {H' : Hp} {v : V} {u : Value}, Inv (cxQ CX P w K mg base N qual scope f cdv A outer s H) [] σ' H' s' → RelV v u → Q v H' → CE outer P w H s Q u s' :=
    fun {σ' H' v u} J rv q => ⟨v, H', J.os, J.bare, J.base, J.hok, rv, q⟩
  cases fl with
  | ret u =>
    obtain ⟨v, σ', H', J, rv, q⟩ := hs
    exact fin J rv q
  | next =>
    obtain ⟨σ', H', J, q⟩ := hs
    exact fin (v := V.non) (u := Value.none) J rfl q
  | brk =>
    obtain ⟨_, _, _, q⟩ := hs
    exact False.elim q
  | cont =>
    obtain ⟨_, _, _, q⟩ := hs
    exact False.elim q
section
variable {X : Cx} {CX : CXT} {k : Nat} {f C : Addr} {fd : FuncData} {ps : List Str} {sp : Sp} {x m : Str} {q pos apos : Pos} {e o : Expr} {es : List Expr} {ta : TE} {t : TA}
theorem run_fnQ {pins : List (Addr × Obj)} {σ : L2.St} {H : Hp} {s : Shared} {Q : VK} {us : List Value} {vs : List V} (F : FnQ X.prog X.w X.K X.mg X.base k f fd ps sp) (hr : L2H.RoomH k X.A) (hb : Binds X.K fd ps [])
    (I : Inv X pins σ H s) (r : Vals vs us) (h : sp vs H Q E0) : wpAny (model X.prog X.w) X.A (call (.ref f) us) (EP X pins σ Q) X.xe s := by
  have hl : us.length = ps.length := by rw [← r.length]; exact F.len _ _ _ _ h
  have b := hb s us I.kIn (by rw [List.append_nil]; exact hl)
  rw [List.append_nil] at b
  refine wpAny_call (codeAny_mono (F.run X.A X.stack s H ⟨us, []⟩ us vs Q hr I.env0 b r h) fun r s' hq => ?_)
  cases r with
  | error e => exact False.elim hq
  | ok fl =>
    cases fl with
    | ret u => exact I.after hq
    | next => exact False.elim hq
    | brk => exact False.elim hq
    | cont => exact False.elim hq
end
/-- the def that the module's name x holds keeps sp, wherever it is called -/
structure DefQ (P : Program) (w : World) (K : PySem.W.Frag) (mg : Str → Option Value) (base : Heap) (x : Str) (k : Nat) (sp : Sp) : Prop where
  ex : ∃ f fd ps, mg x = some (.ref f) ∧ PySem.W.keepIn K (.ref f) = true ∧ Binds K fd ps [] ∧ FnQ P w K mg base k f fd ps sp
def tCallQ (sp : Sp) (t : TA) : TE := fun σ H Q => t σ H fun vs H1 => sp vs H1 Q E0
theorem pe_cq {X : Cx} {j k : Nat} {sp : Sp} {x : Str} {e : Expr} {es : List Expr} {t : TA} {p pos : Pos} (D : DefQ X.prog X.w X.K X.mg X.base x k sp) (hr : L2H.RoomH j X.A) (ha : PA X (e :: es) t) (hle : k ≤ j := by decide) (hg : Gl X x := by rfl) (hdb : (x == ("__debug__" : Str)) = false := by decide)
    (he : starEach (e :: es) X.env = (false, eval e X.env) :: starEach es X.env := by rfl) (hpl : (backTo pos (starEach es X.env)).any (·.1) = false := by rfl) : PE X (.Call (.Name x p) (e :: es) [] pos) (tCallQ sp t) := by
  obtain ⟨f, fd, ps, hm, hk, hb, F⟩ := D.ex
  refine ⟨fun pins s σ H Q I h => wpAny_Call_Name_kw (ld_glob I hg hm ?_ hdb)⟩
  exact PySem.W.callWith_K (h₀ := X.base) I.ok.mod.kin hk (thn (ha.run pos pins s σ H _ I h) fun us s1 ⟨vs, H1, I1, r, q⟩ => ⟨I1.kIn, run_fnQ F (hr.mono hle) hb I1 r q⟩) he hpl
end WC

set_option maxHeartbeats 4000000
namespace WC
open PySem PySem.Spec PyProof.Rows L2
/-! channels kept in a dict by their pair -/
abbrev pairOf2 (c : Tri) : Int × Int := (c.1, c.2.1)
def entK (c : Tri) : List Key := [Sum.inl c.1, Sum.inl c.2.1]
def ent (c : Tri) : List Key × V := (entK c, .int c.2.2)
theorem entK_inj {a c : Tri} : entK a = entK c ↔ pairOf2 a = pairOf2 c := by
  unfold entK pairOf2
  simp
theorem put_ent (ms : List Tri) (c : Tri) : ∃ ms2 : List Tri, putK (ms.map ent) (entK c) (.int c.2.2) = ms2.map ent ∧ (∀ p : Tri → Prop, (∀ m ∈ ms, p m) → p c → ∀ m ∈ ms2, p m) ∧ ((ms.map pairOf2).Nodup → (ms2.map pairOf2).Nodup) ∧ ms2.length ≤ ms.length + 1 := by
  unfold putK
  by_cases h : ((ms.map ent).any fun kv => decide (kv.1 = entK c)) = true
  · rw [if_pos h]
    refine ⟨ms.map fun m => if entK m = entK c then c else m, ?_, fun p h1 h2 m hm => ?_, fun nd => ?_, by rw [List.length_map]; omega⟩
    · rw [List.map_map, List.map_map]
      refine List.map_congr_left fun m _ => ?_
      show (if entK m = entK c then (entK m, V.int c.2.2) else ent m) = ent (if entK m = entK c then c else m)
      by_cases e : entK m = entK c
      · rw [if_pos e, if_pos e, e]
        rfl
      · rw [if_neg e, if_neg e]
    · obtain ⟨m0, hm0, e⟩ := List.mem_map.mp hm
      by_cases e2 : entK m0 = entK c
      · rw [if_pos e2] at e
        rw [← e]; exact h2
      · rw [if_neg e2] at e
        rw [← e]; exact h1 m0 hm0
    · have q : (ms.map fun m => if entK m = entK c then c else m).map pairOf2 = ms.map pairOf2 := by
        rw [List.map_map]
        refine List.map_congr_left fun m _ => ?_
        show pairOf2 (if entK m = entK c then c else m) = pairOf2 m
        by_cases e : entK m = entK c
        · rw [if_pos e]
          exact (entK_inj.mp e).symm
        · rw [if_neg e]
      rw [q]
      exact nd
  · rw [if_neg h]
    refine ⟨ms ++ [c], by rw [List.map_append]; rfl, fun p h1 h2 m hm => ?_, fun nd => ?_, by rw [List.length_append]; exact Nat.le_refl _⟩
    · rcases List.mem_append.mp hm with q | q
      · exact h1 m q
      · rw [List.mem_singleton.mp q]; exact h2
    · rw [List.map_append, List.nodup_append]
      refine ⟨nd, by simp, fun x hx y hy e => h ?_⟩
      obtain ⟨m, hm, e1⟩ := List.mem_map.mp hx
      have e2 : y = pairOf2 c := by simpa using hy
      rw [List.any_eq_true]
      exact ⟨ent m, List.mem_map_of_mem hm, decide_eq_true (entK_inj.mpr (e1.trans (e.trans e2)))⟩
theorem val_ent : ∀ {ms : List Tri} {c : Tri}, (ms.map pairOf2).Nodup → c ∈ ms → valV (ms.map ent) (entK c) = some (.int c.2.2)
  | [], _, _, h => by cases h
  | m :: ms, c, nd, h => by
    rw [List.map_cons, List.nodup_cons] at nd
    rw [List.map_cons]
    by_cases e : entK m = entK c
    · rw [valV_pos (p := ent m) e]
      rcases List.mem_cons.mp h with q | q
      · rw [q]; rfl
      · exact absurd (List.mem_map.mpr ⟨c, q, (entK_inj.mp e).symm⟩) nd.1
    · rw [valV_neg (p := ent m) e]
      rcases List.mem_cons.mp h with q | q
      · rw [q] at e; exact absurd rfl e
      · exact val_ent nd.2 q
theorem seq_mid {a b : TS} {D : Ends} {σ : L2.St} {H : Hp} (Pv : L2.St → Hp → Prop) (h1 : ∀ N : L2.St → Hp → Prop, (∀ σ H, Pv σ H → N σ H) → a { D with nx := N } σ H) (h2 : ∀ σ H, Pv σ H → b D σ H) : tSeq a b D σ H := h1 _ h2
/-- a channel from an earlier stage of ts to a later one -/
def LkOk (ts : List Int) (c : Tri) : Prop := (∃ i j : Nat, i < j ∧ ts[i]? = some c.1 ∧ ts[j]? = some c.2.1) ∧ 1 ≤ c.2.2 ∧ c.2.2 ≤ 999
theorem acyc_of {ts : List Int} {ms : List Tri} (nd : ts.Nodup) (h : ∀ c ∈ ms, LkOk ts c) : Acyc ms := by
  refine ⟨fun x => ts.idxOf x, fun c hc => ?_⟩
  obtain ⟨⟨i, j, hij, h1, h2⟩, _⟩ := h c hc
  have at_ : ∀ {k : Nat} {x : Int}, ts[k]? = some x → ts.idxOf x = k := fun {k x} e => by
    obtain ⟨hk, e2⟩ := List.getElem?_eq_some_iff.mp e
    have hx : ts.idxOf x < ts.length := List.idxOf_lt_length_of_mem (e2 ▸ List.getElem_mem hk)
    have e3 : ts[ts.idxOf x]? = some x := by rw [List.getElem?_eq_getElem hx, List.getElem_idxOf hx]
    exact (List.getElem?_inj hx nd).mp (e3.trans e.symm)
  show ts.idxOf c.1 < ts.idxOf c.2.1
  rw [at_ h1, at_ h2]
  exact hij
end WC

set_option maxHeartbeats 4000000
namespace WC
open PySem PySem.Spec PyProof.Rows L2
/-! all that lies behind a, by going over the links n times -/
abbrev On (bs : List Bool) (k : Int) : Prop := bs[k.toNat]? = some true
def Shut (ls : List Lk) (a : Int) (bs : List Bool) : Prop := ∀ y z, (y, z) ∈ ls → y = a ∨ On bs y → On bs z
structure Wlk (ls : List Lk) (a : Int) (n : Nat) (bs : List Bool) : Prop where
  len : bs.length = n
  snd : ∀ k : Nat, bs[k]? = some true → Reach ls a k
theorem set_same {bs : List Bool} {k : Nat} (h : bs[k]? = some true) : bs.set k true = bs := by
  apply List.ext_getElem?
  intro i
  rw [List.getElem?_set]
  by_cases e : k = i
  · subst e
    rw [if_pos rfl, if_pos (List.getElem?_eq_some_iff.mp h).1, h]
  · rw [if_neg e]
theorem count_set : ∀ {bs : List Bool} {k : Nat}, bs[k]? = some false → (bs.set k true).count true = bs.count true + 1
  | [], k, h => by simp at h
  | a :: bs, 0, h => by
    have e : a = false := by simpa using h
    subst e
    simp
  | a :: bs, k + 1, h => by
    have h : bs[k]? = some false := by simpa using h
    rw [List.set_cons_succ, List.count_cons, List.count_cons, count_set h]
    omega
structure WMid (ls : List Lk) (a : Int) (n : Nat) (m : Nat) (bs0 bs : List Bool) : Prop where
  w : Wlk ls a n bs
  up : ∀ k : Int, On bs0 k → On bs k
  dn : ∀ y z, (y, z) ∈ ls.take m → y = a ∨ On bs0 y → On bs z
  sh : Shut ls a bs0 → bs = bs0
  ct : bs = bs0 ∨ bs0.count true < bs.count true
theorem WMid.start {ls : List Lk} {a : Int} {n : Nat} {bs : List Bool} (w : Wlk ls a n bs) : WMid ls a n 0 bs bs := ⟨w, fun _ h => h, fun y z h => by simp at h, fun _ => rfl, .inl rfl⟩
theorem WMid.hit {ls : List Lk} {a : Int} {n m : Nat} {bs0 bs : List Bool} {y z : Int} (h : WMid ls a n m bs0 bs) (hc : ls[m]? = some (y, z)) (hy : 0 ≤ y) (hz : 0 ≤ z ∧ z < n) (c : y = a ∨ On bs y) : WMid ls a n (m + 1) bs0 (bs.set z.toNat true) := by
  have hm : (y, z) ∈ ls := List.mem_of_getElem? hc
  have zl : z.toNat < bs.length := by rw [h.w.len]; omega
  have at1 : ∀ {k : Int}, On bs k → On (bs.set z.toNat true) k := fun {k} e => by
    show (bs.set z.toNat true)[k.toNat]? = some true
    rw [List.getElem?_set]
    by_cases q : z.toNat = k.toNat
    · rw [if_pos q, if_pos zl]
    · rw [if_neg q]; exact e
  have atz : On (bs.set z.toNat true) z := by
    show (bs.set z.toNat true)[z.toNat]? = some true
    rw [List.getElem?_set, if_pos rfl, if_pos zl]
  refine ⟨⟨by rw [List.length_set]; exact h.w.len, fun k e => ?_⟩, fun k e => at1 (h.up k e), fun y2 z2 e c2 => ?_, fun s => ?_, ?_⟩
  · rw [List.getElem?_set] at e
    by_cases q : z.toNat = k
    · have ek : (k : Int) = z := by omega
      rw [ek]
      refine .step ?_ hm
      rcases c with c | c
      · rw [c]; exact .refl
      · have := h.w.snd y.toNat c
        have e3 : ((y.toNat : Nat) : Int) = y := by omega
        rw [e3] at this
        exact this
    · rw [if_neg q] at e
      exact h.w.snd k e
  · rw [take_snoc hc] at e
    rcases List.mem_append.mp e with e | e
    · exact at1 (h.dn y2 z2 e c2)
    · have e := List.mem_singleton.mp e
      cases e
      exact atz
  · have e0 := h.sh s
    rw [e0] at c
    have z0 : On bs0 z := s y z hm c
    rw [e0]
    exact set_same z0
  · cases hb : bs[z.toNat]? with
    | none => rw [List.getElem?_eq_none_iff] at hb; omega
    | some v =>
      cases v with
      | true => rw [set_same hb]; exact h.ct
      | false =>
        refine .inr ?_
        rw [count_set hb]
        rcases h.ct with e | e
        · rw [e]; omega
        · omega
theorem WMid.miss {ls : List Lk} {a : Int} {n m : Nat} {bs0 bs : List Bool} {y z : Int} (h : WMid ls a n m bs0 bs) (hc : ls[m]? = some (y, z)) (c : ¬ (y = a ∨ On bs y)) : WMid ls a n (m + 1) bs0 bs :=
  ⟨h.w, h.up, fun y2 z2 e c2 => by
    rw [take_snoc hc] at e
    rcases List.mem_append.mp e with e | e
    · exact h.dn y2 z2 e c2
    · have e := List.mem_singleton.mp e
      cases e
      exact absurd (c2.imp id (h.up _)) c, h.sh, h.ct⟩
theorem WMid.fin {ls : List Lk} {a : Int} {n t : Nat} {bs0 bs : List Bool} (h : WMid ls a n ls.length bs0 bs) (q : Shut ls a bs0 ∨ t ≤ bs0.count true) : Shut ls a bs ∨ t + 1 ≤ bs.count true := by
  rcases h.ct with e | e
  · refine .inl fun y z hm c => ?_
    rw [e] at c
    exact h.dn y z (by rw [List.take_length]; exact hm) c
  · rcases q with q | q
    · have := h.sh q
      rw [this] at e
      omega
    · exact .inr (by omega)
theorem all_on {bs : List Bool} {n : Nat} (hl : bs.length = n) (h : n ≤ bs.count true) {k : Nat} (hk : k < n) : bs[k]? = some true := by
  have e : bs.count true = bs.length := Nat.le_antisymm List.count_le_length (by omega)
  have q := List.count_eq_length.mp e
  have hk2 : k < bs.length := by omega
  have := q (bs[k]) (List.getElem_mem hk2)
  rw [List.getElem?_eq_getElem hk2, ← this]
theorem Wlk.shut {ls : List Lk} {a : Int} {n : Nat} {bs : List Bool} (h : Wlk ls a n bs) (r : ∀ y z, (y, z) ∈ ls → 0 ≤ z ∧ z < n) (q : Shut ls a bs ∨ n ≤ bs.count true) : Shut ls a bs := by
  rcases q with q | q
  · exact q
  · intro y z hm _
    obtain ⟨z0, z1⟩ := r y z hm
    exact all_on h.len q (by omega)
theorem Wlk.all {ls : List Lk} {a : Int} {n : Nat} {bs : List Bool} (h : Wlk ls a n bs) (r : ∀ y z, (y, z) ∈ ls → 0 ≤ z ∧ z < n) (q : Shut ls a bs ∨ n ≤ bs.count true) : ∀ z, Reach ls a z → z = a ∨ On bs z := by
  have s := h.shut r q
  intro z hr
  induction hr with
  | refl => exact .inl rfl
  | step r m ih => exact .inr (s _ _ m ih)
end WC

set_option maxHeartbeats 4000000
namespace WC
open PySem PySem.Spec PyProof.Rows L2
/-! a caught exception with fields: its classes; a method called in a try -/
theorem inst_x {X : Cx} {a D dd : Addr} {oe : Obj} {cls : Value} {d : Option Addr} {pn pins : List (Addr × Obj)} {σ : L2.St} {H : Hp} {s : Shared} {fs : List (Str × V)} (hz : Zc cls d oe) (hf : ∃ vs, oe.data = .fields vs) (I : Inv (X.suite a ((a, oe) :: pn)) pins σ H s) (ec : cls = .ref D) (ed : d = some dd) (ea : H dd = some (.xd fs)) :
    ∃ od, PySem.W.InstAt s.heap a oe D (some od) := by
  subst ec ed
  obtain ⟨ha, _⟩ := I.pin (a, oe) (List.mem_append_left _ List.mem_cons_self)
  obtain ⟨vs, hd⟩ := hf
  have hx : ObjOk X.prog X.w H s.heap dd (.xd fs) := I.hok dd _ ea
  obtain ⟨mA, hns, hr⟩ := hx
  obtain ⟨od, ho, hl⟩ := lookIn_ns hns
  exact ⟨od, ha, hz.1, by unfold PySem.W.notCls; rw [hd] <;> rfl, by rw [hz.2]; exact ho⟩
theorem exc_is {K : PySem.W.Frag} {D : Addr} (C : ExcC K D) : (PySem.W.clsIn K D).isSome = true := by
  obtain ⟨cd, hc, _⟩ := PySem.W.any_some C.hd
  rw [hc]
  rfl
def rIsX (K : PySem.W.Frag) (D a : Addr) (cls : Value) (d : Option Addr) : List V → Hp → VK → Prop := fun xs H Q => ∃ (c : V) (cv : Value) (b : Bool) (dd : Addr) (fs : List (Str × V)), xs = [.ref a, c] ∧ ClsV c cv ∧ PySem.W.kitOne K (.ref D) cv = some b ∧ cls = .ref D ∧ d = some dd ∧ H dd = some (.xd fs) ∧ Q (.bl b) H
def rIsXT (K : PySem.W.Frag) (D a : Addr) (cls : Value) (d : Option Addr) : List V → Hp → VK → Prop := fun xs H Q => ∃ (tp : Addr) (cs : List V) (cvs : List Value) (b : Bool) (dd : Addr) (fs : List (Str × V)), xs = [.ref a, .ref tp] ∧ H tp = some (.tup cs) ∧ Paired ClsV cs cvs ∧ PySem.W.kitAny K (.ref D) cvs = some b ∧ cls = .ref D ∧ d = some dd ∧ H dd = some (.xd fs) ∧ Q (.bl b) H
section
variable {X : Cx} {a D : Addr} {oe : Obj} {cls : Value} {d : Option Addr} {pn : List (Addr × Obj)}
theorem call_isX (C : ExcC X.K D) (hz : Zc cls d oe) (hf : ∃ vs, oe.data = .fields vs) : CallR (X.suite a ((a, oe) :: pn)) (.builtin "isinstance") (rIsX X.K D a cls d) := by
  intro pins s σ H xs us Q I r h
  obtain ⟨c, cv, b, dd, fs, rfl, hcv, e, ec, ed, ea, q⟩ := h
  obtain ⟨u1, u2, rfl, r1, r2⟩ := vals2 r
  have e2 := hcv.eq r2
  subst e2
  obtain rfl : u1 = Value.ref a := r1
  obtain ⟨od, J⟩ := inst_x hz hf I ec ed ea
  exact PySem.W.kia_one (PySem.W.kitx_exc (exc_is C) C.hg C.hk C.hs C.ha C.hn C.ht C.hm) I.kIn J e (fun z => nomatch z) fun tk => ⟨.bl b, H, I.kept (t' := tk) fun _ _ z => z, rfl, q⟩
theorem call_isXT (C : ExcC X.K D) (hz : Zc cls d oe) (hf : ∃ vs, oe.data = .fields vs) : CallR (X.suite a ((a, oe) :: pn)) (.builtin "isinstance") (rIsXT X.K D a cls d) := by
  intro pins s σ H xs us Q I r h
  obtain ⟨tp, cs, cvs, b, dd, fs, rfl, hT, k, e, ec, ed, ea, q⟩ := h
  obtain ⟨u1, u2, rfl, r1, r2⟩ := vals2 r
  obtain rfl : u1 = Value.ref a := r1
  cases (show u2 = Value.ref tp from r2)
  obtain ⟨od, J⟩ := inst_x hz hf I ec ed ea
  obtain ⟨_, its, rv, o, h1, h2, n, h3⟩ := (show ObjOk X.prog X.w H s.heap tp (.tup cs) from I.hok tp _ hT)
  have e3 := ClsV.all k rv
  subst e3
  obtain ⟨oc, od2, dt, sl⟩ := o
  simp only at h2 h3
  subst h2 h3
  exact PySem.W.kia_tup (PySem.W.kitx_exc (exc_is C) C.hg C.hk C.hs C.ha C.hn C.ht C.hm) I.kIn J h1 e (fun z => nomatch z) fun tk => ⟨.bl b, H, I.kept (t' := tk) fun _ _ z => z, rfl, q⟩
end
/-- the method m that is found at C keeps sp -/
structure MetR (P : Program) (w : World) (K : PySem.W.Frag) (mg : Str → Option Value) (base : Heap) (C : Addr) (m : Str) (k : Nat) (sp : Sp) : Prop where
  ex : ∃ f fd ps, Cls K C ∧ Meth K C m f ∧ Binds K fd ps [] ∧ FnOk P w K mg base (L2.CX P w) k f fd ps sp
def tMtS (C : Addr) (m : Str) (sp : Sp) (E : L2.St → XK) (ta : TE) (t : TA) : TE := fun σ H Q => ta σ H fun x H1 => ∃ a dx fs, x = .ref a ∧ H1 a = some (.ins C dx fs) ∧ fs.lookup m = none ∧ t σ H1 fun vs H2 => sp (x :: vs) H2 Q (E σ)
theorem pe_mtS {X : Cx} {C : Addr} {m : Str} {j k : Nat} {sp : Sp} {W : WX} {o e : Expr} {es : List Expr} {ta : TE} {t : TA} {pos apos : Pos} {pl : Sem Bool} (D : MetR X.prog X.w X.K X.mg X.base C m k sp) (ho : PE X o ta) (hr : Room j X.A) (tk : Takes X W) (ha : PA X (e :: es) t) (hle : k ≤ j := by decide)
    (hst : starEach (e :: es) X.env = (false, eval e X.env) :: starEach es X.env := by rfl) (hpl : (backTo pos (starEach es X.env)).any (·.1) = false := by rfl)
    (ht : eval (.Call (.Attribute o m apos) (e :: es) [] pos) X.env = (do
      let ov ← eval o X.env
      standAt apos.atName
      let (f, first) ← holding [ov] (getMethod ov m pl)
      callWith pos f first (backTo pos (starEach (e :: es) X.env)) (backToKw pos (keywordEach [] X.env))) := by rfl) : PE X (.Call (.Attribute o m apos) (e :: es) [] pos) (tMtS C m sp (WE W) ta t) := by
  obtain ⟨f, fd, ps, c, hm, hb, F⟩ := D.ex
  refine ⟨fun pins s σ H Q I h => ?_⟩
  refine PySem.W.methodCall_KW (pl := pl) (thn (ho.run pins s σ H _ I h) fun u s1 ⟨x, H1, I1, rx, a, dx, fs, ex, ea, l, q⟩ => ?_) ht
  subst ex
  obtain rfl : u = Value.ref a := rx
  refine getmeth_ok I1 ea c hm l ?_
  refine PySem.W.callWith_K (first := [.ref a]) (h₀ := X.base) I.ok.mod.kin hm.kp (thn (ha.run pos pins s1 σ H1 _ I1 q) fun us s2 ⟨vs, H2, I2, r, q2⟩ => ⟨I2.kIn, ?_⟩) hst hpl
  exact run_fnS (E := WE W) (us := .ref a :: us) (vs := .ref a :: vs) F (hr.mono hle) hb (passAt tk σ) I2 (.cons rfl r) q2
end WC

set_option maxHeartbeats 4000000
namespace WC
open PySem PySem.Spec PyProof.Rows L2 ClX
/-! a classmethod called with thirty arguments or more -/
section
variable {X : Cx} {CX : CXT} {k : Nat} {C p g : Addr} {mc : Value} {sp : Sp} {E : XK} {o e : Expr} {es : List Expr} {f m : Str} {pos apos : Pos} {ta : TE} {t : TA}
theorem pe_cmethL (he : PE X o ta) (r : CRead X.K C mc) (c : CMet X.K C mc m p g) (F : FnR X.prog X.w X.K X.mg X.base CX k g sp) (hr : Room k X.A) (hx : Passes CX X E) (ha : PA X (e :: es) t)
    (hst : starEach (e :: es) X.env = (false, eval e X.env) :: starEach es X.env := by rfl) (hpl : (backTo pos (starEach es X.env)).any (·.1) = false := by rfl)
    (ht : eval (.Call (.Attribute o m apos) (e :: es) [] pos) X.env = (do
      let ov ← eval o X.env
      standAt apos.atName
      let (f, first) ← holding [ov] (do pure (← getAttr ov m true, ([] : List Value)))
      callWith pos f first (backTo pos (starEach (e :: es) X.env)) (backToKw pos (keywordEach [] X.env))) := by rfl) :
    PE X (.Call (.Attribute o m apos) (e :: es) [] pos) (tCMeth C sp E ta t) := by
  refine ⟨fun pins s σ H Q I h => ?_⟩
  show wpAny _ _ (eval (.Call (.Attribute o m apos) (e :: es) [] pos) X.env) _ _ _
  rw [ht]
  refine wpAny_bind (thn (he.run pins s σ H _ I h) fun u s1 ⟨x, H1, I1, rx, ex, q⟩ => ?_)
  subst ex
  obtain rfl : u = Value.ref C := rx
  refine wpAny_bind (wpAny_standAt (wpAny_bind (wpAny_holding (wpAny_bind (getcmet_ok I1 r c fun s2 I2 => wpAny_pure ?_)))))
  show wpAny _ _ (callWith pos (.ref s1.heap.objs.size) [] (backTo pos (starEach (e :: es) X.env)) []) _ _ _
  refine callwith_cm I2 (base_none I1 (Nat.le_refl _)) c.fi (thn (ha.run pos _ s2 σ H1 _ I2 q) fun us s3 ⟨vs, H2, I3, rv, q2⟩ => ⟨⟨pin_at I3, I3.kIn⟩, ?_⟩) hst hpl
  exact run_cm F hr hx I3 rv q2
end
end WC

set_option maxHeartbeats 4000000
namespace WC
open PySem PySem.Spec PyProof.Rows L2
/-! an own exception made outside a raise, and its field -/
def tNewO (C : Addr) (sp : Sp) (ta : TA) : TE := fun σ H Q => ta σ H fun vs H1 => vs.length ≤ 1000 ∧ ∀ a, H1 a = none → sp (.ref a :: vs) (upd H1 a (exo a C none)) (fun v H2 => v = .non ∧ Q (.ref a) H2) (fun _ _ _ => False)
section
variable {X : Cx} {x : Str} {C : Addr} {k j n : Nat} {fl : List V → List (Str × V)} {e : Expr} {es : List Expr} {ta : TA} {p pos : Pos}
theorem pe_oex {CX : CXT} {fI : Addr} {fd : FuncData} {ps : List Str} {sp : Sp} (T : OexC X.K C) (iC : PySem.W.findIn X.K (.ref C) "__init__" = some (some (.ref fI))) (tI : PySem.W.typeIn X.K (.ref fI) = some (.type "function"))
    (F1 : FnOk X.prog X.w X.K X.mg X.base CX k fI fd ps sp) (hr : Room (k + 1) X.A) (hb : Binds X.K fd ps []) (hx : Passes CX X (fun _ _ _ => False)) (hg : Gl X x) (hm : X.mg x = some (.ref C)) (ha : PA X (e :: es) ta)
    (hdb : (x == ("__debug__" : Str)) = false := by decide) (he : starEach (e :: es) X.env = (false, eval e X.env) :: starEach es X.env := by rfl) (hpl : (backTo pos (starEach es X.env)).any (·.1) = false := by rfl) :
    PE X (.Call (.Name x p) (e :: es) [] pos) (tNewO C sp ta) := by
  refine ⟨fun pins s σ H Q I h => ?_⟩
  obtain ⟨nm, q, N, bs, bm, sn, sub, ab, col, dd, k0, k1, k2, k3, k5, hC, hbm⟩ := T.cls
  refine wpAny_Call_Name_kw (ld_glob I hg hm ?_ hdb)
  refine PySem.W.callWith_K (h₀ := X.base) I.ok.mod.kin T.kC (thn (ha.run pos pins s σ H _ I h) fun us s1 ⟨vs, H1, I1, r1, hz, q1⟩ => ⟨I1.kIn, ?_⟩) he hpl
  show wpAny _ _ (call (.ref C) us) _ _ _
  obtain ⟨hp, g, dr, tk, os⟩ := s1
  have hsz : hp.objs.size ≤ hp.objs.size + 1 := Nat.le_succ _
  have hn : H1 (hp.objs.size + 1) = none := I1.hok.fresh hsz
  have hq := q1 (hp.objs.size + 1) hn
  have kk : ∀ b o, hp.get? b = some o → ((hp.push (PySem.W.kdv_tup us)).push (PySem.HandSPX.excO C hp.objs.size)).get? b = some o := fun b o e => Heap.get?_push_of_some _ (Heap.get?_push_of_some _ e)
  have hget : ((hp.push (PySem.W.kdv_tup us)).push (PySem.HandSPX.excO C hp.objs.size)).get? (hp.objs.size + 1) = some (PySem.HandSPX.excO C hp.objs.size) := by heap_get
  have I2 : Inv X pins σ (upd H1 (hp.objs.size + 1) (exo (hp.objs.size + 1) C none)) ⟨(hp.push (PySem.W.kdv_tup us)).push (PySem.HandSPX.excO C hp.objs.size), g, dr, tk, os⟩ :=
    I1.laid (t' := tk) (a := hp.objs.size + 1) (o := exo (hp.objs.size + 1) C none) (h' := (hp.push (PySem.W.kdv_tup us)).push (PySem.HandSPX.excO C hp.objs.size)) kk hsz (exo_ok hget)
  have r2 : Vals (V.ref (hp.objs.size + 1) :: vs) (Value.ref (hp.objs.size + 1) :: us) := .cons rfl r1
  have hl : (Value.ref (hp.objs.size + 1) :: us).length = ps.length := by
    have e := r2.length
    rw [F1.len _ _ _ _ hq] at e
    exact e.symm
  have hus : us.length ≤ sizeLine := by
    rw [← Paired.length r1, sizeLine_eq]
    omega
  have bnd := hb _ (Value.ref (hp.objs.size + 1) :: us) I2.kIn (by rw [List.append_nil]; exact hl)
  rw [List.append_nil] at bnd
  refine wpAny_call (PySem.HandSPX.call_own F.excBase_ValueError (fun Y => PySem.HandSPX.refsVE_contains Y bm hbm) (I1.kIn _ _ hC) (PySem.W.looks_findIn I1.kIn iC) (fun self => PySem.W.bind_fn I1.kIn self tI) hus
    (codeAny_mono (F1.run _ X.stack _ _ ⟨Value.ref (hp.objs.size + 1) :: us, []⟩ (Value.ref (hp.objs.size + 1) :: us) _ _ (fun _ _ _ => False) (hr.make C us []) (I2.env0.make C us []) bnd r2 hq) fun r s' hq' => ?_))
  cases r with
  | error er => exact hx pins σ _ _ er s' I2 hq'
  | ok fl =>
    cases fl with
    | ret u =>
      obtain ⟨v, H2, J, rv, ev, q2⟩ := I2.after hq'
      subst ev
      exact ⟨rv, .ref (hp.objs.size + 1), H2, J, rfl, q2⟩
    | next => exact False.elim hq'
    | brk => exact False.elim hq'
    | cont => exact False.elim hq'
theorem pe_newx (T : ExcR X.prog X.w X.K X.mg X.base x C k n fl) (hr : Room j X.A) (ha : PA X (e :: es) ta) (hle : k + 1 ≤ j := by decide) (hg : Gl X x := by rfl) (hdb : (x == ("__debug__" : Str)) = false := by decide)
    (he : starEach (e :: es) X.env = (false, eval e X.env) :: starEach es X.env := by rfl) (hpl : (backTo pos (starEach es X.env)).any (·.1) = false := by rfl) : PE X (.Call (.Name x p) (e :: es) [] pos) (tNewO C (spX C n fl) ta) := by
  obtain ⟨f, fd, ps, i1, i2, i3, F⟩ := T.ini
  exact pe_oex T.txt i1 i2 F (hr.mono hle) i3 passL hg T.gC ha hdb he hpl
def tXo (C : Addr) (f : Str) (te : TE) : TE := fun σ H Q => te σ H fun x H1 => ∃ (a d : Addr) (fs : List (Str × V)) (v : V), x = .ref a ∧ H1 a = some (exo a C (some d)) ∧ H1 d = some (exd d fs) ∧ fs.lookup f = some v ∧ Q v H1
theorem pe_xo {te : TE} {f : Str} (T : XfC X.K C) (hno : PySem.W.findIn X.K (.ref C) f = some none) (he : PE X e te) (hb : attributeBase e f X.env (eval e X.env) = eval e X.env := by rfl) : PE X (.Attribute e f pos) (tXo C f te) := by
  refine ⟨fun pins s σ H Q I h => ?_⟩
  refine attr_of hb (thn (he.run pins s σ H _ I h) fun u s1 hh => ?_)
  obtain ⟨x, H1, I1, rx, a, d, fs, v, ex, ea, ed, l, q⟩ := hh
  subst ex
  obtain rfl : u = Value.ref a := rx
  obtain ⟨⟨t1, ho⟩, _⟩ := (show ObjOk X.prog X.w H1 s1.heap a (exo a C (some d)) from I1.hok a _ ea)
  obtain ⟨⟨mA, hns, hr⟩, _⟩ := (show ObjOk X.prog X.w H1 s1.heap d (exd d fs) from I1.hok d _ ed)
  obtain ⟨od, hd, hl⟩ := lookIn_ns hns
  obtain ⟨u, hu, ru⟩ := RelO.some_of (v := v) (o := mA f) (by rw [← l]; exact hr f)
  have J : PySem.W.InstAt s1.heap a _ C (some od) := ⟨ho, rfl, rfl, hd⟩
  exact PySem.HandSPX.exc_get I1.kIn J T.ga T.gg T.exC (PySem.W.findObj_own T.hdC hno rfl (by rw [hl, hu])) (handed_of ru) ⟨v, H1, I1.tok _, ru, q⟩
end
end WC

set_option maxHeartbeats 4000000
namespace WC
open PySem PySem.Spec PyProof.Rows L2
/-! zip(x, y), each a list or a tuple -/
def SqX (K : PySem.W.Frag) (H : Hp) (k : Bool) (a : Addr) (xs : List V) : Prop := match k with
  | true => SqT K H a xs
  | false => SqL K H a xs
def IsX (h : Heap) (k : Bool) (l : Addr) (items : Array Value) : Prop := match k with
  | true => h.IsTuple l items
  | false => h.IsList l items
def ItX (h : Heap) (k : Bool) (it l : Addr) (i : Nat) : Prop := match k with
  | true => h.IsTupleIter it l i
  | false => h.IsListIter it l i
theorem begX (k : Bool) (l : Addr) (items : Array Value) : ∃ o, Begins (.ref l) o (fun h => IsX h k l items) ∧ ∀ h it, h.get? it = some o → ItX h k it l 0 := by
  cases k with
  | true => exact ⟨_, begins_tuple l items, fun h it e => ⟨_, e, rfl, rfl⟩⟩
  | false => exact ⟨_, begins_list l items, fun h it e => ⟨_, e, rfl, rfl⟩⟩
theorem drX {prog : Program} {w : World} {A : Around} (hh : A.handled = none) (k : Bool) (it l : Addr) (hne : l ≠ it) (items : Array Value) : Draws prog w A it [it, l] items.size (fun i v => items[i]? = some v) (fun i h => ItX h k it l i ∧ IsX h k l items) := by
  cases k with
  | true => exact Draws.tuple hh it l hne items
  | false => exact Draws.list hh it l hne items
theorem itx_at {h h2 : Heap} {k : Bool} {it l : Addr} {i : Nat} (x : ItX h k it l i) (e : ∀ o, h.get? it = some o → h2.get? it = some o) : ItX h2 k it l i := by
  cases k with
  | true => exact Heap.IsTupleIter.at x e
  | false => exact Heap.IsListIter.at x e
theorem itx_obj {h : Heap} {k : Bool} {it l : Addr} {i : Nat} (x : ItX h k it l i) : ∃ o, h.get? it = some o ∧ (∀ v, o.data ≠ .cell v) ∧ ∃ vs, o.data = .fields vs := by
  cases k with
  | true =>
    obtain ⟨o, e, _, d⟩ := x
    refine ⟨o, e, ?_, _, d⟩
    intro v q
    rw [d] at q
    cases q
  | false =>
    obtain ⟨o, e, _, d⟩ := x
    refine ⟨o, e, ?_, _, d⟩
    intro v q
    rw [d] at q
    cases q
theorem isx_ne {h : Heap} {k k2 : Bool} {a b it : Addr} {i : Nat} {items : Array Value} (x : IsX h k a items) (y : ItX h k2 it b i) : a ≠ it := fun z => by
  obtain ⟨o2, e2, _, vs, d2⟩ := itx_obj y
  cases k with
  | true =>
    obtain ⟨o1, q1, c1, _, d1⟩ := x
    rw [z, e2] at q1
    cases q1
    rw [d1] at d2
    cases d2
  | false =>
    obtain ⟨o1, q1, c1, _, d1⟩ := x
    rw [z, e2] at q1
    cases q1
    rw [d1] at d2
    cases d2
theorem sqx_is {X : Cx} {pins : List (Addr × Obj)} {σ : L2.St} {H : Hp} {s : Shared} {k : Bool} {a : Addr} {xs : List V} (I : Inv X pins σ H s) (q : SqX X.K H k a xs) : ∃ its : List Value, Vals xs its ∧ IsX s.heap k a its.toArray := by
  cases k with
  | true =>
    obtain ⟨its, rv, p, _⟩ := I.tuple q
    exact ⟨its, rv, p⟩
  | false =>
    obtain ⟨its, rv, p, _⟩ := I.list q
    exact ⟨its, rv, p.isList⟩
theorem sqx_inj {X : Cx} {pins : List (Addr × Obj)} {σ : L2.St} {H : Hp} {s : Shared} {k : Bool} {a : Addr} {xs ys : List V} (I : Inv X pins σ H s) (q : SqX X.K H k a xs) (r : SqX X.K H k a ys) : xs = ys := by
  cases k with
  | true => exact I.tuple_inj q r
  | false => exact I.list_inj q r
def ItzM (K : PySem.W.Frag) (k1 k2 : Bool) (a b : Addr) : It :=
  ⟨fun i H => ∃ (xs ys : List V) (x y : V), SqX K H k1 a xs ∧ SqX K H k2 b ys ∧ xs[i]? = some x ∧ ys[i]? = some y,
    fun i H v H' => ∃ T x y, v = .ref T ∧ H T = none ∧ H' = upd H T (.tup [x, y]) ∧ (∀ xs, SqX K H k1 a xs → xs[i]? = some x) ∧ ∀ ys, SqX K H k2 b ys → ys[i]? = some y,
    fun i H => ∃ xs ys : List V, SqX K H k1 a xs ∧ SqX K H k2 b ys ∧ i ≤ xs.length ∧ i ≤ ys.length ∧ (xs.length = i ∨ ys.length = i)⟩
structure ZpM (z TI TO i1 i2 a b : Addr) : Prop where
  s : ZipSep2 z TI TO i1 i2 [i1, a] [i2, b]
  n1 : a ≠ i1
  n2 : b ≠ i2
theorem turn_zipM {P : Program} {w : World} {K : PySem.W.Frag} {elts : List Expr} {kk : Nat} {tpos : Pos} {k1 k2 : Bool} {a b z TI TO i1 i2 : Addr} (D : ZpM z TI TO i1 i2 a b) :
    Turn P w K (.Tuple elts kk tpos) (ItzM K k1 k2 a b) [z, TI, TO, i1, i2] z (fun i h => IsZip h z TI TO .none ∧ IsTupOf2 h TI (.ref i1) (.ref i2) ∧ (∃ x y, IsTupOf2 h TO x y) ∧ ItX h k1 i1 a i ∧ ItX h k2 i2 b i) where
  mem := by simp
  obj := fun i h st c hc => by
    obtain ⟨hz, hTI, ⟨x, y, hTO⟩, h1, h2⟩ := st
    obtain ⟨o1, e1, d1, _⟩ := itx_obj h1
    obtain ⟨o2, e2, d2, _⟩ := itx_obj h2
    have e' : c = z ∨ c = TI ∨ c = TO ∨ c = i1 ∨ c = i2 := by simpa using hc
    rcases e' with q | q | q | q | q
    · rw [q]; exact ⟨_, hz, fun v q => nomatch q⟩
    · rw [q]; exact ⟨_, hTI, fun v q => nomatch q⟩
    · rw [q]; exact ⟨_, hTO, fun v q => nomatch q⟩
    · rw [q]; exact ⟨o1, e1, d1⟩
    · rw [q]; exact ⟨o2, e2, d2⟩
  keep := fun i h h' st k => by
    obtain ⟨hz, hTI, ⟨x, y, hTO⟩, h1, h2⟩ := st
    exact ⟨k z (by simp) _ hz, k TI (by simp) _ hTI, ⟨x, y, k TO (by simp) _ hTO⟩, itx_at h1 fun o q => k i1 (by simp) o q, itx_at h2 fun o q => k i2 (by simp) o q⟩
  item := by
    intro X hP hw hK hc i pins s σ H E I hf st hg
    subst hP hw hK
    obtain ⟨hz, hTI, ⟨x0, y0, hTO⟩, h1, h2⟩ := st
    obtain ⟨xs, ys, x, y, hqx, hqy, hx, hy⟩ := hg
    obtain ⟨its, rv, p⟩ := sqx_is I hqx
    obtain ⟨its2, rv2, p2⟩ := sqx_is I hqy
    obtain ⟨u, hu, ru⟩ := rv.get hx
    obtain ⟨u2, hu2, ru2⟩ := rv2.get hy
    have hzl : z < s.heap.objs.size := Heap.lt_size hz
    have S := D.s
    have hl1 : i < its.toArray.size := by have := (List.getElem?_eq_some_iff.mp hu).1; simpa using this
    have hl2 : i < its2.toArray.size := by have := (List.getElem?_eq_some_iff.mp hu2).1; simpa using this
    refine wpAny_pyNext_zipD2_item S (drX (A := X.A.in1) (I.ok.hd hc) k1 i1 a D.n1 its.toArray) (drX (A := X.A.in1) (I.ok.hd hc) k2 i2 b D.n2 its2.toArray) hz hTI hTO ⟨h1, p⟩ ⟨h2, p2⟩ hl1 hl2 fun v1 v2 h' tk e1 e2 z' TO' h1' h2' hT hsz hk => ?_
    have e1 : its[i]? = some v1 := by simpa using e1
    have e2 : its2[i]? = some v2 := by simpa using e2
    rw [hu] at e1
    rw [hu2] at e2
    cases e1
    cases e2
    refine ⟨_, rfl, wpAny_letOwnedTupleGo_zip (s := { s with heap := h', toks := tk }) z' fun h'' z'' sb => ?_⟩
    have hT2 : h''.get? s.heap.objs.size = some { cls := .type "tuple", data := .seq #[u, u2] } := (sb.2 _ (Nat.ne_of_gt hzl)).trans hT
    have new : ObjOk X.prog X.w (upd H s.heap.objs.size (.tup [x, y])) h'' s.heap.objs.size (.tup [x, y]) :=
      ⟨by show 2 ≤ sizeLine; decide, [u, u2], .cons ru (.cons ru2 .nil), ⟨_, hT2, rfl, _, rfl⟩⟩
    have I1 : Inv X pins σ (upd H s.heap.objs.size (.tup [x, y])) { s with heap := h'', toks := tk } :=
      I.turnedNew (t' := tk) (ch := [z, TI, TO, i1, i2]) (fun c o hb q => (sb.2 c (fun q' => hb (by simp [q']))).trans (hk c o (fun q' => hb (by simp [q'])) (fun q' => hb (by simp [q'])) (fun q' => hb (by simp [q'])) (fun q' => hb (by simp [q'])) q)) hf (Nat.le_refl _) new
    refine ⟨.ref s.heap.objs.size, _, I1, rfl, ⟨_, x, y, rfl, I.hok.fresh (Nat.le_refl _), rfl, fun l hl => by rw [sqx_inj I hl hqx]; exact hx, fun l hl => by rw [sqx_inj I hl hqy]; exact hy⟩, ⟨z'', ?_, ⟨u, u2, ?_⟩, ?_, ?_⟩, fun c hcm => ?_⟩
    · exact (sb.2 _ S.TIz).trans (hk _ _ S.TIz S.TITO S.TIi1 S.TIi2 hTI)
    · exact (sb.2 _ S.TOz).trans TO'
    · exact itx_at h1'.1 fun o q => (sb.2 _ (Ne.symm S.zi1)).trans q
    · exact itx_at h2'.1 fun o q => (sb.2 _ (Ne.symm S.zi2)).trans q
    · have hlt : c < s.heap.objs.size := by
        have e' : c = z ∨ c = TI ∨ c = TO ∨ c = i1 ∨ c = i2 := by simpa using hcm
        rcases e' with q | q | q | q | q
        · rw [q]; exact hzl
        · rw [q]; exact Heap.lt_size hTI
        · rw [q]; exact Heap.lt_size hTO
        · rw [q]; obtain ⟨_, e1, _⟩ := itx_obj h1; exact Heap.lt_size e1
        · rw [q]; obtain ⟨_, e2, _⟩ := itx_obj h2; exact Heap.lt_size e2
      rw [upd_ne (Nat.ne_of_lt hlt)]
      exact (hf c hcm).1
  done := by
    intro X hP hw hK hc i pins s σ H E I hf st hg
    subst hP hw hK
    obtain ⟨hz, hTI, ⟨x0, y0, hTO⟩, h1, h2⟩ := st
    obtain ⟨xs, ys, hqx, hqy, g1, g2, hend⟩ := hg
    obtain ⟨its, rv, p⟩ := sqx_is I hqx
    obtain ⟨its2, rv2, p2⟩ := sqx_is I hqy
    have l1 := rv.length
    have l2 := rv2.length
    refine wpAny_pyNext_zipD2_end D.s (drX (A := X.A.in1) (I.ok.hd hc) k1 i1 a D.n1 its.toArray) (drX (A := X.A.in1) (I.ok.hd hc) k2 i2 b D.n2 its2.toArray) hz hTI hTO ⟨h1, p⟩ ⟨h2, p2⟩ (by simp; omega) (by simp; omega) (by simp; omega) fun h' tk hk => ⟨rfl, I.turnedL (t' := tk) (ch := [z, TI, TO, i1, i2]) (fun c o hb q =>
      hk c o (fun q' => hb (by simp [q'])) (fun q' => hb (by simp [q'])) (fun q' => hb (by simp [q'])) (fun q' => hb (by simp [q'])) q) hf⟩
  self := fun A i s Q E st h => wpAny_pyIter_zip st.1 h
def iZipM (K : PySem.W.Frag) (ta : TA) : TI := fun σ H R => ta σ H fun vs H1 => ∃ a b xs ys k1 k2, vs = [.ref a, .ref b] ∧ SqX K H1 k1 a xs ∧ SqX K H1 k2 b ys ∧ R (ItzM K k1 k2 a b) H1
theorem isx_lt {h : Heap} {k : Bool} {a : Addr} {items : Array Value} (x : IsX h k a items) : a < h.objs.size := by
  cases k with
  | true => obtain ⟨o, e, _⟩ := x; exact Heap.lt_size e
  | false => obtain ⟨o, e, _⟩ := x; exact Heap.lt_size e
theorem pi_zipM {X : Cx} {e e2 : Expr} {ta : TA} {p pos tpos : Pos} {elts : List Expr} {kk : Nat} (hm : X.mg "zip" = none) (ha : PA X [e, e2] ta) (hg : Gl X "zip" := by rfl)
    (hs : starEach [e, e2] X.env = (false, eval e X.env) :: starEach [e2] X.env := by rfl) (hpl : (backTo pos (starEach [e2] X.env)).any (·.1) = false := by rfl) :
    PI X (.Tuple elts kk tpos) (.Call (.Name "zip" p) [e, e2] [] pos) (iZipM X.K ta) := by
  refine ⟨fun pins s σ H R I h => ?_⟩
  refine Call_ (ld_blt I hg hm PyProof.Rows.boot_zip (PyProof.Rows.callWith_type1 (thn (ha.run pos pins s σ H _ I h) fun us s1 ⟨vs, H1, I1, r1, q1⟩ => ?_) hs hpl))
  obtain ⟨a, b, xs, ys, k1, k2, ex, hqx, hqy, q⟩ := q1
  subst ex
  cases r1 with
  | cons r rr =>
    cases rr with
    | cons r' rr =>
      cases rr
      cases r
      cases r'
      obtain ⟨its, rv, p1⟩ := sqx_is I1 hqx
      obtain ⟨its2, rv2, p2⟩ := sqx_is I1 hqy
      obtain ⟨o1, B1, g1⟩ := begX k1 a its.toArray
      obtain ⟨o2, B2, g2⟩ := begX k2 b its2.toArray
      have l1 := isx_lt p1
      have l2 := isx_lt p2
      refine zip_begins2 B1 B2 p1 p2 fun h' hz hTI hTO ho1 ho2 hsz hk => wpAny_pyIter_zip hz ?_
      have I2 : Inv X pins σ H1 { s1 with heap := h' } := I1.kept (t' := s1.toks) hk
      have D : ZpM (s1.heap.objs.size + 4) (s1.heap.objs.size + 2) (s1.heap.objs.size + 3) s1.heap.objs.size (s1.heap.objs.size + 1) a b :=
        ⟨zip_sep2 (fun c hc => by rw [List.mem_singleton.mp hc]; exact l1) (fun c hc => by rw [List.mem_singleton.mp hc]; exact l2), Nat.ne_of_lt l1, Nat.ne_of_lt (Nat.lt_succ_of_lt l2)⟩
      refine ⟨s1.heap.objs.size + 4, [s1.heap.objs.size + 4, s1.heap.objs.size + 2, s1.heap.objs.size + 3, s1.heap.objs.size, s1.heap.objs.size + 1], _, _, H1, rfl, I2, turn_zipM D, ⟨hz, hTI, ⟨_, _, hTO⟩, g1 _ _ ho1, g2 _ _ ho2⟩, fun c hcm => ?_, q⟩
      have e' : c = s1.heap.objs.size + 4 ∨ c = s1.heap.objs.size + 2 ∨ c = s1.heap.objs.size + 3 ∨ c = s1.heap.objs.size ∨ c = s1.heap.objs.size + 1 := by simpa using hcm
      have hle : s1.heap.objs.size ≤ c := by
        rcases e' with z | z | z | z | z
        · rw [z]; exact Nat.le_add_right _ _
        · rw [z]; exact Nat.le_add_right _ _
        · rw [z]; exact Nat.le_add_right _ _
        · rw [z]; exact Nat.le_refl _
        · rw [z]; exact Nat.le_add_right _ _
      exact I1.fpOk hle (I1.hok.fresh hle)
theorem walk_zipM {K : PySem.W.Frag} {k1 k2 : Bool} {a b : Addr} {xs ys : List V} (hl : xs.length = ys.length) : Walk (ItzM K k1 k2 a b) xs.length (fun H => SqX K H k1 a xs ∧ SqX K H k2 b ys) (YPair (fun i => xs[i]?) (fun i => ys[i]?)) := by
  refine ⟨fun i _ hi q => ⟨xs, ys, xs[i], ys[i], q.1, q.2, by simp [hi], by simp [hl ▸ hi]⟩, fun _ q => ⟨xs, ys, q.1, q.2, Nat.le_refl _, by omega, .inl rfl⟩, fun i H v H2 _ q y => ?_⟩
  obtain ⟨T, x, z, h1, h2, h3, h4, h5⟩ := y
  exact ⟨T, x, z, h1, h2, h3, h4 xs q.1, h5 ys q.2⟩
/-- readings that name the written part -/
theorem c_isi {X : Cx} {K : PySem.W.Frag} (h : X.K = K := by rfl) : CallR X (.builtin "isinstance") (rIsi K) := by
  subst h
  exact call_isi
theorem c_lenS {X : Cx} {K : PySem.W.Frag} (h : X.K = K := by rfl) : CallR X (.builtin "len") (fun xs H Q => ∃ p ys, xs = [.ref p] ∧ (SqL K H p ys ∨ SqT K H p ys) ∧ Q (.int ys.length) H) := by
  subst h
  exact call_len_seq
end WC

set_option maxHeartbeats 4000000
namespace WC
open PySem PySem.Spec PyProof.Rows L2
/-! small rules -/
theorem pe_mtr {X : Cx} {C : Addr} {m : Str} {j k : Nat} {sp : Sp} {E : XK} {o e : Expr} {es : List Expr} {ta : TE} {t : TA} {pos apos : Pos} {pl : Sem Bool} (D : MetR X.prog X.w X.K X.mg X.base C m k sp) (ho : PE X o ta) (hr : Room j X.A) (hx : Passes (L2.CX X.prog X.w) X E) (ha : PA X (e :: es) t) (hle : k ≤ j := by decide)
    (hst : starEach (e :: es) X.env = (false, eval e X.env) :: starEach es X.env := by rfl) (hpl : (backTo pos (starEach es X.env)).any (·.1) = false := by rfl)
    (ht : eval (.Call (.Attribute o m apos) (e :: es) [] pos) X.env = (do
      let ov ← eval o X.env
      standAt apos.atName
      let (f, first) ← holding [ov] (getMethod ov m pl)
      callWith pos f first (backTo pos (starEach (e :: es) X.env)) (backToKw pos (keywordEach [] X.env))) := by rfl) : PE X (.Call (.Attribute o m apos) (e :: es) [] pos) (tMeth C m sp [] E ta t) := by
  obtain ⟨f, fd, ps, c, hm, hb, F⟩ := D.ex
  exact pe_meth (pl := pl) ho c hm F (hr.mono hle) hb .nil hx ha hst hpl ht
theorem pe_mtr0 {X : Cx} {C : Addr} {m : Str} {j k : Nat} {sp : Sp} {E : XK} {o : Expr} {ta : TE} {pos apos : Pos} {pl : Sem Bool} (D : MetR X.prog X.w X.K X.mg X.base C m k sp) (ho : PE X o ta) (hr : Room j X.A) (hx : Passes (L2.CX X.prog X.w) X E) (hle : k ≤ j := by decide)
    (ht : eval (.Call (.Attribute o m apos) [] [] pos) X.env = (do
      let ov ← eval o X.env
      standAt apos.atName
      let (f, first) ← holding [ov] (getMethod ov m pl)
      callWith pos f first (backTo pos (starEach [] X.env)) (backToKw pos (keywordEach [] X.env))) := by rfl) : PE X (.Call (.Attribute o m apos) [] [] pos) (tMeth C m sp [] E ta tNil) := by
  obtain ⟨f, fd, ps, c, hm, hb, F⟩ := D.ex
  exact pe_meth0 (pl := pl) ho c hm F (hr.mono hle) hb .nil hx ht
/-- C(*e) -/
def tMake1 (K : PySem.W.Frag) (C : Addr) (sp : Sp) (E : XK) (te : TE) : TE := fun σ H Q => te σ H fun y H1 => ∃ a xs, y = V.ref a ∧ (SqT K H1 a xs ∨ SqL K H1 a xs) ∧ ∀ x dx, H1 x = none → H1 dx = none → dx ≠ x →
  sp (V.ref x :: xs) (upd (upd H1 dx (.own x)) x (.ins C dx [])) (fun v H2 => v = .non ∧ Q (.ref x) H2) E
theorem pe_ccs1 {X : Cx} {j k : Nat} {C : Addr} {sp : Sp} {E : XK} {x : Str} {e : Expr} {te : TE} {p sp_ pos : Pos} (D : ClsR X.prog X.w X.K X.mg X.base C k sp) (hm : X.mg x = some (.ref C)) (hr : Room j X.A) (hx : Passes (L2.CX X.prog X.w) X E) (he : PE X e te) (hle : k + 1 ≤ j := by decide) (hg : Gl X x := by rfl) (hdb : (x == ("__debug__" : Str)) = false := by decide)
    (hst : starEach [.Starred e sp_] X.env = [(true, eval e X.env)] := by rfl) : PE X (.Call (.Name x p) [.Starred e sp_] [] pos) (tMake1 X.K C sp E te) := by
  obtain ⟨f, M, F⟩ := D.ex
  refine ⟨fun pins s σ H Q I h => ?_⟩
  refine wpAny_Call_Name_kw (ld_glob I hg hm ?_ hdb)
  refine PySem.W.callWith_S (h₀ := X.base) I.ok.mod.kin M.kp (thn (he.run pins s σ H _ I h) fun v s1 ⟨y, H1, I1, ry, a, xs, ey, hxs, q⟩ => ?_) hst
  subst ey
  obtain rfl : v = Value.ref a := ry
  exact StX.star_any I1 hxs fun us s2 I2 rv => ⟨I2.kIn, StX.run_makeR M F (hr.mono hle) hx I2 rv q⟩
theorem pe_cvalK {X : Cx} {K : PySem.W.Frag} {e : Expr} {ta : TE} {f : Str} {pos : Pos} (he : PE X e ta) (hb : attributeBase e f X.env (eval e X.env) = eval e X.env := by rfl) (h : X.K = K := by rfl) : PE X (.Attribute e f pos) (ClX.tCVal K ta f) := by
  subst h
  exact ClX.pe_cval he hb
theorem pi_revK {X : Cx} {K : PySem.W.Frag} {tg e : Expr} {te : TE} {p pos : Pos} (hm : X.mg "reversed" = none) (he : PE X e te) (hg : Gl X "reversed" := by rfl) (hs : starEach [e] X.env = (false, eval e X.env) :: starEach [] X.env := by rfl) (h : X.K = K := by rfl) : PI X tg (.Call (.Name "reversed" p) [e] [] pos) (RT.iRevA K te) := by
  subst h
  exact RT.pi_revA hg hm he hs
theorem i_seq {X : Cx} {K : PySem.W.Frag} (h : X.K = K := by rfl) : IxR X (rIx K) := by
  subst h
  exact ix_seq
theorem walk_revT {K : PySem.W.Frag} {a : Addr} {xs : List V} : Walk (RT.ItvT K a xs.length) xs.length (fun H => SqT K H a xs) (fun i H x H' => H' = H ∧ xs[xs.length - 1 - i]? = some x) := by
  refine ⟨fun i _ hi q => ⟨hi, xs, xs[xs.length - 1 - i]'(by omega), q, by rw [List.getElem?_eq_getElem]⟩, fun _ q => Nat.le_refl _, fun i H v H2 _ q y => ⟨y.1, y.2 xs q⟩⟩
/-- an own error leaves: its dict is new, all else stands -/
def ErrX (E : XK) (C : Addr) (H : Hp) (fs : List (Str × V)) : Prop := ∀ H2 d, Same H H2 → H d = none → H2 d = some (.xd fs) → E (.ref C) (some d) H2
theorem ErrX.on {E : XK} {C : Addr} {H H1 : Hp} {fs : List (Str × V)} (h : ErrX E C H fs) (s : Same H H1) : ErrX E C H1 fs := fun H2 d s2 hd e => h H2 d (s.trans s2) (s.free hd) e
theorem ErrX.new {E : XK} {C : Addr} {H : Hp} {fs : List (Str × V)} (h : ErrX E C H fs) : ∀ d, H d = none → E (.ref C) (some d) (upd H d (.xd fs)) := fun d hd => h _ d (Same.new hd) hd upd_same
theorem fld4_none {m : Str} {a b c d : V} (h1 : m ≠ "stages") (h2 : m ≠ "channels") (h3 : m ≠ "_incoming") (h4 : m ≠ "_outgoing") : List.lookup m [(("stages" : Str), a), (("channels" : Str), b), (("_incoming" : Str), c), (("_outgoing" : Str), d)] = none := by
  simp only [List.lookup_cons, beq_eq_false_iff_ne.mpr h1, beq_eq_false_iff_ne.mpr h2, beq_eq_false_iff_ne.mpr h3, beq_eq_false_iff_ne.mpr h4, List.lookup_nil]
theorem bt_bool : bootBuiltins "bool" = some (.type "bool") := by decide +kernel
theorem bt_reversed : bootBuiltins "reversed" = some (.type "reversed") := by decide +kernel
end WC

set_option maxHeartbeats 4000000
namespace WC
open PySem PySem.Spec PyProof.Rows L2
/-! an own exception without fields: X(), and isinstance of it -/
structure ExcN (K : PySem.W.Frag) (mg : Str → Option Value) (x : Str) (C : Addr) : Prop where
  ex : ∃ B newId initId bmB, ExcBaseFacts B newId initId bmB ∧ PySem.W.excIn K C bmB newId = true
  gC : mg x = some (.ref C)
  kC : PySem.W.keepIn K (.ref C) = true
  sub : PySem.W.subIn K (.ref C) (.type "BaseException") = some true
  ty : PySem.W.typeIn K (.ref C) = some (.type "type")
def ErrN (E : XK) (C : Addr) (H : Hp) : Prop := ∀ H2, Same H H2 → E (.ref C) none H2
theorem ErrN.on {E : XK} {C : Addr} {H H1 : Hp} (h : ErrN E C H) (s : Same H H1) : ErrN E C H1 := fun H2 s2 => h H2 (s.trans s2)
section
variable {X : Cx} {x : Str} {C : Addr} {p pos : Pos}
theorem pmk_n (T : ExcN X.K X.mg x C) (hg : Gl X x := by rfl) (hdb : (x == ("__debug__" : Str)) = false := by decide) : PMk X (.Call (.Name x p) [] [] pos) (fun _ H Q => Q (.ref C) none H) := by
  obtain ⟨B, newId, initId, bmB, F, q⟩ := T.ex
  intro pins s σ H Q I h
  refine wpAny_Call_Name_kw (ld_glob I hg T.gC ?_ hdb)
  refine PySem.W.callWith_K0 I.kIn T.kC ?_
  show wpAny _ _ (call (.ref C) []) _ _ _
  obtain ⟨bm, N, nm, qn, bs, hdct, sn, sub, ab, col, dd, k0, k1, k2, k3, k5, mN, hC, hN, hni, Z⟩ := exc_obj I.kIn q
  refine wpAny_call_exc_subT F Z hC hN hni (fun h' e hm => ?_) (Nat.zero_le _)
  exact mk_of I hm (raises_own T.sub T.ty) h (I.hok.gone hm.new)
end
def rIsN (K : PySem.W.Frag) (D a : Addr) (cls : Value) (d : Option Addr) : List V → Hp → VK → Prop := fun xs H Q => ∃ (c : V) (cv : Value) (b : Bool), xs = [.ref a, c] ∧ ClsV c cv ∧ PySem.W.kitOne K (.ref D) cv = some b ∧ cls = .ref D ∧ d = none ∧ Q (.bl b) H
def rIsNT (K : PySem.W.Frag) (D a : Addr) (cls : Value) (d : Option Addr) : List V → Hp → VK → Prop := fun xs H Q => ∃ (tp : Addr) (cs : List V) (cvs : List Value) (b : Bool), xs = [.ref a, .ref tp] ∧ H tp = some (.tup cs) ∧ Paired ClsV cs cvs ∧ PySem.W.kitAny K (.ref D) cvs = some b ∧ cls = .ref D ∧ d = none ∧ Q (.bl b) H
section
variable {X : Cx} {a D : Addr} {oe : Obj} {cls : Value} {d : Option Addr} {pn : List (Addr × Obj)}
theorem inst_n {pins : List (Addr × Obj)} {σ : L2.St} {H : Hp} {s : Shared} (hz : Zc cls d oe) (hf : ∃ vs, oe.data = .fields vs) (I : Inv (X.suite a ((a, oe) :: pn)) pins σ H s) (ec : cls = .ref D) (ed : d = none) : PySem.W.InstAt s.heap a oe D none := by
  subst ec ed
  obtain ⟨hget, _⟩ := I.pin (a, oe) (List.mem_append_left _ List.mem_cons_self)
  obtain ⟨vs, hv⟩ := hf
  obtain ⟨oc, od, oda, osl⟩ := oe
  obtain ⟨h1, h2⟩ := hz
  dsimp only at h1 h2 hv
  subst h1 h2 hv
  exact ⟨hget, rfl, rfl, trivial⟩
theorem call_isN (C : ExcC X.K D) (hz : Zc cls d oe) (hf : ∃ vs, oe.data = .fields vs) : CallR (X.suite a ((a, oe) :: pn)) (.builtin "isinstance") (rIsN X.K D a cls d) := by
  intro pins s σ H xs us Q I r h
  obtain ⟨c, cv, b, rfl, hcv, e, ec, ed, q⟩ := h
  obtain ⟨u1, u2, rfl, r1, r2⟩ := vals2 r
  have e2 := hcv.eq r2
  subst e2
  obtain rfl : u1 = Value.ref a := r1
  exact PySem.W.kia_one (PySem.W.kitx_exc (exc_is C) C.hg C.hk C.hs C.ha C.hn C.ht C.hm) I.kIn (inst_n hz hf I ec ed) e (fun z => nomatch z) fun tk => ⟨.bl b, H, I.kept (t' := tk) fun _ _ z => z, rfl, q⟩
theorem call_isNT (C : ExcC X.K D) (hz : Zc cls d oe) (hf : ∃ vs, oe.data = .fields vs) : CallR (X.suite a ((a, oe) :: pn)) (.builtin "isinstance") (rIsNT X.K D a cls d) := by
  intro pins s σ H xs us Q I r h
  obtain ⟨tp, cs, cvs, b, rfl, hT, k, e, ec, ed, q⟩ := h
  obtain ⟨u1, u2, rfl, r1, r2⟩ := vals2 r
  obtain rfl : u1 = Value.ref a := r1
  cases (show u2 = Value.ref tp from r2)
  obtain ⟨_, its, rv, o, h1, h2, n, h3⟩ := (show ObjOk X.prog X.w H s.heap tp (.tup cs) from I.hok tp _ hT)
  have e3 := ClsV.all k rv
  subst e3
  obtain ⟨oc, od2, dt, sl⟩ := o
  simp only at h2 h3
  subst h2 h3
  exact PySem.W.kia_tup (PySem.W.kitx_exc (exc_is C) C.hg C.hk C.hs C.ha C.hn C.ht C.hm) I.kIn (inst_n hz hf I ec ed) h1 e (fun z => nomatch z) fun tk => ⟨.bl b, H, I.kept (t' := tk) fun _ _ z => z, rfl, q⟩
end
/-- a tuple of texts at the top -/
structure TupG (K : PySem.W.Frag) (mg : Str → Option Value) (x : Str) (xs : List V) : Prop where
  ex : ∃ a, mg x = some (.ref a) ∧ ∀ H : Hp, SqT K H a xs
end WC

set_option maxHeartbeats 4000000
namespace WC
open PySem PySem.Spec PyProof.Rows L2 L2H HotX
/-! lists gone over, and comprehensions, while an exception is handled -/
section
variable {prog : Program} {w : World} {A : Around} {E : Value → Shared → Prop} {s : Shared}
/-- a list iterator's end there: its StopIteration gets the handled one as its context -/
theorem list_out_hot {it l x1 : Addr} {i : Nat} {items : Array Value} {Q : Option Value → Shared → Prop} (hot : HotAt A x1 s.heap) (hi : s.heap.IsListIter it l i) (hl : s.heap.IsList l items) (ho : items[i]? = none)
    (q : ∀ g : Heap, (∀ b o, b ≠ it → s.heap.get? b = some o → g.get? b = some o) → Q none { s with heap := g }) : wpAny (model prog w) A (pyNext (.ref it)) Q E s := by
  obtain ⟨hh, oH, vH, gH, dH, cH⟩ := hot
  obtain ⟨oi, gi_, ci, di⟩ := id hi
  obtain ⟨ol, gl, _, nl, dl⟩ := hl
  have x1it : x1 ≠ it := fun z => by
    rw [z, gi_] at gH
    cases gH
    rw [di] at dH
    cases dH
    cases cH
  unfold pyNext
  refine wpAny_bind (wpAny_attempt (wpAny_callSpecial?_slot (name := Str.ofString "__next__") hi.typeIs slot_listiter_next (wpAny_call_entry slot_listiter_next hi.typeIs entry_listiter_next ?_ (args_listiter_next _))))
  show wpAny _ _ (field (.ref it) 0 >>= _) _ _ _
  refine wpAny_bind (wpAny_field gi_ di (x := .ref l) rfl ?_)
  show wpAny _ _ (if (Value.ref l == Value.none) = true then _ else _) _ _ _
  rw [if_neg (by simp : ¬ (Value.ref l == Value.none) = true)]
  show wpAny _ _ (field (.ref it) 1 >>= _) _ _ _
  refine wpAny_bind (wpAny_field gi_ di (x := .int i 0) rfl ?_)
  show wpAny _ _ (seqItems? (.ref l) >>= _) _ _ _
  refine wpAny_bind (wpAny_seqItems gl dl ?_)
  simp only [Int.toNat_natCast, ho]
  refine wpAny_bind (wpAny_rule (wpAny_bind (wpAny_setField gi_ di (by simp) ?_)))
  show wpAny _ _ (newExc (.type "StopIteration") [] >>= _) _ _ _
  simp only [newExc, newTuple]
  refine wpAny_bind (wpAny_bind (wpAny_newObj_type ?_ (by size_fits)))
  refine wpAny_bind (m := firstArgMember _ _) (wpAny_of_eq (a := Value.none) (by first | rfl | (simp only [firstArgMember]; rfl)) ?_)
  refine wpAny_newObj_type ?_ (by size_fits)
  have st : ∀ {b : Addr} {o : Obj} {f : Obj → Obj} {u1 u2 : Obj}, b ≠ it → s.heap.get? b = some o → (((s.heap.update it f).push u1).push u2).get? b = some o := fun {b o f u1 u2} n e => Heap.get?_push_of_some _ (Heap.get?_push_of_some _ (by rw [Heap.get?_update_other _ _ (Ne.symm n)]; exact e))
  refine raiseNew_hot ⟨hh, oH, vH, st x1it gH, dH, cH⟩ (Nat.ne_of_lt (Heap.lt_size (Heap.get?_push_of_some _ (by rw [Heap.get?_update_other _ _ (Ne.symm x1it)]; exact gH)))) (Heap.get?_push_size _ rfl) rfl (by first | (simp; done) | (simp; omega)) ?_
  refine wpAny_bind (wpAny_isInstance (T := "StopIteration") (b := true) ⟨_, Heap.get?_update_self _ (Heap.get?_push_size _ rfl) rfl, rfl⟩ isSubtype_stop ?_)
  refine wpAny_pure (q _ fun b o n e => ?_)
  rw [Heap.get?_update_other _ _ (Nat.ne_of_gt (Heap.lt_size (Heap.get?_push_of_some _ (by rw [Heap.get?_update_other _ _ (Ne.symm n)]; exact e))))]
  exact st n e
end
theorem turn_listH {P : Program} {w : World} {K : PySem.W.Frag} {tg : Expr} (a it : Addr) : TurnH P w K tg (Itl K a) [it] it (fun i h => h.IsListIter it a i) where
  mem := (turn_list (P := P) (w := w) (K := K) (tg := tg) a it).mem
  obj := (turn_list (P := P) (w := w) (K := K) (tg := tg) a it).obj
  keep := (turn_list (P := P) (w := w) (K := K) (tg := tg) a it).keep
  item := by
    rintro X rfl rfl rfl hc i pins s σ H E I hf st ⟨xs, x, hq, hx⟩
    obtain ⟨its, rv, p, _⟩ := I.list hq
    obtain ⟨u, hu, ru⟩ := rv.get hx
    obtain ⟨f0, f1, f2, f3, f4, f5⟩ := hf it (List.mem_singleton.mpr rfl)
    refine wpAny_pyNext_list_item st p.isList (x := u) (by simpa using hu) fun g sg sb => ?_
    have J : Inv X pins σ H { s with heap := g } := I.turned (t' := s.toks) (fun b o nb eb => (sb.2 b nb).trans eb) f0 f1 f3 f4 f5
    obtain ⟨o, e, c, d⟩ := id sg
    exact ⟨u, rfl, go_of (s := { s with heap := g }) e c d (by decide) ⟨x, H, J, ru, ⟨rfl, fun ys hy => by rw [I.list_inj hy hq]; exact hx⟩, sg, fun b hb => (hf b hb).1⟩⟩
  done := by
    rintro X rfl rfl rfl hc i pins s σ H E I hf st ⟨xs, hq, hx⟩
    obtain ⟨its, rv, p, _⟩ := I.list hq
    obtain ⟨f0, f1, f2, f3, f4, f5⟩ := hf it (List.mem_singleton.mpr rfl)
    have hl := rv.length
    obtain ⟨x1, hot⟩ := hc.at I
    exact list_out_hot hot st p.isList (by simp; omega) fun g eg => ⟨rfl, I.turned (t' := s.toks) (fun b o nb eb => eg b o nb eb) f0 f1 f3 f4 f5⟩
  self := (turn_list (P := P) (w := w) (K := K) (tg := tg) a it).self
theorem pi_listH {X : Cx} {tg l : Expr} {tl : TE} (hl : PE X l tl) : PIH X tg l (iList X.K tl) := by
  refine ⟨fun pins s σ H R I h => thn (hl.run pins s σ H _ I h) fun v s1 ⟨x, H1, I1, r1, a, ex, ⟨xs, hq⟩, q⟩ => ?_⟩
  subst ex
  cases r1
  obtain ⟨its, rv, p, _⟩ := I1.list hq
  refine wpAny_pyIter_list p.isList ⟨s1.heap.objs.size, [s1.heap.objs.size], _, _, H1, rfl, I1.kept (t' := s1.toks) fun b o e => Heap.get?_push_of_some _ e, turn_listH a _, ⟨_, Heap.get?_push_size _ rfl, rfl, rfl⟩, fun b hb => ?_, q⟩
  rw [List.mem_singleton.mp hb]
  exact I1.fpOk (Nat.le_refl _) (I1.hok.fresh (Nat.le_refl _))
end WC

set_option maxHeartbeats 4000000
namespace WC
open PySem PySem.Spec PyProof.Rows L2 L2H HotX
/-- a comprehension while an exception is handled: its block keeps the handled one among the pins -/
theorem pe_lcH {X : Cx} {elt tg iter : Expr} {ifs : List Expr} {scope : Scope} {own : List (Str × Nat)} {pos : Pos} {wi : TI} {g : TG} {tt : TT} {te : TE} (hc : HotC X) (hN : X.N.Nodup) (hi : PIH X tg iter wi) (ok : BlkOk X.N X.env.scope scope own)
    (hg : ∀ (s0 : Shared) (G : Hp) (C : Addr) (cl : List (Str × Addr)) (ip : List Addr), PG (X.blk s0 G scope (compEnvC scope cl C X.env) ip) tg g) (ht : ∀ (s0 : Shared) (G : Hp) (C : Addr) (cl : List (Str × Addr)) (ip : List Addr), PTs (X.blk s0 G scope (compEnvC scope cl C X.env) ip) ifs tt)
    (he : ∀ (s0 : Shared) (G : Hp) (C : Addr) (cl : List (Str × Addr)) (ip : List Addr), PE (X.blk s0 G scope (compEnvC scope cl C X.env) ip) elt te) (hs : ∀ x, foldedSetIterable iter X.env x = pure x := by intro _; rfl) :
    PE X (.ListComp elt [⟨tg, iter, ifs, 0⟩] scope pos) (tLc wi g tt te (own.map (·.2))) := by
  refine ⟨fun pins s σ H Q I h => ?_⟩
  rw [eval_ListComp]
  obtain ⟨p, hot, hp⟩ := hc
  have fr : ∀ y ∈ scope.names, y.2 = .free → ∃ c, X.env.cells.lookup y.1 = some c := fun y hy e => (ok.free y hy e).elim (fun k => I.ok.has _ (.inl k)) (fun k => I.ok.has _ (.inr k))
  refine wpAny_comprehension_free (use := none) rfl hs (closure_ok fr) ok.kind (fun y hy e => by rw [ok.uniq y hy, e]) (thn (hi.run pins s σ H _ I h) fun _ sA hx => thn hx fun _ sB hB => ?_)
  obtain ⟨it, ip, tn, J, HB, rfl, IB, T, tB, fB, q⟩ := hB
  refine wpAny_newObj_type (newEnv_comp ?_) (Nat.zero_le _)
  obtain ⟨D, eD⟩ : ∃ D, D = sB.heap.objs.size := ⟨_, rfl⟩
  rw [← eD]
  obtain ⟨W, ⟨m0, w0⟩, turn⟩ := q D (IB.hok.fresh (Nat.le_of_eq eD.symm))
  obtain ⟨sC, eC⟩ : ∃ sC : Shared, sC = { sB with heap := sB.heap.push { cls := .type "list", data := .seq ([] : List Value).toArray } } := ⟨_, rfl⟩
  have pC : sC.heap = sB.heap.push { cls := .type "list", data := .seq ([] : List Value).toArray } := by rw [eC]
  have IC : Inv X pins σ (upd HB D (.lst [])) sC := by
    rw [eC]
    exact IB.laid (t' := sB.toks) (fun b o e => Heap.get?_push_of_some _ e) (Nat.le_of_eq eD.symm) ⟨Nat.zero_le _, [], 0, .nil, by rw [eD]; exact Heap.get?_push_size _ rfl⟩
  have low : ∀ b ∈ ip, b < D := fun b hb => by
    obtain ⟨o, e, _⟩ := T.obj _ _ tB b hb
    rw [eD]
    exact Heap.lt_size e
  have fC : ∀ b ∈ ip, FpOk X pins (upd HB D (.lst [])) b ∧ b < sC.heap.objs.size := fun b hb => by
    refine ⟨⟨by rw [upd_ne (Nat.ne_of_lt (low b hb))]; exact (fB b hb).1, (fB b hb).2⟩, ?_⟩
    rw [pC, Heap.size_push, ← eD]
    exact Nat.lt_succ_of_lt (low b hb)
  have tC : tn 0 sC.heap := T.keep _ _ _ tB fun b _ o e => by rw [pC]; exact Heap.get?_push_of_some _ e
  have ID := block_start IC ok hN fC
  have kg := hg sC (upd HB D (.lst [])) sC.heap.objs.size (cellsFrom (sC.heap.objs.size + 1) scope.names (cloFrom X.env.cells scope.names [])) ip
  have kt := ht sC (upd HB D (.lst [])) sC.heap.objs.size (cellsFrom (sC.heap.objs.size + 1) scope.names (cloFrom X.env.cells scope.names [])) ip
  have ke := he sC (upd HB D (.lst [])) sC.heap.objs.size (cellsFrom (sC.heap.objs.size + 1) scope.names (cloFrom X.env.cells scope.names [])) ip
  -- the handled exception's object
  have hpC := IC.pin p (List.mem_append_left _ hp)
  have pFs : p.1 ∉ frs X.stack := fun hm => (List.mem_cons.mp (IC.stkSub p.1 hm)).elim hpC.2.2.1 hpC.2.2.2.1
  have pIp : ∀ b ∈ ip, p.1 ≠ b := fun b hb => (fC b hb).1.2.2.2.2.2 p (List.mem_append_left _ hp)
  rw [← eC]
  show codeAny _ _ (.compStart (.ListComp elt [⟨tg, iter, ifs, 0⟩] scope pos) 0 (.ref it) (.ref D) (compEnvC scope (cellsFrom (sC.heap.objs.size + 1) scope.names (cloFrom X.env.cells scope.names [])) sC.heap.objs.size X.env)) (compPost (model X.prog X.w) X.A X.xe none (EP X pins σ Q) (.ref D) sC.heap.objs.size) { sC with heap := pushCells (sC.heap.push { cls := .type "dict", data := .dict #[] }) scope.names }
  obtain ⟨ce, ece⟩ : ∃ ce, ce = compEnvC scope (cellsFrom (sC.heap.objs.size + 1) scope.names (cloFrom X.env.cells scope.names [])) sC.heap.objs.size X.env := ⟨_, rfl⟩
  have ceL : ce.locals = sC.heap.objs.size := by rw [ece]; rfl
  obtain ⟨HC, eHC⟩ : ∃ HC, HC = upd HB D (.lst []) := ⟨_, rfl⟩
  obtain ⟨sD, eSD⟩ : ∃ sD : Shared, sD = { sC with heap := pushCells (sC.heap.push { cls := .type "dict", data := .dict #[] }) scope.names } := ⟨_, rfl⟩
  rw [← ece, ← eHC] at kg kt ke
  rw [← ece, ← eHC, ← eSD] at ID
  rw [← eHC] at IC fC w0 hpC
  rw [← ece, ← eSD]
  have kp : ∀ {b : Addr} {o : Obj}, sC.heap.get? b = some o → sD.heap.get? b = some o := fun {b o} e => by rw [eSD]; exact pushCells_keeps _ _ _ _ (Heap.get?_push_of_some _ e)
  have tD : tn 0 sD.heap := T.keep _ _ _ tC fun b _ o e => kp e
  -- the block with the handled exception among its own pins
  obtain ⟨Y, eY⟩ : ∃ Y : Cx, Y = { X.blk sC HC scope ce ip with pn := [p] } := ⟨_, rfl⟩
  have toY : ∀ {ps : List (Addr × Obj)} {τ : L2.St} {G : Hp} {s' : Shared}, Inv (X.blk sC HC scope ce ip) (p :: ps) τ G s' → Inv Y ps τ G s' := fun {ps τ G s'} Z => by
    rw [eY]
    exact ⟨⟨Z.ok.mod, Z.ok.kind, Z.ok.glob, Z.ok.blt, Z.ok.above, Z.ok.inj, Z.ok.has, Z.ok.cab, Z.ok.hd, Z.ok.frames, Z.ok.stk, Z.ok.exf, Z.ok.bs, Z.ok.bsz, Z.ok.noex, Z.ok.exfs, Z.ok.funs, Z.ok.frf⟩, Z.os, Z.bare, Z.base, Z.loc, Z.cell, Z.free, Z.freeC, Z.pin, Z.hok, Z.len⟩
  have ofY : ∀ {ps : List (Addr × Obj)} {τ : L2.St} {G : Hp} {s' : Shared}, Inv Y ps τ G s' → Inv (X.blk sC HC scope ce ip) (p :: ps) τ G s' := fun {ps τ G s'} Z => by
    rw [eY] at Z
    exact ⟨⟨Z.ok.mod, Z.ok.kind, Z.ok.glob, Z.ok.blt, Z.ok.above, Z.ok.inj, Z.ok.has, Z.ok.cab, Z.ok.hd, Z.ok.frames, Z.ok.stk, Z.ok.exf, Z.ok.bs, Z.ok.bsz, Z.ok.noex, Z.ok.exfs, Z.ok.funs, Z.ok.frf⟩, Z.os, Z.bare, Z.base, Z.loc, Z.cell, Z.free, Z.freeC, Z.pin, Z.hok, Z.len⟩
  have hotY : HotC Y := by
    rw [eY]
    exact ⟨p, hot, List.mem_singleton.mpr rfl⟩
  have I0 : Inv (X.blk sC HC scope ce ip) [p] (wipe σ (own.map (·.2))) HC sD := ⟨ID.ok, ID.os, ID.bare, ID.base, ID.loc, ID.cell, ID.free, ID.freeC, fun z hz => by
    have ez : z = p := by
      rcases List.mem_append.mp hz with m | m
      · cases m
      · exact List.mem_singleton.mp m
    subst ez
    refine ⟨kp hpC.1, hpC.2.1, ?_, pFs, hpC.2.2.2.2⟩
    show z.1 ≠ ce.locals
    rw [ceL]
    exact Nat.ne_of_lt (Heap.lt_size hpC.1), ID.hok, ID.len⟩
  have okF : ∀ {τ : L2.St} {G : Hp} {s' : Shared}, Inv (X.blk sC HC scope ce ip) [p] τ G s' → (∀ b ∈ ip, G b = none) → ∀ b ∈ ip, FpOk Y [] G b := fun {τ G s'} Z zn b hb => by
    rw [eY]
    exact ⟨zn b hb, (Z.ok.exf b hb).1, Z.ok.exfs b hb, .inl hb, fun x c e => (Z.ok.exf b hb).2 x c e, fun z hz => by
      rcases List.mem_append.mp hz with m | m
      · rw [List.mem_singleton.mp m]; exact pIp b hb
      · cases m⟩
  have TY : TurnH Y.prog Y.w Y.K tg J ip it tn := by
    rw [eY]
    exact T
  have YA : Y.A = X.A := by rw [eY]
  have Ym : Y.prog = X.prog ∧ Y.w = X.w ∧ Y.K = X.K := by rw [eY]; exact ⟨rfl, rfl, rfl⟩
  have loop : codeAny (model X.prog X.w) X.A (.compLoop (.ListComp elt [⟨tg, iter, ifs, 0⟩] scope pos) 0 (.ref it) (.ref D) ce) (compPost (model X.prog X.w) X.A X.xe none (EP X pins σ Q) (.ref D) sC.heap.objs.size) sD := by
    refine compLoop_any (fun m s' => ∃ i G, Inv (X.blk sC HC scope ce ip) [p] (wipe σ (own.map (·.2))) G s' ∧ tn i s'.heap ∧ (∀ b ∈ ip, G b = none) ∧ W i m G) ?_ m0 ⟨0, HC, I0, tD, fun b hb => (fC b hb).1.1, w0⟩
    rintro m s5 ⟨i, G5, I5, t5, n5, w5⟩
    rcases turn i m G5 w5 with ⟨stop, qq⟩ | ⟨go, Nx, hNx, step⟩
    · have td := T.done Y Ym.1 Ym.2.1 Ym.2.2 hotY i [] s5 _ G5 (fun _ _ => False) (toY I5) (okF I5 n5) t5 stop
      rw [YA] at td
      refine thnF td fun r s6 ⟨er, J6⟩ => ?_
      subst er
      have I6 := ofY J6
      have I7 : Inv X pins σ G5 s6 := IC.call' (ch := ip) I6.os I6.base I6.hok I6.bare fun b hb => ⟨(fC b hb).1.2.2.2.1, (fC b hb).1.2.1, (fC b hb).1.2.2.2.2.1, (fC b hb).1.2.2.2.2.2⟩
      have nC : G5 sC.heap.objs.size = none := by
        rw [← ceL]
        exact I6.free
      obtain ⟨mm, hn, _⟩ := I6.loc
      have hn : s6.heap.Ns sC.heap.objs.size mm := by rw [← ceL]; exact hn
      obtain ⟨f0, f1, f2, f3, f4, f5⟩ := IC.fpOk (Nat.le_refl _) nC
      exact ⟨mm, hn, fun h'' sb => ⟨.ref D, G5, I7.turned (t' := s6.toks) (fun b o hb e => (sb.2 b hb).trans e) f0 f1 f3 f4 f5, rfl, qq⟩⟩
    · have tv := T.item Y Ym.1 Ym.2.1 Ym.2.2 hotY i [] s5 _ G5 (fun _ _ => False) (toY I5) (okF I5 n5) t5 go
      rw [YA] at tv
      refine thnF tv fun r s6 ⟨u, er, h6⟩ => ?_
      subst er
      refine thnF h6 fun _ s7 ⟨x, G7, J7, r7, y7, t7, n7⟩ => ?_
      have I7 := ofY ((J7).pinned (okF (ofY J7) n7) (T.obj _ _ t7))
      refine thnF (kg.run _ s7 _ G7 x u _ I7 r7 (step x G7 y7)) fun _ s8 ⟨τ8, G8, I8, hw8, q8⟩ => ?_
      refine thnF (kt.run _ s8 τ8 G8 _ I8 q8) fun b s9 ⟨G9, I9, q9⟩ => ?_
      have close : ∀ {s' : Shared} {G' : Hp}, Inv (X.blk sC HC scope ce ip) (p :: ([] ++ pinsAt ip s7.heap)) τ8 G' s' → Nx G' → ∃ m', m' < m ∧ ∃ i G, Inv (X.blk sC HC scope ce ip) [p] (wipe σ (own.map (·.2))) G s' ∧ tn i s'.heap ∧ (∀ b ∈ ip, G b = none) ∧ W i m' G := fun {s' G'} Z nx => by
        obtain ⟨m', lt, w'⟩ := hNx G' nx
        have at_ : ∀ b ∈ ip, ∀ o, s7.heap.get? b = some o → s'.heap.get? b = some o ∧ G' b = none := fun b hb o e =>
          ⟨(Z.pin (b, o) (List.mem_append_right _ (List.mem_cons_of_mem _ (List.mem_append_right _ (mem_pinsAt hb e))))).1, (Z.pin (b, o) (List.mem_append_right _ (List.mem_cons_of_mem _ (List.mem_append_right _ (mem_pinsAt hb e))))).2.1⟩
        have Z1 : Inv (X.blk sC HC scope ce ip) ([p] ++ pinsAt ip s7.heap) τ8 G' s' := Z
        refine ⟨m', lt, i + 1, G', (Z1.unpinned (pins := [p])).weak (by rw [← hw8, wipe_length]) (fun j v e => ?_), T.keep _ _ _ t7 fun b hb o e => (at_ b hb o e).1, fun b hb => ?_, w'⟩
        · rw [← hw8] at e
          exact (wipe_some e).1
        · obtain ⟨o, e, _⟩ := T.obj _ _ t7 b hb
          exact (at_ b hb o e).2
      cases b with
      | false => exact close I9 q9
      | true =>
        simp only [if_true] at q9 ⊢
        refine thnF (ke.run _ s9 τ8 G9 _ I9 q9) fun z sX ⟨yv, GX, IX, rX, acc, dX, lX, nx⟩ => ?_
        exact app_ok (X := X.blk sC HC scope ce ip) IX dX lX rX fun sY IY => close IY nx
  exact codeAny_compStart_list loop (T.self X.A 0 _ _ _ tD loop)
end WC

set_option maxHeartbeats 4000000
namespace WC
open PySem PySem.Spec PyProof.Rows L2 L2H HotX
/-! errors that are known to have no context (L2N), and defs called while one of them is handled -/
theorem okN {P : Program} {w : World} {K : PySem.W.Frag} {mg : Str → Option Value} {base : Heap} {x qual : Str} {st : Stmt} {f : Addr} {fd : FuncData} {N ps : List Str} {k : Nat} {sp : Sp} (F : Fun K x qual st f fd) (S : FnScope N ps (defScope st)) (len : ∀ vs H Q E, sp vs H Q E → vs.length = ps.length)
    (body : ∀ (cdv : Value) (A : Around) (outer : List Env) (s : Shared) (H : Hp) (vs : List V) (Q : VK) (E : XK), Room k (A.deeper (envOfC qual (defScope st) s.heap.objs.size f cdv)) → sp vs H Q E →
      ∃ t, PSs (cxOf (L2N.CX P w) P w K mg base N qual (defScope st) f cdv A outer s H E) (defBody st) t ∧ t { nx := fun _ H' => Q .non H', rt := Q } (start N vs) H) : FnOk P w K mg base (L2N.CX P w) (k + 1) f fd ps sp := by
  obtain ⟨oc, od, kV, doc, pm, an, cdv, ct, osl, rfl, lk, hcd⟩ := F.ex
  exact fn_of lk hcd S len fun A outer s H vs Q E hr hsp => body cdv A outer s H vs Q E hr hsp
theorem okH {P : Program} {w : World} {K : PySem.W.Frag} {mg : Str → Option Value} {base : Heap} {x qual : Str} {st : Stmt} {f : Addr} {fd : FuncData} {N ps : List Str} {k : Nat} {sp : Sp} (F : Fun K x qual st f fd) (S : FnScope N ps (defScope st)) (len : ∀ vs H Q E, sp vs H Q E → vs.length = ps.length)
    (body : ∀ (cdv : Value) (A : Around) (outer : List Env) (s : Shared) (H : Hp) (vs : List V) (Q : VK) (E : XK) (p : Addr × Obj), RoomH k (A.deeper (envOfC qual (defScope st) s.heap.objs.size f cdv)) → HotC (cxH (L2.CX P w) P w K mg base N qual (defScope st) f cdv A outer s H E p) → sp vs H Q E →
      ∃ t, PSs (cxH (L2.CX P w) P w K mg base N qual (defScope st) f cdv A outer s H E p) (defBody st) t ∧ t { nx := fun _ H' => Q .non H', rt := Q } (start N vs) H) : FnH P w K mg base (L2.CX P w) (k + 1) f fd ps sp := by
  obtain ⟨oc, od, kV, doc, pm, an, cdv, ct, osl, rfl, lk, hcd⟩ := F.ex
  exact fn_ofH lk hcd S len fun A outer s H vs Q E p hot hr hsp => body cdv A outer s H vs Q E p hr ⟨p, hot, List.mem_singleton.mpr rfl⟩ hsp
/-- a def of the module that lets out errors without context -/
structure DefN (P : Program) (w : World) (K : PySem.W.Frag) (mg : Str → Option Value) (base : Heap) (x : Str) (k : Nat) (sp : Sp) : Prop where
  ex : ∃ f, mg x = some (.ref f) ∧ PySem.W.keepIn K (.ref f) = true ∧ FnR P w K mg base (L2N.CX P w) k f sp
/-- a def of the module as it runs while an error is handled -/
structure DefH (P : Program) (w : World) (K : PySem.W.Frag) (mg : Str → Option Value) (base : Heap) (x : Str) (k : Nat) (sp : Sp) : Prop where
  ex : ∃ f fd ps, mg x = some (.ref f) ∧ PySem.W.keepIn K (.ref f) = true ∧ Binds K fd ps [] ∧ FnH P w K mg base (L2.CX P w) k f fd ps sp
section
variable {X : Cx} {j k n : Nat} {sp : Sp} {W : WX} {C : Addr} {x : Str} {e : Expr} {es : List Expr} {t ta : TA} {p pos : Pos} {fl : List V → List (Str × V)}
theorem pe_cdN (D : DefN X.prog X.w X.K X.mg X.base x k sp) (hr : Room j X.A) (tk : L2N.Takes X W) (ha : PA X (e :: es) t) (hle : k ≤ j := by decide) (hg : Gl X x := by rfl) (hdb : (x == ("__debug__" : Str)) = false := by decide)
    (he : starEach (e :: es) X.env = (false, eval e X.env) :: starEach es X.env := by rfl) (hpl : (backTo pos (starEach es X.env)).any (·.1) = false := by rfl) : PE X (.Call (.Name x p) (e :: es) [] pos) (fun σ H Q => t σ H fun vs H1 => sp vs H1 Q (WE W σ)) := by
  obtain ⟨f, hm, hk, F⟩ := D.ex
  refine ⟨fun pins s σ H Q I h => wpAny_Call_Name_kw (ld_glob I hg hm ?_ hdb)⟩
  refine PySem.W.callWith_K (h₀ := X.base) I.ok.mod.kin hk (thn (ha.run pos pins s σ H _ I h) fun us s1 ⟨vs, H1, I1, r, q⟩ => ⟨I1.kIn, wpAny_call ?_⟩) he hpl
  refine codeAny_mono (F X.A X.stack s1 H1 us vs Q (WE W σ) (hr.mono hle) I1.env0 r q) fun rr s' hq => ?_
  match rr, hq with
  | .error er, hq => exact tk er s' (L2N.XE.of_call I1 (fun _ _ _ z => z) hq)
  | .ok (.ret u), hq => exact I1.after hq
  | .ok .next, hq => exact False.elim hq
  | .ok .brk, hq => exact False.elim hq
  | .ok .cont, hq => exact False.elim hq
theorem pe_cdH (D : DefH X.prog X.w X.K X.mg X.base x k sp) (hr : RoomH j X.A) (hc : HotC X) (ha : PA X (e :: es) t) (hle : k ≤ j := by decide) (hg : Gl X x := by rfl) (hdb : (x == ("__debug__" : Str)) = false := by decide)
    (he : starEach (e :: es) X.env = (false, eval e X.env) :: starEach es X.env := by rfl) (hpl : (backTo pos (starEach es X.env)).any (·.1) = false := by rfl) : PE X (.Call (.Name x p) (e :: es) [] pos) (tCallS sp (fun _ => E0) t) := by
  obtain ⟨f, fd, ps, hm, hk, hb, F⟩ := D.ex
  exact pe_callH F (hr.mono hle) hc hg hm hk hb (fun σ pins H s er s' I c => passL pins σ H s er s' I c) ha hdb he hpl
/-- an own exception with fields, raised where none is handled: it has no context -/
theorem pmk_xN (T : ExcR X.prog X.w X.K X.mg X.base x C k n fl) (hr : Room j X.A) (ha : PA X (e :: es) ta) (hle : k + 1 ≤ j := by decide) (hg : Gl X x := by rfl) (hdb : (x == ("__debug__" : Str)) = false := by decide)
    (he : starEach (e :: es) X.env = (false, eval e X.env) :: starEach es X.env := by rfl) (hpl : (backTo pos (starEach es X.env)).any (·.1) = false := by rfl) : L2N.PMk X (.Call (.Name x p) (e :: es) [] pos) (tMkO C (spX C n fl) [] ta) := by
  obtain ⟨fI, fd, ps, iC, tI, hb, F1⟩ := T.ini
  have Z := T.txt
  have hr := hr.mono hle
  intro pins s σ H Q I h
  obtain ⟨nm, qn, N, bs, bm, sn, sub, ab, col, dd, k0, k1, k2, k3, k5, hC, hbm⟩ := Z.cls
  refine wpAny_Call_Name_kw (ld_glob I hg T.gC ?_ hdb)
  refine PySem.W.callWith_K (h₀ := X.base) I.ok.mod.kin Z.kC (thn (ha.run pos pins s σ H _ I h) fun us ⟨hp, g, dr, tk, os⟩ ⟨vs, H1, I1, r1, hz, q1⟩ => ⟨I1.kIn, ?_⟩) he hpl
  show wpAny _ _ (call (.ref C) us) _ _ _
  have up : hp.objs.size ≤ hp.objs.size + 1 := Nat.le_succ _
  have hn : H1 (hp.objs.size + 1) = none := I1.hok.fresh up
  have hq := q1 (hp.objs.size + 1) hn
  rw [List.append_nil] at hq
  obtain ⟨g2, eg2⟩ : ∃ g2 : Heap, g2 = (hp.push (PySem.W.kdv_tup us)).push (PySem.HandSPX.excO C hp.objs.size) := ⟨_, rfl⟩
  have kk : ∀ b o, hp.get? b = some o → g2.get? b = some o := fun b o e => by rw [eg2]; exact Heap.get?_push_of_some _ (Heap.get?_push_of_some _ e)
  have at_ : g2.get? (hp.objs.size + 1) = some (PySem.HandSPX.excO C hp.objs.size) := by
    rw [eg2]
    heap_get
  have I2 : Inv X pins σ (upd H1 (hp.objs.size + 1) (exo (hp.objs.size + 1) C none)) ⟨g2, g, dr, tk, os⟩ := I1.laid (t' := tk) (a := hp.objs.size + 1) (o := exo (hp.objs.size + 1) C none) (h' := g2) kk up (exo_ok at_)
  have r2 : Vals (V.ref (hp.objs.size + 1) :: vs) (Value.ref (hp.objs.size + 1) :: us) := .cons rfl r1
  have hl : ((Value.ref (hp.objs.size + 1) :: us) ++ []).length = ps.length := by
    rw [List.append_nil, ← F1.len _ _ _ _ hq]
    exact r2.length.symm
  have hus : us.length ≤ sizeLine := by
    rw [← Paired.length r1, sizeLine_eq]
    omega
  have bnd := hb _ (Value.ref (hp.objs.size + 1) :: us) I2.kIn hl
  rw [List.append_nil] at bnd
  rw [eg2] at I2 bnd
  refine wpAny_call (PySem.HandSPX.call_own F.excBase_ValueError (fun Y => PySem.HandSPX.refsVE_contains Y bm hbm) (I1.kIn _ _ hC) (PySem.W.looks_findIn I1.kIn iC) (fun self => PySem.W.bind_fn I1.kIn self tI) hus
    (codeAny_mono (F1.run _ X.stack _ _ ⟨Value.ref (hp.objs.size + 1) :: us, []⟩ (Value.ref (hp.objs.size + 1) :: us) _ _ (fun _ _ _ => False) (hr.make C us []) (I2.env0.make C us []) bnd r2 hq) fun rr s' hq' => ?_))
  match rr, s', hq' with
  | .error er, s', hq' => exact passL pins σ _ _ er s' I2 hq'
  | .ok (.ret u), ⟨h2, gg, d2, t2, os2⟩, hq' =>
    obtain ⟨v, H2, osE, bare, un, hok, rv, ev, d, fs, ea, ed, hd1, q2⟩ := hq'
    subst ev
    obtain ⟨t0, G, J, kG, ge, hoe, na⟩ := mk_end0 (d2 := d2) (t2 := t2) I1 up (by rw [← eg2]; exact kk) un hok osE bare ea ed hd1
    exact ⟨rv, hp.objs.size + 1, _, _, ⟨G, gg, d2, t2, os2⟩, _, .ref C, some d, rfl, J, kG, ge, hoe, ⟨rfl, rfl, fun ws e => by cases e; rfl⟩, rfl, rfl, na, rfl, bare, raises_own Z.exC Z.tyC, q2⟩
  | .ok .next, s', hq' => exact False.elim hq'
  | .ok .brk, s', hq' => exact False.elim hq'
  | .ok .cont, s', hq' => exact False.elim hq'
end
/-- what never raises may stand in either book -/
theorem off_N {P : Program} {w : World} {K : PySem.W.Frag} {mg : Str → Option Value} {base : Heap} {k : Nat} {f : Addr} {fd : FuncData} {ps : List Str} {sp : Sp} (F : FnOk P w K mg base (L2N.CX P w) k f fd ps sp) (h : ∀ vs H Q E, sp vs H Q E → sp vs H Q E0) : FnOk P w K mg base (L2.CX P w) k f fd ps sp := by
  refine ⟨F.len, fun A outer s H args us vs Q E hr e0 hb r q => codeAny_mono (F.run A outer s H args us vs Q E0 hr e0 hb r (h _ _ _ _ q)) fun rr s' hq => ?_⟩
  match rr, hq with
  | .error er, hq =>
    obtain ⟨_, _, _, _, _, _, _, _, _, _, _, _, z⟩ := hq
    exact z.elim
  | .ok (.ret u), hq => exact hq
  | .ok .next, hq => exact False.elim hq
  | .ok .brk, hq => exact False.elim hq
  | .ok .cont, hq => exact False.elim hq
/-- the handled error of a suite -/
theorem hot_suite {X : Cx} {a : Addr} {oe : Obj} {cls : Value} {d : Option Addr} {pn : List (Addr × Obj)} (hz : L2N.Zn cls d oe) (hf : ∃ vs, oe.data = .fields vs) : HotC (X.suite a ((a, oe) :: pn)) := by
  obtain ⟨vs, e⟩ := hf
  exact ⟨(a, oe), ⟨rfl, vs, e, hz.2.2 vs e⟩, List.mem_cons_self⟩
end WC

set_option maxHeartbeats 4000000
namespace WC
open PySem PySem.Spec PyProof.Rows L2 L2H HotX
/-! a tuple unpacked while an error is handled -/
section
variable {prog : Program} {w : World} {A : Around} {E : Value → Shared → Prop} {s : Shared}
theorem tup_out_hot {it t x1 : Addr} {i : Nat} {items : Array Value} {Q : Option Value → Shared → Prop} (hot : HotAt A x1 s.heap) (hi : IsTupIter s.heap it t i) (ht : IsTup s.heap t items) (ho : items[i]? = none)
    (q : ∀ g : Heap, (∀ b o, b ≠ it → s.heap.get? b = some o → g.get? b = some o) → Q none { s with heap := g }) : wpAny (model prog w) A (pyNext (.ref it)) Q E s := by
  obtain ⟨hh, oH, vH, gH, dH, cH⟩ := hot
  obtain ⟨oi, gi_, ci, di⟩ := id hi
  obtain ⟨ol, gl, _, nl, dl⟩ := ht
  have x1it : x1 ≠ it := fun z => by
    rw [z, gi_] at gH
    cases gH
    rw [di] at dH
    cases dH
    cases cH
  unfold pyNext
  refine wpAny_bind (wpAny_attempt (wpAny_callSpecial?_slot (name := Str.ofString "__next__") hi.typeIs slot_tupleiter_next (wpAny_call_entry slot_tupleiter_next hi.typeIs entry_tupleiter_next ?_ (args_tupleiter_next _))))
  show wpAny _ _ (field (.ref it) 0 >>= _) _ _ _
  refine wpAny_bind (wpAny_field gi_ di (x := .ref t) rfl ?_)
  show wpAny _ _ (if (Value.ref t == Value.none) = true then _ else _) _ _ _
  rw [if_neg (by simp : ¬ (Value.ref t == Value.none) = true)]
  show wpAny _ _ (field (.ref it) 1 >>= _) _ _ _
  refine wpAny_bind (wpAny_field gi_ di (x := .int i 0) rfl ?_)
  show wpAny _ _ (seqItems? (.ref t) >>= _) _ _ _
  refine wpAny_bind (wpAny_seqItems gl dl ?_)
  simp only [Int.toNat_natCast, ho]
  refine wpAny_bind (wpAny_rule (wpAny_bind (wpAny_setField gi_ di (by simp) ?_)))
  show wpAny _ _ (newExc (.type "StopIteration") [] >>= _) _ _ _
  simp only [newExc, newTuple]
  refine wpAny_bind (wpAny_bind (wpAny_newObj_type ?_ (by size_fits)))
  refine wpAny_bind (m := firstArgMember _ _) (wpAny_of_eq (a := Value.none) (by first | rfl | (simp only [firstArgMember]; rfl)) ?_)
  refine wpAny_newObj_type ?_ (by size_fits)
  have st : ∀ {b : Addr} {o : Obj} {f : Obj → Obj} {u1 u2 : Obj}, b ≠ it → s.heap.get? b = some o → (((s.heap.update it f).push u1).push u2).get? b = some o := fun {b o f u1 u2} n e => Heap.get?_push_of_some _ (Heap.get?_push_of_some _ (by rw [Heap.get?_update_other _ _ (Ne.symm n)]; exact e))
  refine raiseNew_hot ⟨hh, oH, vH, st x1it gH, dH, cH⟩ (Nat.ne_of_lt (Heap.lt_size (Heap.get?_push_of_some _ (by rw [Heap.get?_update_other _ _ (Ne.symm x1it)]; exact gH)))) (Heap.get?_push_size _ rfl) rfl (by first | (simp; done) | (simp; omega)) ?_
  refine wpAny_bind (wpAny_isInstance (T := "StopIteration") (b := true) ⟨_, Heap.get?_update_self _ (Heap.get?_push_size _ rfl) rfl, rfl⟩ isSubtype_stop ?_)
  refine wpAny_pure (q _ fun b o n e => ?_)
  rw [Heap.get?_update_other _ _ (Nat.ne_of_gt (Heap.lt_size (Heap.get?_push_of_some _ (by rw [Heap.get?_update_other _ _ (Ne.symm n)]; exact e))))]
  exact st n e
theorem unpack_hot {t x1 : Addr} {items : Array Value} {targets : List (Bool × (Value → Sem Unit))} {Q : Unit → Shared → Prop} (hot : HotAt A x1 s.heap) (ht : IsTup s.heap t items) (hn : targets.length = items.size) (hs : targets.findIdx? (·.1) = none)
    (h : ∀ g : Heap, (∀ b o, s.heap.get? b = some o → g.get? b = some o) → wpAny (model prog w) A (assignInOrder (targets.map (·.2)) items.toList) Q E { s with heap := g }) : wpAny (model prog w) A (unpack (.ref t) targets) Q E s := by
  have low : t ≠ s.heap.objs.size := by
    obtain ⟨o, e, _⟩ := ht
    exact Nat.ne_of_lt (Heap.lt_size e)
  unfold unpack
  rw [hn, hs]
  refine wpAny_bind (wpAny_holding ?_)
  unfold unpackItems notIterableAtAll
  refine wpAny_bind (wpAny_bind (wpAny_specialOf ht.typeIs slot_tuple_iter.lookup (wpAny_pure ?_)))
  simp only [Bool.false_eq_true, if_false]
  refine wpAny_bind (wpAny_holding (iter_tuple ht (wpAny_bind (wpAny_holding (draw_tuple low items.size 0 _ _ ⟨_, Heap.get?_push_size _ rfl, rfl, rfl⟩ (ht.push _) (by omega) fun g1 i1 b1 => ?_)))))
  rw [List.drop_zero, List.take_of_length_le (by simp), if_neg (by simp)]
  have keep1 : ∀ b o, s.heap.get? b = some o → g1.get? b = some o := fun b o e => b1.extBut b o (Nat.ne_of_lt (Heap.lt_size e)) (Heap.get?_push_of_some _ e)
  obtain ⟨hh, oH, vH, gH, dH, cH⟩ := hot
  refine wpAny_bind (wpAny_holding (tup_out_hot (x1 := x1) ⟨hh, oH, vH, keep1 _ _ gH, dH, cH⟩ i1 ((ht.push _).extBut b1.extBut low) (by simp) fun g2 e2 => ?_))
  simp only [Option.isSome_none, Bool.false_eq_true, if_false]
  exact wpAny_pure (h g2 fun b o e => e2 b o (Nat.ne_of_lt (Heap.lt_size e)) (keep1 b o e))
end
theorem pg_tupH {X : Cx} {es : List Expr} {k n : Nat} {t : TGs} {pos : Pos} (hc : HotC X) (h : PGs X es t) (hn : (assignEach es X.env).length = n := by rfl) (hs : (assignEach es X.env).findIdx? (·.1) = none := by rfl) : PG X (.Tuple es k pos) (gTup X.K n t) := by
  refine ⟨fun pins s σ H v u Q I r ⟨a, xs, e1, hq, hl, hw⟩ => ?_⟩
  subst e1
  cases r
  obtain ⟨its, rv, ht, _⟩ := I.tuple hq
  obtain ⟨x1, hot⟩ := hc.at I
  rw [assign_Tuple]
  refine wpAny_bind (wpAny_standAt (unpack_hot hot ht (by simp [hn, ← hl, rv.length]) hs fun g kg => ?_))
  exact h.run pins _ σ H xs _ Q (I.kept (t' := s.toks) fun b o e => kg b o e) (by simpa using rv) hw
end WC

set_option maxHeartbeats 4000000
namespace WC
open PySem PySem.Spec PyProof.Rows L2
/-! return e + super().m(); == by an own __eq__; a method kept raw -/
def tSup0 (C : Addr) (i : Nat) (sp : Sp) (E : XK) : TE := fun σ H Q => ∃ x dx fs, σ[i]? = some (some (.ref x)) ∧ H x = some (.ins C dx fs) ∧ sp [.ref x] H Q E
section
variable {X : Cx} {CX : CXT} {k i : Nat} {C D g : Addr} {sp : Sp} {E : XK} {e : Expr} {es : List Expr} {m slf : Str} {p0 p1 p2 p3 p4 p5 : Pos} {ta : TA} {te : TE} {body : List Stmt} {pl : Sem Bool}
theorem at_sup0 {pins : List (Addr × Obj)} {s : Shared} {σ : L2.St} {H : Hp} {Q : VK} (T : SupTxt X.prog X.K X.mg D C g m) (Z : SelfTxt X.prog X.K X.env D slf) (F : FnR X.prog X.w X.K X.mg X.base CX k g sp) (hr : Room k X.A) (hx : Passes CX X E) (hN : X.N[i]? = some slf) 
    (he : eval (.Call (.Attribute (.Call (.Name "super" p0) [] [] p1) m p2) [] [] p3) X.env = (do
      let ov ← attributeBase (.Call (.Name "super" p0) [] [] p1) m X.env (eval (.Call (.Name "super" p0) [] [] p1) X.env)
      standAt p2.atName
      let (f, first) ← holding [ov] (getMethod ov m pl)
      callWith p3 f first (backTo p3 (starEach [] X.env)) [])) 
    (I : Inv X pins σ H s) (h : tSup0 C i sp E σ H Q) : PySem.wpAt (model X.prog X.w) X.A (.func body X.env) (eval (.Call (.Attribute (.Call (.Name "super" p0) [] [] p1) m p2) [] [] p3) X.env) (EP X pins σ Q) X.xe s := by
  obtain ⟨x, dx, fs, hs, hH, ht⟩ := h
  obtain ⟨f, of1, of2, fd, of3, ar, ef, kf, hd, har⟩ := Z.fn
  obtain ⟨c, oc1, oc2, vs, oc3, file, tf, ec, kc, hvs, hfile⟩ := Z.cod
  obtain ⟨cc, k1, k2, k3, lcc, kcc⟩ := Z.lc
  obtain ⟨cdD, hD⟩ := T.dCls
  have K1 := I.kIn
  obtain ⟨oD, hD1, hD2⟩ : ∃ oD, s.heap.get? D = some oD ∧ oD.data = .cls cdD := by
    unfold PySem.W.clsIn at hD
    split at hD
    · rename_i a b cd' d ho
      cases hD
      exact ⟨_, K1 _ _ ho, rfl⟩
    · cases hD
  obtain ⟨_, O, _, _, _⟩ := ins_get I.hok hH
  have hob := O.1
  refine ks_wpAt_MethodCall ?_ he
  refine ks_wpAt_super_base Z.kS Z.kC T.nat ef (K1 _ _ kf) rfl hd ec (K1 _ _ kc) rfl hvs hfile T.top ?_
  obtain ⟨mb, hb1, hb2⟩ := I.mod.blt
  refine PySem.W.ks_loadName_global I.ok.kind Z.kS (Calls.loadGlobal_builtin (by rw [I.ok.glob]; exact I.mod.glob.keeps I.bk) T.sup (by rw [I.ok.blt]; exact hb1.keeps I.bk) ((hb2 _ (by decide)).trans (show bootBuiltins "super" = some (.type "super") by decide +kernel)) ⟨rfl, ?_⟩)
  refine wpAny_loadName_free I.ok.kind Z.kC lcc ⟨_, K1 _ _ kcc, rfl⟩ ?_
  obtain ⟨mL, hn, hl⟩ := id I.loc
  obtain ⟨u, ru, lu⟩ := hl i slf _ hN hs (.inl Z.kL)
  obtain rfl : u = Value.ref x := ru
  have hm : mL slf = some (.ref x) := by
    rcases lu with ⟨_, q⟩ | ⟨q, _⟩
    · exact q
    · rw [Z.kL] at q
      rcases q with q | q <;> cases q
  rw [har]
  refine wpAny_loadName_local I.ok.kind Z.kL hn hm ?_
  refine ks_wpAny_isType_cls hD1 hD2 ⟨rfl, ?_⟩
  refine ks_wpAny_call_super hD1 hD2 hob rfl (fun c e => by cases e) (PySem.W.looks_mroIn K1 T.sub) fun h1 e1 k1 => ?_
  have I1 : Inv X pins σ H { s with heap := h1, toks := s.toks } := I.kept (t' := s.toks) k1
  have K2 := I1.kIn
  have K2 : X.K.In h1 := K2
  cases hC : PySem.W.clsIn X.K C with
  | none =>
    have z := T.met
    unfold PySem.W.ks_superIn at z
    rw [hC] at z
    cases z
  | some cd =>
    have z := T.met
    unfold PySem.W.ks_superIn at z
    rw [hC] at z
    obtain ⟨og, hog, hogc⟩ : ∃ og, h1.get? g = some og ∧ og.cls = .type "function" := by
      have y : (X.K.lookup g).map (·.cls) = some (.type "function") := T.typ
      cases q : X.K.lookup g with
      | none => rw [q] at y; cases y
      | some og =>
        rw [q] at y
        exact ⟨og, K2 _ _ q, Option.some.inj y⟩
    have hxC : x ≠ C := by
      rintro rfl
      unfold PySem.W.clsIn at hC
      split at hC
      · rename_i a b cd' d ho
        have e := K1 _ _ ho
        rw [hob] at e
        cases e
      · cases hC
    refine ks_wpAny_getMethod_super e1 (PySem.W.looks_opaque K2 T.opq) (l₀ := cd.mro) (fun A Q E s k q => wpAny_bind ((PySem.W.looks_clsIn K2 hC) A _ E s k (wpAny_pure q))) rfl K2 z hog hogc hxC T.nat ?_
    have I2 := ClX.met_new (C := x) (g := g) I1
    exact PySem.W.callWith_M0 (K := X.K) (first := []) ⟨ClX.pin_at I2, I2.kIn⟩ T.fni (ClX.run_cm F hr hx I2 .nil ht)
/-- return e + super().m() -/
theorem px_retSup {op : Operator} {r : R2} (T : SupTxt X.prog X.K X.mg D C g m) (Z : SelfTxt X.prog X.K X.env D slf) (F : FnR X.prog X.w X.K X.mg X.base CX k g sp) (hr : Room k X.A) (hx : Passes CX X E) (hN : X.N[i]? = some slf) (he1 : PE X e te) (ho : OpR X (binaryOp op) r)
    (he : eval (.Call (.Attribute (.Call (.Name "super" p0) [] [] p1) m p2) [] [] p3) X.env = (do
      let ov ← attributeBase (.Call (.Name "super" p0) [] [] p1) m X.env (eval (.Call (.Name "super" p0) [] [] p1) X.env)
      standAt p2.atName
      let (f, first) ← holding [ov] (getMethod ov m pl)
      callWith p3 f first (backTo p3 (starEach [] X.env)) []) := by rfl) :
    PX X (.func body X.env) [.Return (some (.BinOp e op (.Call (.Attribute (.Call (.Name "super" p0) [] [] p1) m p2) [] [] p3) p4)) p5] (fun D0 σ H => te σ H fun x H1 => tSup0 C i sp E σ H1 fun y H2 => r x y H2 D0.rt) := by
  refine ⟨fun pins s σ H D0 I h => ks_wpAt_execs_cons (ks_wpAt_Return_some (ks_wpAt_BinOp2 (wpAt_of_wpAny (thn (he1.run pins s σ H _ I h) fun u s1 ⟨x, H1, I1, r1, q1⟩ => ?_))))⟩
  refine PySem.wpAt_mono (at_sup0 T Z F hr hx hN he I1 q1) (fun v s2 ⟨y, H2, I2, r2, q2⟩ => ?_) fun _ _ z => z
  refine thn (ho pins s2 σ H2 x y u v _ I2 r1 r2 q2) fun z s3 ⟨z1, H3, I3, r3, q3⟩ => ?_
  exact ⟨z1, σ, H3, I3, r3, q3⟩
end
end WC

set_option maxHeartbeats 4000000
namespace WC
open PySem PySem.Spec PyProof.Rows L2
/-- the classes CS have their == from the def at f -/
structure EqF (K : PySem.W.Frag) (CS : List Addr) (f : Addr) : Prop where
  at_ : ∀ C ∈ CS, PySem.W.findIn K (.ref C) "__eq__" = some (some (.ref f))
  fn : PySem.W.isFn K (.ref f) = true
  nf : ∀ C ∈ CS, ∀ D ∈ CS, PySem.W.notFirst K C (.ref D) = true
def rOwn (CS : List Addr) (sp : Sp) : R2 := fun x y H Q => ∃ (a b C D dx dy : Addr) (fs gs : List (Str × V)), C ∈ CS ∧ D ∈ CS ∧ x = .ref a ∧ y = .ref b ∧ H a = some (.ins C dx fs) ∧ H b = some (.ins D dy gs) ∧ sp [.ref a, .ref b] H (fun v H' => ∃ c, v = .bl c ∧ Q (.bl c) H') E0
theorem op_own {X : Cx} {n : Nat} {CS : List Addr} {f : Addr} {fd : FuncData} {ps : List Str} {sp : Sp} (T : EqF X.K CS f) (F : FnOk X.prog X.w X.K X.mg X.base (L2.CX X.prog X.w) n f fd ps sp) (hb : Binds X.K fd ps []) (hr : Room n X.A) : OpR X (compareOp .Eq) (rOwn CS sp) := by
  intro pins s σ H x y u v Q I rx ry ⟨a, b, C, D, dx, dy, fs, gs, hC, hD, ex, ey, ha, hb', q⟩
  subst ex ey
  cases rx
  cases ry
  show wpAny (model X.prog X.w) X.A (richCompare .Eq (.ref a) (.ref b)) (EP X pins σ Q) X.xe s
  obtain ⟨_, Ja, _⟩ := ins_get I.hok ha
  obtain ⟨_, Jb, _⟩ := ins_get I.hok hb'
  obtain ⟨oa, Ja, _⟩ := Ja.look
  obtain ⟨ob, Jb, _⟩ := Jb.look
  obtain ⟨m, fr⟩ := I.fr
  refine PySem.W.cmp_K (op := .Eq) (tb := .ref D) hr.units0 fr I.ok.mod.kin Ja Jb.type (T.nf C hC D hD) (T.at_ C hC) T.fn ?_
  have z := run_fn (ds := []) (dvs := []) (us := [.ref a, .ref b]) (vs := [.ref a, .ref b]) (E := E0) F hr hb .nil passL I (.cons rfl (.cons rfl .nil)) q
  refine wpAny_mono z (fun r s' ⟨w1, H1, I1, r1, c, ec, qc⟩ => ?_) fun _ _ e => e
  subst ec
  cases r1
  exact ⟨.bl c, H1, I1, rfl, qc⟩
/-- a method that is known raw (it may take *args) -/
structure MetV (P : Program) (w : World) (K : PySem.W.Frag) (mg : Str → Option Value) (base : Heap) (C : Addr) (m : Str) (k : Nat) (sp : Sp) : Prop where
  ex : ∃ f, Cls K C ∧ Meth K C m f ∧ FnR P w K mg base (L2.CX P w) k f sp
section
variable {X : Cx} {C : Addr} {m : Str} {j k : Nat} {sp : Sp} {E : XK} {W : WX} {o e : Expr} {es : List Expr} {ta : TE} {t : TA} {pos apos : Pos} {pl : Sem Bool}
theorem pe_mtv (D : MetV X.prog X.w X.K X.mg X.base C m k sp) (ho : PE X o ta) (hr : Room j X.A) (hx : Passes (L2.CX X.prog X.w) X E) (ha : PA X (e :: es) t) (hle : k ≤ j := by decide)
    (hst : starEach (e :: es) X.env = (false, eval e X.env) :: starEach es X.env := by rfl) (hpl : (backTo pos (starEach es X.env)).any (·.1) = false := by rfl)
    (ht : eval (.Call (.Attribute o m apos) (e :: es) [] pos) X.env = (do
      let ov ← eval o X.env
      standAt apos.atName
      let (f, first) ← holding [ov] (getMethod ov m pl)
      callWith pos f first (backTo pos (starEach (e :: es) X.env)) (backToKw pos (keywordEach [] X.env))) := by rfl) : PE X (.Call (.Attribute o m apos) (e :: es) [] pos) (tMeth C m sp [] E ta t) := by
  obtain ⟨f, c, hm, F⟩ := D.ex
  refine ⟨fun pins s σ H Q I h => ?_⟩
  refine PySem.W.methodCall_KW (pl := pl) (thn (ho.run pins s σ H _ I h) fun u s1 ⟨x, H1, I1, rx, a, dx, fs, ex, ea, l, q⟩ => ?_) ht
  subst ex
  obtain rfl : u = Value.ref a := rx
  refine getmeth_ok I1 ea c hm l ?_
  refine PySem.W.callWith_K (first := [.ref a]) (h₀ := X.base) I.ok.mod.kin hm.kp (thn (ha.run pos pins s1 σ H1 _ I1 q) fun us s2 ⟨vs, H2, I2, r, q2⟩ => ⟨I2.kIn, ?_⟩) hst hpl
  have q2 : sp (.ref a :: (vs ++ [])) H2 Q E := q2
  rw [List.append_nil] at q2
  exact wpAny_call (run_fnR (us := .ref a :: us) (vs := .ref a :: vs) F (hr.mono hle) hx I2 (.cons rfl r) q2)
end
end WC

set_option maxHeartbeats 4000000
namespace WC
open PySem PySem.Spec PyProof.Rows L2
def top (i : Nat) : Stmt := PySem.Challenge.pw_withincall_k01_rings_and_kinds.main.body.getD i (.Pass ⟨0, 0, 0, 0⟩)
abbrev s_InvalidNet_init : Stmt := inClass (top 3) 0
-- InvalidNet.__init__: slots 0 self, 1 reason, 2 position
abbrev nn_InvalidNet_init : List Str := ["self", "reason", "position"]
theorem sc_InvalidNet_init : FnScope ["self", "reason", "position"] ["self", "reason", "position"] (defScope s_InvalidNet_init) := ⟨rfl, rfl, rfl, by decide +kernel, rfl, by decide +kernel, by decide +kernel⟩
abbrev s_NotFound_init : Stmt := inClass (top 4) 0
-- NotFound.__init__: slots 0 self, 1 number
abbrev nn_NotFound_init : List Str := ["self", "number"]
theorem sc_NotFound_init : FnScope ["self", "number"] ["self", "number"] (defScope s_NotFound_init) := ⟨rfl, rfl, rfl, by decide +kernel, rfl, by decide +kernel, by decide +kernel⟩
abbrev s_is_between : Stmt := top 6
-- is_between: slots 0 value, 1 low, 2 high
abbrev nn_is_between : List Str := ["value", "low", "high"]
theorem sc_is_between : FnScope ["value", "low", "high"] ["value", "low", "high"] (defScope s_is_between) := ⟨rfl, rfl, rfl, by decide +kernel, rfl, by decide +kernel, by decide +kernel⟩
abbrev s_check_number : Stmt := top 7
-- check_number: slots 0 value, 1 many
abbrev nn_check_number : List Str := ["value", "many"]
theorem sc_check_number : FnScope ["value", "many"] ["value", "many"] (defScope s_check_number) := ⟨rfl, rfl, rfl, by decide +kernel, rfl, by decide +kernel, by decide +kernel⟩
abbrev s_Net_init : Stmt := inClass (top 10) 4
-- Net.__init__: slots 0 self, 1 stages, 2 channels, 3 channel
abbrev nn_Net_init : List Str := ["self", "stages", "channels", "channel"]
theorem sc_Net_init : FnScope ["self", "stages", "channels", "channel"] ["self", "stages", "channels"] (defScope s_Net_init) := ⟨rfl, rfl, rfl, by decide +kernel, rfl, by decide +kernel, by decide +kernel⟩
abbrev s_Net_is_capacity : Stmt := inClass (top 10) 5
-- Net.is_capacity: slots 0 value
abbrev nn_Net_is_capacity : List Str := ["value"]
theorem sc_Net_is_capacity : FnScope ["value"] ["value"] (defScope s_Net_is_capacity) := ⟨rfl, rfl, rfl, by decide +kernel, rfl, by decide +kernel, by decide +kernel⟩
abbrev s_Net_slots : Stmt := inClass (top 10) 6
-- Net.slots: slots 0 self, 1 _, 2 capacity
abbrev nn_Net_slots : List Str := ["self", "_", "capacity"]
theorem sc_Net_slots : FnScope ["self", "_", "capacity"] ["self"] (defScope s_Net_slots) := ⟨rfl, rfl, rfl, by decide +kernel, rfl, by decide +kernel, by decide +kernel⟩
abbrev s_Net_without : Stmt := inClass (top 10) 11
-- Net.without: slots 0 self, 1 channel, 2 others
abbrev nn_Net_without : List Str := ["self", "channel", "others"]
theorem sc_Net_without : FnScope ["self", "channel", "others"] ["self", "channel"] (defScope s_Net_without) := ⟨rfl, rfl, rfl, by decide +kernel, rfl, by decide +kernel, by decide +kernel⟩
abbrev s_Net_summary : Stmt := inClass (top 10) 12
-- Net.summary: slots 0 self
abbrev nn_Net_summary : List Str := ["self"]
theorem sc_Net_summary : FnScope ["self"] ["self"] (defScope s_Net_summary) := ⟨rfl, rfl, rfl, by decide +kernel, rfl, by decide +kernel, by decide +kernel⟩
abbrev s_Net_eq : Stmt := inClass (top 10) 13
-- Net.__eq__: slots 0 self, 1 other
abbrev nn_Net_eq : List Str := ["self", "other"]
theorem sc_Net_eq : FnScope ["self", "other"] ["self", "other"] (defScope s_Net_eq) := ⟨rfl, rfl, rfl, by decide +kernel, rfl, by decide +kernel, by decide +kernel⟩
abbrev s_Pipeline_init : Stmt := inClass (top 11) 0
-- Pipeline.__init__: slots 0 self, 1 stages, 2 capacity, 3 channels, 4 triples, 5 channel
abbrev nn_Pipeline_init : List Str := ["self", "stages", "capacity", "channels", "triples", "channel"]
theorem sc_Pipeline_init : CScope ["self", "stages", "capacity", "channels", "triples", "channel"] ["self", "stages", "capacity", "channels"] (defScope s_Pipeline_init) := ⟨rfl, rfl, rfl, by decide +kernel, rfl, by decide +kernel, by decide +kernel, by decide +kernel, by decide +kernel, by decide +kernel⟩
abbrev s_Pipeline_row : Stmt := inClass (top 11) 1
-- Pipeline.row: slots 0 cls, 1 capacities, 2 stages, 3 channels, 4 stage, 5 capacity
abbrev nn_Pipeline_row : List Str := ["cls", "capacities", "stages", "channels", "stage", "capacity"]
theorem sc_Pipeline_row : FnScope ["cls", "capacities", "stages", "channels", "stage", "capacity"] ["cls", "capacities"] (defScope s_Pipeline_row) := ⟨rfl, rfl, rfl, by decide +kernel, rfl, by decide +kernel, by decide +kernel⟩
abbrev s_Pipeline_is_ring : Stmt := inClass (top 11) 2
-- Pipeline.is_ring: slots 0 self
abbrev nn_Pipeline_is_ring : List Str := ["self"]
theorem sc_Pipeline_is_ring : FnScope ["self"] ["self"] (defScope s_Pipeline_is_ring) := ⟨rfl, rfl, rfl, by decide +kernel, rfl, by decide +kernel, by decide +kernel⟩
abbrev s_Pipeline_summary : Stmt := inClass (top 11) 5
-- Pipeline.summary: slots 0 self
abbrev nn_Pipeline_summary : List Str := ["self"]
theorem sc_Pipeline_summary : CScope ["self"] ["self"] (defScope s_Pipeline_summary) := ⟨rfl, rfl, rfl, by decide +kernel, rfl, by decide +kernel, by decide +kernel, by decide +kernel, by decide +kernel, by decide +kernel⟩
abbrev s_Ring_init : Stmt := inClass (top 12) 0
-- Ring.__init__: slots 0 self, 1 capacities, 2 stages, 3 position, 4 capacity, 5 channels, 6 stage
abbrev nn_Ring_init : List Str := ["self", "capacities", "stages", "position", "capacity", "channels", "stage"]
theorem sc_Ring_init : CScope ["self", "capacities", "stages", "position", "capacity", "channels", "stage"] ["self", "capacities"] (defScope s_Ring_init) := ⟨rfl, rfl, rfl, by decide +kernel, rfl, by decide +kernel, by decide +kernel, by decide +kernel, by decide +kernel, by decide +kernel⟩
abbrev s_Ring_is_ring : Stmt := inClass (top 12) 1
-- Ring.is_ring: slots 0 self
abbrev nn_Ring_is_ring : List Str := ["self"]
theorem sc_Ring_is_ring : FnScope ["self"] ["self"] (defScope s_Ring_is_ring) := ⟨rfl, rfl, rfl, by decide +kernel, rfl, by decide +kernel, by decide +kernel⟩
abbrev s_Ring_summary : Stmt := inClass (top 12) 4
-- Ring.summary: slots 0 self
abbrev nn_Ring_summary : List Str := ["self"]
theorem sc_Ring_summary : CScope ["self"] ["self"] (defScope s_Ring_summary) := ⟨rfl, rfl, rfl, by decide +kernel, rfl, by decide +kernel, by decide +kernel, by decide +kernel, by decide +kernel, by decide +kernel⟩
abbrev s_has_circle : Stmt := top 13
-- has_circle: slots 0 channels, 1 left, 2 fed, 3 _, 4 consumer, 5 kept, 6 channel
abbrev nn_has_circle : List Str := ["channels", "left", "fed", "_", "consumer", "kept", "channel"]
theorem sc_has_circle : FnScope ["channels", "left", "fed", "_", "consumer", "kept", "channel"] ["channels"] (defScope s_has_circle) := ⟨rfl, rfl, rfl, by decide +kernel, rfl, by decide +kernel, by decide +kernel⟩
abbrev s_numbers_at : Stmt := top 14
-- _numbers_at: slots 0 stages, 1 ends, 2 numbers, 3 _, 4 number, 5 stage, 6 row
abbrev nn_numbers_at : List Str := ["stages", "ends", "numbers", "_", "number", "stage", "row"]
theorem sc_numbers_at : FnScope ["stages", "ends", "numbers", "_", "number", "stage", "row"] ["stages", "ends"] (defScope s_numbers_at) := ⟨rfl, rfl, rfl, by decide +kernel, rfl, by decide +kernel, by decide +kernel⟩
abbrev s_joins_two_stages : Stmt := top 15
-- _joins_two_stages: slots 0 stages, 1 channel, 2 ends, 3 end
abbrev nn_joins_two_stages : List Str := ["stages", "channel", "ends", "end"]
theorem sc_joins_two_stages : FnScope ["stages", "channel", "ends", "end"] ["stages", "channel"] (defScope s_joins_two_stages) := ⟨rfl, rfl, rfl, by decide +kernel, rfl, by decide +kernel, by decide +kernel⟩
abbrev s_check_channels : Stmt := top 16
-- _check_channels: slots 0 stages, 1 channels, 2 earlier, 3 position, 4 channel
abbrev nn_check_channels : List Str := ["stages", "channels", "earlier", "position", "channel"]
theorem sc_check_channels : FnScope ["stages", "channels", "earlier", "position", "channel"] ["stages", "channels"] (defScope s_check_channels) := ⟨rfl, rfl, rfl, by decide +kernel, rfl, by decide +kernel, by decide +kernel⟩
abbrev s_with_capacity : Stmt := top 17
-- _with_capacity: slots 0 channel, 1 capacity, 2 own
abbrev nn_with_capacity : List Str := ["channel", "capacity", "own"]
theorem sc_with_capacity : FnScope ["channel", "capacity", "own"] ["channel", "capacity"] (defScope s_with_capacity) := ⟨rfl, rfl, rfl, by decide +kernel, rfl, by decide +kernel, by decide +kernel⟩
abbrev s_law_cell : Stmt := top 19
-- _law_cell: slots 0 script, 1 k
abbrev nn_law_cell : List Str := ["script", "k"]
theorem sc_law_cell : FnScope ["script", "k"] ["script", "k"] (defScope s_law_cell) := ⟨rfl, rfl, rfl, by decide +kernel, rfl, by decide +kernel, by decide +kernel⟩
abbrev s_law_bag : Stmt := top 20
-- _law_bag: slots 0 script, 1 k, 2 cell
abbrev nn_law_bag : List Str := ["script", "k", "cell"]
theorem sc_law_bag : FnScope ["script", "k", "cell"] ["script", "k"] (defScope s_law_bag) := ⟨rfl, rfl, rfl, by decide +kernel, rfl, by decide +kernel, by decide +kernel⟩
abbrev s_law_draw : Stmt := top 21
-- _law_draw: slots 0 bag, 1 many, 2 digit, 3 mixed
abbrev nn_law_draw : List Str := ["bag", "many", "digit", "mixed"]
theorem sc_law_draw : FnScope ["bag", "many", "digit", "mixed"] ["bag", "many"] (defScope s_law_draw) := ⟨rfl, rfl, rfl, by decide +kernel, rfl, by decide +kernel, by decide +kernel⟩
abbrev s_law_same : Stmt := top 22
-- _law_same: slots 0 told, 1 due
abbrev nn_law_same : List Str := ["told", "due"]
theorem sc_law_same : FnScope ["told", "due"] ["told", "due"] (defScope s_law_same) := ⟨rfl, rfl, rfl, by decide +kernel, rfl, by decide +kernel, by decide +kernel⟩
abbrev s_law_same_row : Stmt := top 23
-- _law_same_row: slots 0 told, 1 due, 2 k
abbrev nn_law_same_row : List Str := ["told", "due", "k"]
theorem sc_law_same_row : FnScope ["told", "due", "k"] ["told", "due"] (defScope s_law_same_row) := ⟨rfl, rfl, rfl, by decide +kernel, rfl, by decide +kernel, by decide +kernel⟩
abbrev s_law_same_rows : Stmt := top 24
-- _law_same_rows: slots 0 told, 1 due, 2 k
abbrev nn_law_same_rows : List Str := ["told", "due", "k"]
theorem sc_law_same_rows : FnScope ["told", "due", "k"] ["told", "due"] (defScope s_law_same_rows) := ⟨rfl, rfl, rfl, by decide +kernel, rfl, by decide +kernel, by decide +kernel⟩
abbrev s_law_is_capacity : Stmt := top 25
-- _law_is_capacity: slots 0 thing
abbrev nn_law_is_capacity : List Str := ["thing"]
theorem sc_law_is_capacity : FnScope ["thing"] ["thing"] (defScope s_law_is_capacity) := ⟨rfl, rfl, rfl, by decide +kernel, rfl, by decide +kernel, by decide +kernel⟩
abbrev s_law_fault : Stmt := top 26
-- _law_fault: slots 0 sizes, 1 least, 2 most, 3 k
abbrev nn_law_fault : List Str := ["sizes", "least", "most", "k"]
theorem sc_law_fault : FnScope ["sizes", "least", "most", "k"] ["sizes", "least", "most"] (defScope s_law_fault) := ⟨rfl, rfl, rfl, by decide +kernel, rfl, by decide +kernel, by decide +kernel⟩
abbrev s_law_ring_of_40 : Stmt := top 27
-- _law_ring_of_40: slots 0 c
abbrev nn_law_ring_of_40 : List Str := ["c"]
theorem sc_law_ring_of_40 : FnScope ["c"] ["c"] (defScope s_law_ring_of_40) := ⟨rfl, rfl, rfl, by decide +kernel, rfl, by decide +kernel, by decide +kernel⟩
abbrev s_law_ring_of_41 : Stmt := top 28
-- _law_ring_of_41: slots 0 c
abbrev nn_law_ring_of_41 : List Str := ["c"]
theorem sc_law_ring_of_41 : FnScope ["c"] ["c"] (defScope s_law_ring_of_41) := ⟨rfl, rfl, rfl, by decide +kernel, rfl, by decide +kernel, by decide +kernel⟩
abbrev s_law_row_of_39 : Stmt := top 29
-- _law_row_of_39: slots 0 c
abbrev nn_law_row_of_39 : List Str := ["c"]
theorem sc_law_row_of_39 : FnScope ["c"] ["c"] (defScope s_law_row_of_39) := ⟨rfl, rfl, rfl, by decide +kernel, rfl, by decide +kernel, by decide +kernel⟩
abbrev s_law_row_of_40 : Stmt := top 30
-- _law_row_of_40: slots 0 c
abbrev nn_law_row_of_40 : List Str := ["c"]
theorem sc_law_row_of_40 : FnScope ["c"] ["c"] (defScope s_law_row_of_40) := ⟨rfl, rfl, rfl, by decide +kernel, rfl, by decide +kernel, by decide +kernel⟩
abbrev s_law_ring : Stmt := top 31
-- _law_ring: slots 0 c
abbrev nn_law_ring : List Str := ["c"]
theorem sc_law_ring : FnScope ["c"] ["c"] (defScope s_law_ring) := ⟨rfl, rfl, rfl, by decide +kernel, rfl, by decide +kernel, by decide +kernel⟩
abbrev s_law_row : Stmt := top 32
-- _law_row: slots 0 c
abbrev nn_law_row : List Str := ["c"]
theorem sc_law_row : FnScope ["c"] ["c"] (defScope s_law_row) := ⟨rfl, rfl, rfl, by decide +kernel, rfl, by decide +kernel, by decide +kernel⟩
abbrev s_law_links : Stmt := top 33
-- _law_links: slots 0 sizes, 1 ring, 2 count, 3 k
abbrev nn_law_links : List Str := ["sizes", "ring", "count", "k"]
theorem sc_law_links : FnScope ["sizes", "ring", "count", "k"] ["sizes", "ring"] (defScope s_law_links) := ⟨rfl, rfl, rfl, by decide +kernel, rfl, by decide +kernel, by decide +kernel⟩
abbrev s_law_good : Stmt := top 34
-- _law_good: slots 0 net, 1 sizes, 2 ring, 3 links, 4 count, 5 kind, 6 words
abbrev nn_law_good : List Str := ["net", "sizes", "ring", "links", "count", "kind", "words"]
theorem sc_law_good : FnScope ["net", "sizes", "ring", "links", "count", "kind", "words"] ["net", "sizes", "ring"] (defScope s_law_good) := ⟨rfl, rfl, rfl, by decide +kernel, rfl, by decide +kernel, by decide +kernel⟩
abbrev s_law_answered : Stmt := top 35
-- _law_answered: slots 0 sizes, 1 ring, 2 due, 3 net, 4 refusal
abbrev nn_law_answered : List Str := ["sizes", "ring", "due", "net", "refusal"]
theorem sc_law_answered : FnScope ["sizes", "ring", "due", "net", "refusal"] ["sizes", "ring"] (defScope s_law_answered) := ⟨rfl, rfl, rfl, by decide +kernel, rfl, by decide +kernel, by decide +kernel⟩
abbrev s_law_mended : Stmt := top 36
-- _law_mended: slots 0 sizes, 1 ring, 2 turn, 3 odd, 4 k
abbrev nn_law_mended : List Str := ["sizes", "ring", "turn", "odd", "k"]
theorem sc_law_mended : FnScope ["sizes", "ring", "turn", "odd", "k"] ["sizes", "ring"] (defScope s_law_mended) := ⟨rfl, rfl, rfl, by decide +kernel, rfl, by decide +kernel, by decide +kernel⟩
abbrev s_law_pipeline : Stmt := top 37
-- _law_pipeline: slots 0 count, 1 c
abbrev nn_law_pipeline : List Str := ["count", "c"]
theorem sc_law_pipeline : FnScope ["count", "c"] ["count", "c"] (defScope s_law_pipeline) := ⟨rfl, rfl, rfl, by decide +kernel, rfl, by decide +kernel, by decide +kernel⟩
abbrev s_law_equal : Stmt := top 38
-- _law_equal: slots 0 one, 1 other, 2 due
abbrev nn_law_equal : List Str := ["one", "other", "due"]
theorem sc_law_equal : FnScope ["one", "other", "due"] ["one", "other", "due"] (defScope s_law_equal) := ⟨rfl, rfl, rfl, by decide +kernel, rfl, by decide +kernel, by decide +kernel⟩
abbrev s_law_compared : Stmt := top 39
-- _law_compared: slots 0 sizes, 1 place, 2 count, 3 links, 4 row, 5 thing, 6 changed, 7 ring
abbrev nn_law_compared : List Str := ["sizes", "place", "count", "links", "row", "thing", "changed", "ring"]
theorem sc_law_compared : FnScope ["sizes", "place", "count", "links", "row", "thing", "changed", "ring"] ["sizes", "place"] (defScope s_law_compared) := ⟨rfl, rfl, rfl, by decide +kernel, rfl, by decide +kernel, by decide +kernel⟩
abbrev s_law_size : Stmt := top 40
-- _law_size: slots 0 bag, 1 way
abbrev nn_law_size : List Str := ["bag", "way"]
theorem sc_law_size : FnScope ["bag", "way"] ["bag"] (defScope s_law_size) := ⟨rfl, rfl, rfl, by decide +kernel, rfl, by decide +kernel, by decide +kernel⟩
abbrev s_law_large : Stmt := top 41
-- _law_large: slots 0 bag, 1 first, 2 step, 3 sizes, 4 k, 5 count
abbrev nn_law_large : List Str := ["bag", "first", "step", "sizes", "k", "count"]
theorem sc_law_large : FnScope ["bag", "first", "step", "sizes", "k", "count"] ["bag"] (defScope s_law_large) := ⟨rfl, rfl, rfl, by decide +kernel, rfl, by decide +kernel, by decide +kernel⟩
abbrev s_law_small : Stmt := top 42
-- _law_small: slots 0 bag, 1 sizes, 2 k, 3 things, 4 thing, 5 plain, 6 one
abbrev nn_law_small : List Str := ["bag", "sizes", "k", "things", "thing", "plain", "one"]
theorem sc_law_small : FnScope ["bag", "sizes", "k", "things", "thing", "plain", "one"] ["bag"] (defScope s_law_small) := ⟨rfl, rfl, rfl, by decide +kernel, rfl, by decide +kernel, by decide +kernel⟩
abbrev s_law : Stmt := top 43
-- law: slots 0 script, 1 most, 2 k, 3 bag, 4 good
abbrev nn_law : List Str := ["script", "most", "k", "bag", "good"]
theorem sc_law : FnScope ["script", "most", "k", "bag", "good"] ["script"] (defScope s_law) := ⟨rfl, rfl, rfl, by decide +kernel, rfl, by decide +kernel, by decide +kernel⟩
end WC

set_option maxHeartbeats 4000000
namespace WC
open PySem PySem.Spec PyProof.Rows L2
/-- built-ins' names that the module leaves alone -/
structure Blt (mg : Str → Option Value) : Prop where
  isi : mg "isinstance" = none
  int : mg "int" = none
  bool : mg "bool" = none
  tuple : mg "tuple" = none
  list : mg "list" = none
  str : mg "str" = none
  len : mg "len" = none
  range : mg "range" = none
  sorted : mg "sorted" = none
  enum : mg "enumerate" = none
  sum : mg "sum" = none
  all : mg "all" = none
  max : mg "max" = none
  min : mg "min" = none
  verr : mg "ValueError" = none
/-- a value that the laws hand about: its type is known -/
def Known (K : PySem.W.Frag) (H : Hp) : V → Prop
  | .int _ => True
  | .bl _ => True
  | .non => True
  | .str _ => True
  | .ref a => (∃ xs, H a = some (.tup xs)) ∨ ∃ xs, H a = some (.lst xs)
  | _ => False
/-- the value's type -/
def tyN (H : Hp) : V → String
  | .int _ => "int"
  | .bl _ => "bool"
  | .non => "NoneType"
  | .str _ => "str"
  | .ref a => match H a with
    | some (.tup _) => "tuple"
    | _ => "list"
  | _ => "list"
theorem Known.ty {K : PySem.W.Frag} {H : Hp} {x : V} (k : Known K H x) : TyX K H x (.type (tyN H x)) := by
  cases x with
  | int i => exact .base (.int i)
  | bl b => exact .base (.bl b)
  | non => exact .base .non
  | str z => exact .base (.str z)
  | ref a =>
    rcases k with ⟨xs, e⟩ | ⟨xs, e⟩
    · have q : tyN H (.ref a) = "tuple" := by simp only [tyN, e]
      rw [q]
      exact .base (.tup e)
    · have q : tyN H (.ref a) = "list" := by simp only [tyN, e]
      rw [q]
      exact .base (.lst e)
  | byt b => exact k.elim
  | flt b => exact k.elim
  | ty n => exact k.elim
theorem tyN_ref {H : Hp} {a : Addr} : tyN H (.ref a) = "tuple" ∨ tyN H (.ref a) = "list" := by
  simp only [tyN]
  split
  · exact .inl rfl
  · exact .inr rfl
/-- an int within the bounds -/
def btw (x : V) (lo hi : Int) : Bool := match x with
  | .int i => decide (lo ≤ i) && decide (i ≤ hi)
  | _ => false
def isIV : V → Bool
  | .int _ => true
  | _ => false
def isBV : V → Bool
  | .bl _ => true
  | _ => false
theorem kb (a b : String) (r : Bool) (h : kitB a b = some r) {K : PySem.W.Frag} {t : String} (e : t = a) : PySem.W.kitOne K (.type t) (.type b) = some r := by
  rw [e]
  exact kit_ty h
theorem kit_int {K : PySem.W.Frag} {H : Hp} {x : V} (k : Known K H x) : PySem.W.kitOne K (.type (tyN H x)) (.type "int") = some (isIV x || isBV x) := by
  cases x with
  | int i => exact kb "int" "int" true (by decide +kernel) rfl
  | bl b => exact kb "bool" "int" true (by decide +kernel) rfl
  | non  => exact kb "NoneType" "int" false (by decide +kernel) rfl
  | str z => exact kb "str" "int" false (by decide +kernel) rfl
  | ref a =>
    rcases @tyN_ref H a with q | q
    · exact kb "tuple" "int" false (by decide +kernel) q
    · exact kb "list" "int" false (by decide +kernel) q
  | byt b => exact k.elim
  | flt b => exact k.elim
  | ty n => exact k.elim
theorem kit_bool {K : PySem.W.Frag} {H : Hp} {x : V} (k : Known K H x) : PySem.W.kitOne K (.type (tyN H x)) (.type "bool") = some (isBV x) := by
  cases x with
  | int i => exact kb "int" "bool" false (by decide +kernel) rfl
  | bl b => exact kb "bool" "bool" true (by decide +kernel) rfl
  | non  => exact kb "NoneType" "bool" false (by decide +kernel) rfl
  | str z => exact kb "str" "bool" false (by decide +kernel) rfl
  | ref a =>
    rcases @tyN_ref H a with q | q
    · exact kb "tuple" "bool" false (by decide +kernel) q
    · exact kb "list" "bool" false (by decide +kernel) q
  | byt b => exact k.elim
  | flt b => exact k.elim
  | ty n => exact k.elim
def spBtw (K : PySem.W.Frag) : Sp := fun vs H Q _ => ∃ (x : V) (lo hi : Int), vs = [x, .int lo, .int hi] ∧ Known K H x ∧ Q (.bl (btw x lo hi)) H
section
variable {P : Program} {w : World} {K : PySem.W.Frag} {mg : Str → Option Value} {base : Heap}
theorem ok_is_between {f : Addr} {fd : FuncData} (F : Fun K "is_between" "is_between" s_is_between f fd) (B : Blt mg) : FnOk P w K mg base (L2.CX P w) 1 f fd ["value", "low", "high"] (spBtw K) := by
  refine F.okX sc_is_between (fun vs H Q E h => ?_) (fun cdv A outer s H vs Q E hr h => ?_)
  · obtain ⟨x, lo, hi, rfl, _⟩ := h
    rfl
  · obtain ⟨x, lo, hi, rfl, hk, k⟩ := h
    refine ⟨_, pss_one (ps_ret (pe_and (pe_callB call_isi (by rfl) B.isi (by decide +kernel) (pa_cons (pv 0) (pa_cons (pe_bltn (v := .ty "int") (by rfl) B.int (by decide +kernel) rfl) pa_nil)))
      (pe_and (pe_not (pe_callB call_isi (by rfl) B.isi (by decide +kernel) (pa_cons (pv 0) (pa_cons (pe_bltn (v := .ty "bool") (by rfl) B.bool (by decide +kernel) rfl) pa_nil))))
        (pe_one (pe_chain op_le op_le (pv 1) (pv 0) (pv 2)))))), ?_⟩
    refine ⟨_, rfl, _, _, _, _, _, rfl, .ty _, hk.ty, kit_int hk, _, rfl, ?_⟩
    cases x with
    | int i =>
      refine iteT ⟨_, rfl, _, _, _, _, _, rfl, .ty _, hk.ty, kit_bool hk, _, rfl, _, rfl, ?_⟩
      refine iteT ⟨_, rfl, _, rfl, _, _, rfl, rfl, _, rfl, ?_⟩
      refine ite2 (fun e => ⟨_, rfl, _, _, rfl, rfl, ?_⟩) (fun e => ?_)
      · have q : btw (.int i) lo hi = decide (i ≤ hi) := by unfold btw; simp [e]
        rw [q] at k
        exact k
      · have q : btw (.int i) lo hi = false := by unfold btw; simp; intro z; simp [z] at e
        rw [q] at k
        exact k
    | bl b => exact iteT ⟨_, rfl, _, _, _, _, _, rfl, .ty _, hk.ty, kit_bool hk, _, rfl, _, rfl, iteF k⟩
    | non => exact iteF k
    | str z => exact iteF k
    | ref a => exact iteF k
    | byt b => exact hk.elim
    | flt b => exact hk.elim
    | ty n => exact hk.elim
end
end WC

set_option maxHeartbeats 4000000
namespace WC
open PySem PySem.Spec PyProof.Rows L2
def flN : List V → List (Str × V)
  | [v] => [("number", v)]
  | _ => []
section
variable {P : Program} {w : World} {K : PySem.W.Frag} {mg : Str → Option Value} {base : Heap}
theorem ok_NotFound_init {f C : Addr} {fd : FuncData} (F : Fun K "__init__" "NotFound.__init__" s_NotFound_init f fd) (T : OexC K C) (hno : PySem.W.findIn K (.ref C) "number" = some none) : FnOk P w K mg base (L2.CX P w) 1 f fd ["self", "number"] (spX C 1 flN) := by
  refine F.okX sc_NotFound_init (fun vs H Q E h => ?_) (fun cdv A outer s H vs Q E hr h => ?_)
  · obtain ⟨a, ws, rfl, hl, _⟩ := h
    simp [hl]
  · obtain ⟨a, ws, rfl, hl, ha, k⟩ := h
    match ws, hl with
    | [v], _ =>
      refine ⟨_, pss_one (ps_ost (pv 0) (pv 1)), ?_⟩
      exact ⟨_, rfl, _, rfl, a, C, rfl, T, hno, .inl ⟨ha, fun d hd hne => k d hd hne⟩⟩
/-- check_number(value, many): nothing, or NotFound(value) -/
def spCheckNumber (K : PySem.W.Frag) (CN : Addr) : Sp := fun vs H Q E => ∃ (x : V) (n : Int), vs = [x, .int n] ∧ Known K H x ∧
  (btw x 0 (n - 1) = true → Q .non H) ∧ (btw x 0 (n - 1) = false → ∀ d, H d = none → E (.ref CN) (some d) (upd H d (.xd [("number", x)])))
theorem ok_check_number {f CN : Addr} {fd : FuncData} {k : Nat} (F : Fun K "check_number" "check_number" s_check_number f fd) (G : DefR P w K mg base "is_between" 1 (spBtw K)) (T : ExcR P w K mg base "NotFound" CN 1 1 flN) : FnOk P w K mg base (L2.CX P w) 3 f fd ["value", "many"] (spCheckNumber K CN) := by
  refine F.okX sc_check_number (fun vs H Q E h => ?_) (fun cdv A outer s H vs Q E hr h => ?_)
  · obtain ⟨x, n, rfl, _⟩ := h
    rfl
  · obtain ⟨x, n, rfl, hk, k1, k2⟩ := h
    refine ⟨_, pss_one (ps_if (pt_not (pt_val (pe_cd G hr psE (pa_cons (pv 0) (pa_cons pe_int (pa_cons (pe_op op_sub (pv 1) pe_int) pa_nil)))))) (pss_one (ps_raise rfl (takes_of rfl rfl rfl rfl) (pmk_x T hr (pa_cons (pv 0) pa_nil)))) pss_nil), ?_⟩
    refine ⟨_, rfl, _, rfl, _, _, rfl, rfl, _, _, _, rfl, hk, _, rfl, ?_⟩
    cases e : btw x 0 (n - 1) with
    | true => exact iteF (k1 e)
    | false => exact iteT ⟨_, rfl, x_use rfl (by decide) fun d hd => k2 e d hd⟩
end
end WC

set_option maxHeartbeats 4000000
namespace WC
open PySem PySem.Spec PyProof.Rows L2
/-- _numbers_at(stages, ends) -/
def spNums : Sp := fun vs H Q _ => ∃ (n : Nat) (l : Addr) (es : List Int), vs = [.int n, .ref l] ∧ n ≤ 40 ∧ H l = some (.lst (es.map V.int)) ∧ es.length ≤ 1000 ∧ (∀ e ∈ es, 0 ≤ e ∧ e < n) ∧
  ∀ H2 r, Same H H2 → H r = none → RowsA H2 r n es → Q (.ref r) H2
/-- the rows while they are filled -/
structure Filling (H0 H : Hp) (D : Addr) (ls : List Addr) (n : Nat) (es : List Int) (m : Nat) : Prop where
  same : Same H0 H
  dN : H0 D = none
  dL : H D = some (.lst (ls.map V.ref))
  len : ls.length = n
  nod : ls.Nodup
  fresh : ∀ l ∈ ls, H0 l = none ∧ l ≠ D
  rows : ∀ (j : Nat) l, ls[j]? = some l → H l = some (.lst ((occ es (j : Int) m).map V.int))
section
variable {P : Program} {w : World} {K : PySem.W.Frag} {mg : Str → Option Value} {base : Heap}
theorem ok_numbers_at {f : Addr} {fd : FuncData} (F : Fun K "_numbers_at" "_numbers_at" s_numbers_at f fd) (B : Blt mg) : FnOk P w K mg base (L2.CX P w) 1 f fd ["stages", "ends"] spNums := by
  refine F.okX sc_numbers_at (fun vs H Q E h => ?_) (fun cdv A outer s H vs Q E hr h => ?_)
  · obtain ⟨n, l, es, rfl, _⟩ := h
    rfl
  · obtain ⟨n, l, es, rfl, hn, hl, hle, hes, k⟩ := h
    -- slots: 0 stages, 1 ends, 2 numbers, 3 _, 4 number, 5 stage, 6 row
    refine ⟨_, pss_cons (ps_setLc (i := 2) (own := [("_", 3)]) rfl sc_numbers_at.nd rfl rfl (sw_true rfl rfl rfl (by decide +kernel)) (pi_range1 (by rfl) B.range (pa_cons (pv 0) pa_nil)) (blkOk_by (N := nn_numbers_at) (sc := defScope s_numbers_at) (own := [("_", 3)]) (by decide +kernel))
        (fun _ _ _ _ _ => pg_name (i := 3) sc_numbers_at.nd rfl (Or.inl rfl)) (fun _ _ _ _ _ => pts_nil) (fun _ _ _ _ _ => pe_lst pa_nil))
      (pss_cons (ps_for (passes_of rfl) rfl (pi_enum (by rfl) B.enum (pa_cons (pv 1) pa_nil)) (pg_tup rfl (pgs_cons (pg_name (i := 4) sc_numbers_at.nd rfl (Or.inl rfl)) (pgs_cons (pg_name (i := 5) sc_numbers_at.nd rfl (Or.inl rfl)) pgs_nil)))
        (pss_one (ps_expr (pe_bm PySem.F.plainAttrs_list PySem.F.slot_list_append PySem.F.type_list_append mt_append (pe_ix ix_list (pv 2) (pv 5) (fun _ _ => rfl)) (pa_cons (pv 4) pa_nil)))))
      (pss_one (ps_ret (pe_callTy call_tuple_of (by rfl) B.tuple (by decide +kernel) (pa_cons
        (pe_lc (own := [("row", 6)]) rfl sc_numbers_at.nd (pi_list (pv 2)) (blkOk_by (N := nn_numbers_at) (sc := defScope s_numbers_at) (own := [("row", 6)]) (by decide +kernel)) (fun _ _ _ _ _ => pg_name (i := 6) sc_numbers_at.nd rfl (Or.inl rfl)) (fun _ _ _ _ _ => pts_nil)
          (fun _ _ _ _ _ => pe_callTy (T := "tuple") (c_tup (K := K)) (by rfl) B.tuple bt_tuple (pa_cons (pv 6) pa_nil))) pa_nil))))), ?_⟩
    -- numbers = [[] for _ in range(stages)]
    refine ⟨_, rfl, (n : Int), rfl, by omega, by omega, fun D hD => lc_range (lo := 0) (n := n) (fun i H2 => ∃ ls, Filling H H2 D ls i es 0) ⟨[], ?_⟩ ?_ ?_⟩
    · exact ⟨Same.new hD, hD, upd_same, rfl, List.nodup_nil, fun _ z => (by cases z), fun j l e => (by simp at e)⟩
    · rintro i H2 hi ⟨ls, Fl⟩
      refine ⟨rfl, ?_⟩
      refine yes ?_
      refine ⟨by decide, fun p hp => ⟨ls.map V.ref, ?_, ?_, ls ++ [p], ?_⟩⟩
      · rw [upd_ne (ne_of_none Fl.dL hp)]
        exact Fl.dL
      · rw [List.length_map, Fl.len]
        exact line_lt (by omega)
      · have pD : p ≠ D := (ne_of_none Fl.dL hp).symm
        have pH : H p = none := Fl.same.free hp
        refine ⟨(Fl.same.newer pH).newer hD, hD, by rw [upd_same, List.map_append]; rfl, by rw [List.length_append, Fl.len]; rfl, ?_, ?_, ?_⟩
        · rw [List.nodup_append]
          refine ⟨Fl.nod, by simp, fun a ha b hb e => ?_⟩
          have hb := List.mem_singleton.mp hb
          obtain ⟨j, hj⟩ := List.mem_iff_getElem?.mp ha
          have z := Fl.rows j a hj
          rw [e, hb, hp] at z
          cases z
        · intro l2 h2
          rcases List.mem_append.mp h2 with h2 | h2
          · exact Fl.fresh l2 h2
          · have e := List.mem_singleton.mp h2
            rw [e]
            exact ⟨pH, pD⟩
        · intro j l2 e
          by_cases hj : j < ls.length
          · rw [List.getElem?_append_left hj] at e
            have z := Fl.rows j l2 e
            have hm := List.mem_of_getElem? e
            rw [upd_ne (Fl.fresh l2 hm).2, upd_ne (ne_of_none z hp)]
            exact z
          · rw [List.getElem?_append_right (by omega)] at e
            have e1 : l2 = p := by
              cases q : j - ls.length with
              | zero => rw [q] at e; exact (Option.some.inj e).symm
              | succ m => rw [q] at e; cases e
            rw [e1, upd_ne pD, upd_same, occ_zero]
            rfl
    · -- for number, stage in enumerate(ends)
      rintro H2 ⟨ls, Fl⟩
      refine ⟨_, rfl, l, _, rfl, SqL.of (Fl.same _ _ hl), for_it (walk_enum (xs := es.map V.int)) (fun m σ H3 => ∃ v4 v5 v3 v6, σ = [some (.int n), some (.ref l), some (.ref D), v3, v4, v5, v6] ∧ ∃ ls, Filling H H3 D ls n es m) ⟨_, _, _, _, rfl, ls, Fl⟩ ?_ ?_ ?_⟩
      · rintro i σ H3 _ ⟨_, _, _, _, _, ls, Fl⟩
        exact SqL.of (Fl.same _ _ hl)
      · rintro i x σ H3 H4 hi ⟨v4, v5, v3, v6, rfl, ls, Fl⟩ ⟨T, x1, y1, rfl, hT, rfl, e1, e2⟩
        cases e1
        rw [List.length_map] at hi
        have he : es[i]? = some es[i] := by simp [hi]
        have e3 : y1 = V.int es[i] := by
          have e2 : (es.map V.int)[i]? = some y1 := e2
          rw [List.getElem?_map, he] at e2
          exact (Option.some.inj e2).symm
        subst e3
        obtain ⟨g0, g1⟩ := hes _ (List.mem_of_getElem? he)
        obtain ⟨j, hj⟩ : ∃ j : Nat, es[i] = (j : Int) := ⟨es[i].toNat, by omega⟩
        have hjn : j < ls.length := by rw [Fl.len]; omega
        have hlj : ls[j]? = some ls[j] := by simp [hjn]
        have rj := Fl.rows j _ hlj
        have fj := Fl.fresh _ (List.mem_of_getElem? hlj)
        have TD : D ≠ T := ne_of_none Fl.dL hT
        have Tj : ls[j] ≠ T := ne_of_none rj hT
        refine ⟨T, _, rfl, SqT.of upd_same, rfl, ?_⟩
        refine ⟨_, _, rfl, _, _, rfl, rfl, _, rfl, _, rfl, D, _, _, .ref ls[j], rfl, rfl, SqL.of (by rw [upd_ne TD]; exact Fl.dL), ?_, ?_⟩
        · rw [hj]
          exact atI_nat (by rw [List.getElem?_map, hlj]; rfl)
        refine ⟨.inl ⟨rfl, _, SqL.of (by rw [upd_ne Tj]; exact rj)⟩, _, rfl, ls[j], _, _, rfl, rfl, by rw [upd_ne Tj]; exact rj, ?_, ?_⟩
        · rw [List.length_map]
          exact line_lt (by have := occ_len es (j : Int) i; omega)
        refine ⟨_, _, _, _, rfl, ls, ?_⟩
        have hTH : H T = none := Fl.same.free hT
        have hit : occ es (j : Int) (i + 1) = occ es (j : Int) i ++ [(i : Int)] := occ_hit (by rw [he, hj])
        refine ⟨(Fl.same.newer hTH).newer fj.1, hD, by rw [upd_ne (Ne.symm fj.2), upd_ne TD]; exact Fl.dL, Fl.len, Fl.nod, Fl.fresh, fun q l2 e => ?_⟩
        by_cases hq : q = j
        · subst hq
          rw [hlj] at e
          cases e
          rw [upd_same, hit, List.map_append]
          rfl
        · have ne : l2 ≠ ls[j] := fun z => hq ((List.getElem?_inj (by have := (List.getElem?_eq_some_iff.mp e).1; omega) Fl.nod).mp (by rw [e, hlj, z]))
          have z := Fl.rows q l2 e
          rw [upd_ne ne, upd_ne (ne_of_none z hT), occ_miss (e := es[i]) he (by rw [hj]; omega)]
          exact z
      · -- the tuples
        rintro σ H3 ⟨v4, v5, v3, v6, rfl, ls, Fl⟩
        rw [List.length_map] at Fl
        refine ⟨_, rfl, D, rfl, ⟨_, SqL.of Fl.dL⟩, fun R hR => lc_list (K := K) (a := D) (xs := ls.map V.ref) (fun m H4 => Same H3 H4 ∧ ∃ ts : List V, H4 R = some (.lst ts) ∧ ts.length = m ∧ ∀ (j : Nat) v, ts[j]? = some v → ∃ t, v = .ref t ∧ H4 t = some (.tup ((occ es (j : Int) es.length).map V.int))) ⟨Same.new hR, [], upd_same, rfl, fun j v e => by simp at e⟩ (fun i H4 _ h4 => SqL.of (h4.1 _ _ Fl.dL)) ?_ ?_⟩
        · rintro i x H4 hx ⟨s4, ts, t1, t2, t3⟩
          rw [List.getElem?_map] at hx
          obtain ⟨lx, e1, e2⟩ : ∃ lx, ls[i]? = some lx ∧ x = V.ref lx := by
            cases q : ls[i]? with
            | none => rw [q] at hx; cases hx
            | some lx => rw [q] at hx; exact ⟨lx, rfl, (Option.some.inj hx).symm⟩
          subst e2
          refine ⟨rfl, ?_⟩
          refine yes ?_
          refine ⟨_, rfl, lx, _, rfl, .inl ⟨SqL.of (s4 _ _ (Fl.rows i lx e1)), fun p hp => ⟨ts, ?_, ?_, ?_, ts ++ [.ref p], upd_same, by rw [List.length_append, t2]; rfl, ?_⟩⟩⟩
          · rw [upd_ne (ne_of_none t1 hp)]
            exact t1
          · have : i < ls.length := (List.getElem?_eq_some_iff.mp e1).1
            have := Fl.len
            exact line_lt (by omega)
          · exact Same.newer (Same.newer s4 (Same.free s4 hp)) hR
          · have pR : p ≠ R := (ne_of_none t1 hp).symm
            intro j v e
            by_cases hj : j < ts.length
            · rw [List.getElem?_append_left hj] at e
              obtain ⟨t, q1, q2⟩ := t3 j v e
              have tR : t ≠ R := fun z => by
                rw [z, t1] at q2
                cases q2
              refine ⟨t, q1, ?_⟩
              rw [upd_ne tR, upd_ne (ne_of_none q2 hp)]
              exact q2
            · rw [List.getElem?_append_right (by omega)] at e
              have e1 : v = V.ref p ∧ j = i := by
                cases q : j - ts.length with
                | zero => rw [q] at e; exact ⟨(Option.some.inj e).symm, by omega⟩
                | succ m => rw [q] at e; cases e
              refine ⟨p, e1.1, ?_⟩
              rw [upd_ne pR, upd_same, e1.2]
        · rintro H4 ⟨s4, ts, t1, t2, t3⟩
          rw [List.length_map, Fl.len] at t2
          refine ⟨R, ts, rfl, .inl ⟨SqL.of t1, fun r hr2 => ?_⟩⟩
          have s5 : Same H H4 := Fl.same.trans s4
          refine k _ r (Same.newer s5 (Same.free s5 hr2)) (Same.free s5 hr2) ⟨ts, upd_same, t2, fun j v e => ?_⟩
          obtain ⟨t, q1, q2⟩ := t3 j v e
          exact ⟨t, q1, by rw [upd_ne (ne_of_none q2 hr2)]; exact q2⟩
end
end WC

set_option maxHeartbeats 4000000
namespace WC
open PySem PySem.Spec PyProof.Rows L2
theorem pr_perm {α β : Type} {F : α → β → Prop} {ys vs : List β} (p : ys.Perm vs) : ∀ {cs : List α}, Paired F cs vs → ∃ cs2 : List α, cs2.Perm cs ∧ Paired F cs2 ys := by
  induction p with
  | nil => intro cs h; exact ⟨cs, .refl _, h⟩
  | cons x p ih =>
    intro cs h
    cases h with
    | cons a t =>
      obtain ⟨c2, q, r⟩ := ih t
      exact ⟨_ :: c2, q.cons _, .cons a r⟩
  | swap x y l =>
    intro cs h
    cases h with
    | cons a t =>
      cases t with
      | cons b t => exact ⟨_, .swap _ _ _, .cons b (.cons a t)⟩
  | trans p q ih1 ih2 =>
    intro cs h
    obtain ⟨c2, q1, r1⟩ := ih2 h
    obtain ⟨c3, q2, r2⟩ := ih1 r1
    exact ⟨c3, q2.trans q1, r2⟩
def key (c : Tri) : Int := (c.1 * 1000 + c.2.1) * 1000 + c.2.2
/-- a channel of a net of n stages -/
def ChOk (n : Nat) (c : Tri) : Prop := (0 ≤ c.1 ∧ c.1 < n) ∧ (0 ≤ c.2.1 ∧ c.2.1 < n) ∧ c.1 ≠ c.2.1 ∧ 1 ≤ c.2.2 ∧ c.2.2 ≤ 999
structure NetAt (H : Hp) (x C : Addr) (n : Nat) (cs : List Tri) : Prop where
  ex : ∃ dx tc ti to vs, H x = some (.ins C dx [("stages", .int n), ("channels", .ref tc), ("_incoming", .ref ti), ("_outgoing", .ref to)]) ∧ H tc = some (.tup vs) ∧ Paired (TriA H) cs vs ∧ RowsA H ti n (cs.map (·.2.1)) ∧ RowsA H to n (cs.map (·.1))
theorem NetAt.same {H H2 : Hp} {x C : Addr} {n : Nat} {cs : List Tri} (s : Same H H2) (h : NetAt H x C n cs) : NetAt H2 x C n cs := by
  obtain ⟨dx, tc, ti, to, vs, h1, h2, h3, h4, h5⟩ := h.ex
  exact ⟨dx, tc, ti, to, vs, s _ _ h1, s _ _ h2, tris_same s h3, h4.same s, h5.same s⟩
structure NetCls (K : PySem.W.Frag) (C : Addr) : Prop where
  cl : Cls K C
  nS : NoAttr K C "stages"
  nC : NoAttr K C "channels"
  nI : NoAttr K C "_incoming"
  nO : NoAttr K C "_outgoing"
def spNetInit (C : Addr) : Sp := fun vs H Q _ => ∃ (x dx l : Addr) (n : Nat) (cs : List Tri) (ws : List V), vs = [.ref x, .int n, .ref l] ∧ H x = some (.ins C dx []) ∧ n ≤ 40 ∧ cs.length ≤ 60 ∧ H l = some (.lst ws) ∧ Paired (TriA H) cs ws ∧ (∀ c ∈ cs, ChOk n c) ∧
  ∀ H2 cs2, cs2.Perm cs → cs2.Pairwise (fun a b => key a ≤ key b) → (∀ b o, H b = some o → b ≠ x → H2 b = some o) → NetAt H2 x C n cs2 → Q .non H2
abbrev flds4 (a b c d : V) : List (Str × V) := [(("stages" : Str), a), (("channels" : Str), b), (("_incoming" : Str), c), (("_outgoing" : Str), d)]
theorem fields4 {a b c d : V} : putF "_outgoing" d (putF "_incoming" c (putF "channels" b (putF "stages" a []))) = flds4 a b c d := by
  have h1 : ¬ (("stages" : Str) = "channels") := by decide +kernel
  have h2 : ¬ (("stages" : Str) = "_incoming") := by decide +kernel
  have h3 : ¬ (("stages" : Str) = "_outgoing") := by decide +kernel
  have h4 : ¬ (("channels" : Str) = "_incoming") := by decide +kernel
  have h5 : ¬ (("channels" : Str) = "_outgoing") := by decide +kernel
  have h6 : ¬ (("_incoming" : Str) = "_outgoing") := by decide +kernel
  simp only [putF, h1, h2, h3, h4, h5, h6, if_false]
theorem lk_st {a b c d : V} : (flds4 a b c d).lookup ("stages" : Str) = some a := by simp [List.lookup]
theorem lk_ch {a b c d : V} : (flds4 a b c d).lookup ("channels" : Str) = some b := by
  have h1 : (("channels" : Str) == ("stages" : Str)) = false := by decide +kernel
  simp [List.lookup, h1]
theorem lk_in {a b c d : V} : (flds4 a b c d).lookup ("_incoming" : Str) = some c := by
  have h1 : (("_incoming" : Str) == ("stages" : Str)) = false := by decide +kernel
  have h2 : (("_incoming" : Str) == ("channels" : Str)) = false := by decide +kernel
  simp [List.lookup, h1, h2]
theorem lk_ou {a b c d : V} : (flds4 a b c d).lookup ("_outgoing" : Str) = some d := by
  have h1 : (("_outgoing" : Str) == ("stages" : Str)) = false := by decide +kernel
  have h2 : (("_outgoing" : Str) == ("channels" : Str)) = false := by decide +kernel
  have h3 : (("_outgoing" : Str) == ("_incoming" : Str)) = false := by decide +kernel
  simp [List.lookup, h1, h2, h3]
theorem lk_ch2 {a b : V} : (putF "channels" b (putF "stages" a [])).lookup ("channels" : Str) = some b := by
  rw [lookup_putF, if_pos rfl]
theorem lk_ch3 {a b c : V} : (putF "_incoming" c (putF "channels" b (putF "stages" a []))).lookup ("channels" : Str) = some b := by
  have h4 : ¬ (("channels" : Str) = "_incoming") := by decide +kernel
  rw [lookup_putF, if_neg h4, lookup_putF, if_pos rfl]
theorem code3 (a b c : Int) : TS.code 1000 [a, b, c] = key (a, b, c) := by
  show a * 1000 ^ 2 + (b * 1000 ^ 1 + (c * 1000 ^ 0 + 0)) = (a * 1000 + b) * 1000 + c
  omega
section
variable {P : Program} {w : World} {K : PySem.W.Frag} {mg : Str → Option Value} {base : Heap}
/-- [channel[i] for channel in self.channels] gives the ends -/
theorem ok_Net_init {C f : Addr} {fd : FuncData} (F : Fun K "__init__" "Net.__init__" s_Net_init f fd) (B : Blt mg) (T : NetCls K C) (G : DefR P w K mg base "_numbers_at" 1 spNums) : FnOk P w K mg base (L2.CX P w) 2 f fd ["self", "stages", "channels"] (spNetInit C) := by
  refine F.okX sc_Net_init (fun vs H Q E h => ?_) (fun cdv A outer s H vs Q E hr h => ?_)
  · obtain ⟨x, dx, l, n, cs, ws, rfl, _⟩ := h
    rfl
  · obtain ⟨x, dx, l, n, cs, ws, rfl, hx, hn, hcs, hl, hp, hok, k⟩ := h
    refine ⟨_, pss_cons (ps_fld (pv 0) (pv 1) rfl) (pss_cons (ps_fld (pv 0) (pe_callTy (T := "tuple") (c_tup (K := K)) (by rfl) B.tuple bt_tuple (pa_cons (pe_callB (cr_sortT (d := 3) (B := 1000) (by decide)) (by rfl) B.sorted bt_sorted (pa_cons (pv 2) pa_nil)) pa_nil)) rfl)
      (pss_cons (ps_fld (pv 0) (pe_cd G hr psE (pa_cons (pv 1) (pa_cons (pe_lc (own := [("channel", 3)]) rfl sc_Net_init.nd (pi_tup (pe_fld (pv 0) rfl)) (blkOk_by (N := nn_Net_init) (sc := defScope s_Net_init) (own := [("channel", 3)]) (by decide +kernel)) (fun _ _ _ _ _ => pg_name (i := 3) sc_Net_init.nd rfl (Or.inl rfl)) (fun _ _ _ _ _ => pts_nil)
          (fun _ _ _ _ _ => pe_ix (i_tup (K := K)) (pv 3) pe_int (fun _ _ => rfl))) pa_nil))) rfl)
      (pss_one (ps_fld (pv 0) (pe_cd G hr psE (pa_cons (pv 1) (pa_cons (pe_lc (own := [("channel", 3)]) rfl sc_Net_init.nd (pi_tup (pe_fld (pv 0) rfl)) (blkOk_by (N := nn_Net_init) (sc := defScope s_Net_init) (own := [("channel", 3)]) (by decide +kernel)) (fun _ _ _ _ _ => pg_name (i := 3) sc_Net_init.nd rfl (Or.inl rfl)) (fun _ _ _ _ _ => pts_nil)
          (fun _ _ _ _ _ => pe_ix (i_tup (K := K)) (pv 3) pe_int (fun _ _ => rfl))) pa_nil))) rfl)))), ?_⟩
    have xl : x ≠ l := ne_of hx hl (by intro z; cases z)
    refine ⟨_, rfl, _, rfl, x, C, dx, _, rfl, hx, T.cl, T.nS, by show 0 < 1000; decide, ?_⟩
    -- self.channels = tuple(sorted(channels))
    have lx : l ≠ x := xl.symm
    refine ⟨_, rfl, l, ws, rfl, SqL.of (by rw [upd_ne lx]; exact hl), by rw [← hp.length]; omega, fun v hv => ?_, fun ys p hperm hpw np => ⟨p, ys, rfl, .inl ⟨SqL.of upd_same, fun q nq => ?_⟩⟩⟩
    · obtain ⟨i, hi⟩ := List.mem_iff_getElem?.mp hv
      obtain ⟨c, hc, t, rfl, ht⟩ := pr_at hp hi
      have tx : t ≠ x := ne_of ht hx (by intro z; cases z)
      obtain ⟨⟨a1, a2⟩, ⟨a3, a4⟩, _, a5, a6⟩ := hok c (List.mem_of_getElem? hc)
      refine ⟨[c.1, c.2.1, c.2.2], ⟨t, rfl, SqT.of (by rw [upd_ne tx]; exact ht)⟩, rfl, fun m hm => ?_⟩
      simp only [List.mem_cons, List.not_mem_nil, or_false] at hm
      rcases hm with e | e | e <;> rw [e] <;> omega
    -- the sorted channels
    obtain ⟨cs2, hcp, hp2⟩ := pr_perm hperm hp
    have hok2 : ∀ c ∈ cs2, ChOk n c := fun c hc => hok c (hcp.mem_iff.mp hc)
    have hlen : cs2.length = cs.length := hcp.length_eq
    have H1x : ∀ {b o}, H b = some o → b ≠ x → upd H x (.ins C dx (putF "stages" (.int n) [])) b = some o := fun {b o} e ne => by rw [upd_ne ne]; exact e
    have np' : H p = none := by
      have px : p ≠ x := fun z => by rw [z, upd_same] at np; cases np
      rw [upd_ne px] at np
      exact np
    have nq1 : upd H x (.ins C dx (putF "stages" (.int n) [])) q = none := Same.free (Same.new np) nq
    have nq' : H q = none := by
      have px : q ≠ x := fun z => by rw [z, upd_same] at nq1; cases nq1
      rw [upd_ne px] at nq1
      exact nq1
    have qx : x ≠ q := ne_of_none hx nq'
    have px : x ≠ p := ne_of_none hx np'
    have hsort : cs2.Pairwise fun a b => key a ≤ key b := by
      rw [List.pairwise_iff_getElem]
      intro i j hi hj hij
      obtain ⟨v1, e1, t1, rfl, f1⟩ := pr_to hp2 (i := i) (a := cs2[i]) (by simp [hi])
      obtain ⟨v2, e2, t2, rfl, f2⟩ := pr_to hp2 (i := j) (a := cs2[j]) (by simp [hj])
      obtain ⟨g1, g2⟩ := List.getElem?_eq_some_iff.mp e1
      obtain ⟨g3, g4⟩ := List.getElem?_eq_some_iff.mp e2
      have z := (List.pairwise_iff_getElem.mp hpw) i j g1 g3 hij
      rw [g2, g4] at z
      have n1 : t1 ≠ x := ne_of f1 hx (by intro z; cases z)
      have n2 : t2 ≠ x := ne_of f2 hx (by intro z; cases z)
      have y := z [cs2[i].1, cs2[i].2.1, cs2[i].2.2] [cs2[j].1, cs2[j].2.1, cs2[j].2.2] ⟨t1, rfl, SqT.of (H1x f1 n1)⟩ ⟨t2, rfl, SqT.of (H1x f2 n2)⟩
      rw [code3, code3] at y
      exact y
    refine ⟨_, rfl, x, C, dx, _, rfl, by rw [upd_ne qx, upd_ne px, upd_same], T.cl, T.nC, by show 1 < 1000; decide, ?_⟩
    -- H3: the channels kept
    obtain ⟨H3, eH3⟩ : ∃ H3, H3 = upd (upd (upd (upd H x (.ins C dx (putF "stages" (.int n) []))) p (.lst ys)) q (.tup ys)) x (.ins C dx (putF "channels" (.ref q) (putF "stages" (.int n) []))) := ⟨_, rfl⟩
    rw [← eH3]
    have hx3 : H3 x = some (.ins C dx (putF "channels" (.ref q) (putF "stages" (.int n) []))) := by rw [eH3, upd_same]
    have hq3 : H3 q = some (.tup ys) := by rw [eH3, upd_ne (Ne.symm qx), upd_same]
    have old3 : ∀ b o, H b = some o → b ≠ x → H3 b = some o := fun b o e ne => by
      rw [eH3, upd_ne ne, upd_ne (ne_of_none e nq'), upd_ne (ne_of_none e np'), upd_ne ne]
      exact e
    have hp3 : Paired (TriA H3) cs2 ys := Paired.mapP hp2 fun c v ⟨t, e, ht⟩ => ⟨t, e, old3 _ _ ht (ne_of ht hx (by intro z; cases z))⟩
    have ends : ∀ g : Tri → Int, (∀ c, g c = c.1 ∨ g c = c.2.1) → ∀ e ∈ cs2.map g, 0 ≤ e ∧ e < n := fun g hg e he => by
      obtain ⟨c, hc, e1⟩ := List.mem_map.mp he
      obtain ⟨b1, b2, _⟩ := hok2 c hc
      rcases hg c with z | z <;> rw [← e1, z] <;> assumption
    -- self._incoming
    refine ⟨_, rfl, ?_⟩
    refine comp_sel (K := K) (tc := q) (cs := cs2) (vs := ys) (fun c => c.2.1) (fun c => atI_nat (j := 1) rfl) (fun R hR => ⟨_, rfl, x, C, dx, _, _, rfl, hx3, T.cl, T.nC, lk_ch2, q, rfl, ⟨_, SqT.of hq3⟩, hR⟩) hq3 hp3 (by omega) (fun _ => rfl) (fun _ => rfl) fun D H4 s4 nD hD => ?_
    refine ⟨n, D, _, rfl, hn, hD, by rw [List.length_map]; omega, ends _ fun c => .inr rfl, fun H5 r s5 nr rows => ?_⟩
    have s35 : Same H3 H5 := s4.trans s5
    refine ⟨_, rfl, x, C, dx, _, rfl, s35 _ _ hx3, T.cl, T.nI, by show 2 < 1000; decide, ?_⟩
    obtain ⟨H6, eH6⟩ : ∃ H6, H6 = upd H5 x (.ins C dx (putF "_incoming" (.ref r) (putF "channels" (.ref q) (putF "stages" (.int n) [])))) := ⟨_, rfl⟩
    rw [← eH6]
    have hx6 : H6 x = some (.ins C dx (putF "_incoming" (.ref r) (putF "channels" (.ref q) (putF "stages" (.int n) [])))) := by rw [eH6, upd_same]
    have old6 : ∀ b o, H3 b = some o → b ≠ x → H6 b = some o := fun b o e ne => by
      rw [eH6, upd_ne ne]
      exact s35 _ _ e
    have rows6 : RowsA H6 r n (cs2.map fun c => c.2.1) := by
      obtain ⟨ts, r1, r2, r3⟩ := rows
      have nx : ∀ {b xs}, H5 b = some (.tup xs) → b ≠ x := fun {b xs} e => ne_of e (s35 _ _ hx3) (by intro z; cases z)
      refine ⟨ts, by rw [eH6, upd_ne (nx r1)]; exact r1, r2, fun j v e => ?_⟩
      obtain ⟨t, e1, e2⟩ := r3 j v e
      exact ⟨t, e1, by rw [eH6, upd_ne (nx e2)]; exact e2⟩
    have hq6 : H6 q = some (.tup ys) := old6 _ _ hq3 (Ne.symm qx)
    have hp6 : Paired (TriA H6) cs2 ys := Paired.mapP hp3 fun c v ⟨t, e, ht⟩ => ⟨t, e, old6 _ _ ht (ne_of ht hx3 (by intro z; cases z))⟩
    -- self._outgoing
    refine ⟨_, rfl, ?_⟩
    refine comp_sel (K := K) (tc := q) (cs := cs2) (vs := ys) (fun c => c.1) (fun c => atI_nat (j := 0) rfl) (fun R hR => ⟨_, rfl, x, C, dx, _, _, rfl, hx6, T.cl, T.nC, lk_ch3, q, rfl, ⟨_, SqT.of hq6⟩, hR⟩) hq6 hp6 (by omega) (fun _ => rfl) (fun _ => rfl) fun D2 H7 s7 nD2 hD2 => ?_
    refine ⟨n, D2, _, rfl, hn, hD2, by rw [List.length_map]; omega, ends _ fun c => .inl rfl, fun H8 r2 s8 nr2 rows2 => ?_⟩
    have s68 : Same H6 H8 := s7.trans s8
    refine ⟨_, rfl, x, C, dx, _, rfl, s68 _ _ hx6, T.cl, T.nO, by show 3 < 1000; decide, ?_⟩
    have nx8 : ∀ {b xs}, H8 b = some (.tup xs) → b ≠ x := fun {b xs} e => ne_of e (s68 _ _ hx6) (by intro z; cases z)
    refine k _ cs2 hcp hsort (fun b o e ne => ?_) ⟨dx, q, r, r2, ys, ?_, ?_, ?_, ?_, ?_⟩
    · rw [upd_ne ne]
      exact s68 _ _ (old6 _ _ (old3 _ _ e ne) ne)
    · rw [upd_same, fields4]
    · rw [upd_ne (Ne.symm qx)]
      exact s68 _ _ hq6
    · exact Paired.mapP hp6 fun c v ⟨t, e, ht⟩ => ⟨t, e, by rw [upd_ne (nx8 (s68 _ _ ht))]; exact s68 _ _ ht⟩
    · obtain ⟨ts, a1, a2, a3⟩ := rows6.same s68
      exact ⟨ts, by rw [upd_ne (nx8 a1)]; exact a1, a2, fun j v e => let ⟨t, e1, e2⟩ := a3 j v e; ⟨t, e1, by rw [upd_ne (nx8 e2)]; exact e2⟩⟩
    · obtain ⟨ts, a1, a2, a3⟩ := rows2
      exact ⟨ts, by rw [upd_ne (nx8 a1)]; exact a1, a2, fun j v e => let ⟨t, e1, e2⟩ := a3 j v e; ⟨t, e1, by rw [upd_ne (nx8 e2)]; exact e2⟩⟩
end
end WC

set_option maxHeartbeats 4000000
namespace WC
open PySem PySem.Spec PyProof.Rows L2
/-- what is read off the class Net, at N -/
structure NetK (K : PySem.W.Frag) (mg : Str → Option Value) (N : Addr) : Prop where
  gN : mg "Net" = some (.ref N)
  cr : ∃ mc, ClX.CRead K N mc ∧ (∃ u, ClX.CVal K N mc "MOST_STAGES" (.int 40) u) ∧ (∃ u, ClX.CVal K N mc "MOST_CHANNELS" (.int 120) u) ∧ (∃ u, ClX.CVal K N mc "MOST_CAPACITY" (.int 999) u) ∧ ∃ u, ClX.CVal K N mc "MOST_COUNTER" (.int 999) u
def spCap (K : PySem.W.Frag) : Sp := fun vs H Q _ => ∃ x, vs = [x] ∧ Known K H x ∧ Q (.bl (btw x 1 999)) H
def spJoins (K : PySem.W.Frag) : Sp := fun vs H Q _ => ∃ (n : Nat) (v : V) (c : Tri), vs = [.int n, v] ∧ TriA H c v ∧ ChOk n c ∧ ∀ H2, Same H H2 → Q (.bl true) H2
def spWith : Sp := fun vs H Q _ => ∃ (v d : V) (c : Tri), vs = [v, d] ∧ TriA H c v ∧ ∀ p, H p = none → Q (.ref p) (upd H p (.tup [.int c.1, .int c.2.1, .int c.2.2]))
theorem nv {K : PySem.W.Frag} {H : Hp} (i : Int) : Known K H (.int i) := trivial
theorem btw_in {i lo hi : Int} (h1 : lo ≤ i) (h2 : i ≤ hi) : btw (.int i) lo hi = true := by simp [btw, h1, h2]
section
variable {P : Program} {w : World} {K : PySem.W.Frag} {mg : Str → Option Value} {base : Heap}
theorem ok_is_capacity {N f : Addr} {fd : FuncData} (F : Fun K "is_capacity" "Net.is_capacity" s_Net_is_capacity f fd) (Z : NetK K mg N) (G : DefR P w K mg base "is_between" 1 (spBtw K)) : FnOk P w K mg base (L2.CX P w) 2 f fd ["value"] (spCap K) := by
  refine F.okX sc_Net_is_capacity (fun vs H Q E h => ?_) (fun cdv A outer s H vs Q E hr h => ?_)
  · obtain ⟨x, rfl, _⟩ := h
    rfl
  · obtain ⟨x, rfl, hk, k⟩ := h
    obtain ⟨mc, r, _, _, ⟨u, c⟩, _⟩ := Z.cr
    refine ⟨_, pss_one (ps_ret (pe_cd G hr psE (pa_cons (pv 0) (pa_cons pe_int (pa_cons (ClX.pe_cval (pe_glob (v := .ref N) (by rfl) Z.gN rfl)) pa_nil))))), ?_⟩
    exact ⟨_, rfl, N, mc, _, u, rfl, r, c, _, _, _, rfl, hk, k⟩
theorem ok_joins {f : Addr} {fd : FuncData} (F : Fun K "_joins_two_stages" "_joins_two_stages" s_joins_two_stages f fd) (B : Blt mg) (G : DefR P w K mg base "is_between" 1 (spBtw K)) : FnOk P w K mg base (L2.CX P w) 2 f fd ["stages", "channel"] (spJoins K) := by
  refine F.okX sc_joins_two_stages (fun vs H Q E h => ?_) (fun cdv A outer s H vs Q E hr h => ?_)
  · obtain ⟨n, v, c, rfl, _⟩ := h
    rfl
  · obtain ⟨n, v, c, rfl, ⟨t, rfl, ht⟩, ⟨⟨c1, c2⟩, ⟨c3, c4⟩, c5, c6, c7⟩, k⟩ := h
    -- slots 0 stages, 1 channel, 2 ends, 3 end
    refine ⟨_, pss_cons (ps_if (PW.pt (pw_or (pt_not (pt_val (pe_callB call_isi (by rfl) B.isi bt_isi (pa_cons (pv 1) (pa_cons (pe_bltn (v := .ty "tuple") (by rfl) B.tuple bt_tuple rfl) pa_nil)))))
        (pw_or1 (pt_cmpR op_notIn_seq (pe_callB call_len_seq (by rfl) B.len bt_len (pa_cons (pv 1) pa_nil)) (pe_tup (pa_cons pe_int (pa_cons pe_int pa_nil))) (by rfl))))) (pss_one (ps_ret pe_bl)) pss_nil)
      (pss_cons (ps_set (i := 2) sc_joins_two_stages.nd rfl (Or.inl rfl) (pe_slice sl_tup (pv 1) po_none (po_some pe_int)))
      (pss_cons (ps_if (pt_not (pt_val (pe_callB (cr_all rfl) (by rfl) B.all bt_all (pa_cons (pe_lc (own := [("end", 3)]) rfl sc_joins_two_stages.nd (pi_tup (pv 2)) (blkOk_by (N := nn_joins_two_stages) (sc := defScope s_joins_two_stages) (own := [("end", 3)]) (by decide +kernel)) (fun _ _ _ _ _ => pg_name (i := 3) sc_joins_two_stages.nd rfl (Or.inl rfl)) (fun _ _ _ _ _ => pts_nil)
          (fun _ _ _ _ _ => pe_cd G (by exact hr) passL (pa_cons (pv 3) (pa_cons pe_int (pa_cons (pe_op op_sub (pv 0) pe_int) pa_nil))))) pa_nil)))) (pss_one (ps_ret pe_bl)) pss_nil)
      (pss_one (ps_ret (pe_cmpR op_ne (pe_ix ix_tup (pv 2) pe_int (fun _ _ => rfl)) (pe_ix ix_tup (pv 2) pe_int (fun _ _ => rfl)) (nomark _)))))), ?_⟩
    refine ⟨_, rfl, _, _, _, _, _, rfl, .ty _, .base (.tup ht), kit_ty (r := true) (by decide +kernel), _, rfl, ?_⟩
    refine iteF ⟨_, rfl, t, _, rfl, .inr (SqT.of ht), by show 2 ≤ sizeLine; decide, fun p hp => ⟨p, _, rfl, .inr (SqT.of upd_same), rfl, rfl, _, rfl, ?_⟩⟩
    refine iteF ⟨_, rfl, _, rfl, t, _, rfl, SqT.of (by rw [upd_ne (ne_of_none ht hp)]; exact ht), ?_, fun q hq => ?_⟩
    · intro z
      have z2 := z.2
      simp [HT.sIx] at z2
    have s2 : Same H (upd (upd H p (.tup [.int 2, .int 3])) q (.tup [.int c.1, .int c.2.1])) := Same.trans (Same.new hp) (Same.new hq)
    have eq : cutV [V.int c.1, V.int c.2.1, V.int c.2.2] none (some 2) = [V.int c.1, V.int c.2.1] := rfl
    rw [eq]
    obtain ⟨H2, eH⟩ : ∃ H2, H2 = upd (upd H p (.tup [.int 2, .int 3])) q (.tup [.int c.1, .int c.2.1]) := ⟨_, rfl⟩
    rw [← eH] at s2 ⊢
    have hq2 : H2 q = some (.tup [.int c.1, .int c.2.1]) := by rw [eH, upd_same]
    refine ⟨_, rfl, q, rfl, ⟨_, SqT.of hq2⟩, fun D hD => lc_tup (K := K) (a := q) (xs := [.int c.1, .int c.2.1]) (fun i H3 => Same H2 H3 ∧ H3 D = some (.lst ((List.replicate i true).map V.bl))) ⟨Same.new hD, upd_same⟩ (fun i H3 _ z => SqT.of (z.1 _ _ hq2)) ?_ ?_⟩
    · rintro i x H3 hx ⟨s3, hd⟩
      have hx2 : ∃ m : Int, x = .int m ∧ 0 ≤ m ∧ m ≤ n - 1 := by
        match i, hx with
        | 0, hx => exact ⟨c.1, (Option.some.inj hx).symm, c1, by omega⟩
        | 1, hx => exact ⟨c.2.1, (Option.some.inj hx).symm, c3, by omega⟩
        | _ + 2, hx => simp at hx
      obtain ⟨m, rfl, m1, m2⟩ := hx2
      refine ⟨rfl, yes ⟨_, rfl, _, rfl, _, _, rfl, rfl, _, _, _, rfl, nv _, _, hd, ?_, Same.newer s3 hD, ?_⟩⟩
      · have : i < 2 := (List.getElem?_eq_some_iff.mp hx).1
        rw [List.length_map, List.length_replicate]
        exact line_lt (by omega)
      · rw [upd_same, btw_in m1 m2, List.replicate_succ', List.map_append]
        rfl
    · rintro H3 ⟨s3, hd⟩
      refine ⟨D, _, rfl, SqL.of hd, _, rfl, ?_⟩
      refine iteF ⟨_, rfl, q, _, _, _, rfl, rfl, SqT.of (s3 _ _ hq2), atI_nat (j := 0) rfl, _, rfl, q, _, _, _, rfl, rfl, SqT.of (s3 _ _ hq2), atI_nat (j := 1) rfl, rfl, ?_⟩
      have q2 : (!decide (V.int c.1 = V.int c.2.1)) = true := by simp [c5]
      rw [q2]
      exact k H3 (s2.trans s3)
theorem ok_with_capacity {f : Addr} {fd : FuncData} (F : Fun K "_with_capacity" "_with_capacity" s_with_capacity f fd) (B : Blt mg) : FnOk P w K mg base (L2.CX P w) 1 f fd ["channel", "capacity"] spWith := by
  refine F.okX sc_with_capacity (fun vs H Q E h => ?_) (fun cdv A outer s H vs Q E hr h => ?_)
  · obtain ⟨v, d, c, rfl, _⟩ := h
    rfl
  · obtain ⟨v, d, c, rfl, ⟨t, rfl, ht⟩, k⟩ := h
    refine ⟨_, pss_cons (ps_set (i := 2) sc_with_capacity.nd rfl (Or.inl rfl) (pe_ifExp (pt_cmpR op_eq (pe_callB call_len_seq (by rfl) B.len bt_len (pa_cons (pv 0) pa_nil)) pe_int (nomark _)) (pe_ix ix_tup (pv 0) pe_int (fun _ _ => rfl)) (pv 1)))
      (pss_one (ps_ret (pe_tup (pa_cons (pe_ix ix_tup (pv 0) pe_int (fun _ _ => rfl)) (pa_cons (pe_ix ix_tup (pv 0) pe_int (fun _ _ => rfl)) (pa_cons (pv 2) pa_nil)))))), ?_⟩
    refine ⟨_, rfl, t, _, rfl, .inr (SqT.of ht), rfl, _, rfl, ?_⟩
    refine iteT ⟨_, rfl, t, _, _, _, rfl, rfl, SqT.of ht, atI_nat (j := 2) rfl, ?_⟩
    exact ⟨_, rfl, t, _, _, _, rfl, rfl, SqT.of ht, atI_nat (j := 0) rfl, _, rfl, t, _, _, _, rfl, rfl, SqT.of ht, atI_nat (j := 1) rfl, _, rfl, by show 3 ≤ sizeLine; decide, fun p hp => k p hp⟩
end
end WC

set_option maxHeartbeats 4000000
namespace WC
open PySem PySem.Spec PyProof.Rows L2
/-- has_circle of channels without one -/
def spNoCircle : Sp := fun vs H Q _ => ∃ (l : Addr) (cs : List Tri) (ws : List V), vs = [.ref l] ∧ H l = some (.lst ws) ∧ Paired (TriA H) cs ws ∧ Acyc cs ∧ cs.length ≤ 1000 ∧ ∀ H2, Same H H2 → Q (.bl false) H2
/-- what is fed: the keys of the dict at D -/
def Fed (H : Hp) (D : Addr) (cs : List Tri) (m : Nat) : Prop := ∃ kvs : List (Key × V), H D = some (.dK kvs) ∧ kvs.length ≤ m ∧ ∀ p : Int, (valV kvs (Sum.inl p)).isSome = decide (∃ c ∈ cs, c.2.1 = p)
theorem seqW {c : TT} {tb u : TS} {D : Ends} {σ : L2.St} {H : Hp} (h : tWhile c tb { D with nx := u D } σ H) : tSeq (tWhile c tb) u D σ H := h
def leftLen (σ : L2.St) (H : Hp) : Nat := match σ[1]? with
  | some (some (V.ref a)) => (match H a with
    | some (.lst xs) => xs.length
    | _ => 0)
  | _ => 0
section
variable {P : Program} {w : World} {K : PySem.W.Frag} {mg : Str → Option Value} {base : Heap}
theorem ok_has_circle {f : Addr} {fd : FuncData} (F : Fun K "has_circle" "has_circle" s_has_circle f fd) (B : Blt mg) : FnOk P w K mg base (L2.CX P w) 1 f fd ["channels"] spNoCircle := by
  refine F.okX sc_has_circle (fun vs H Q E h => ?_) (fun cdv A outer s H vs Q E hr h => ?_)
  · obtain ⟨l, cs, ws, rfl, _⟩ := h
    rfl
  · obtain ⟨l, cs, ws, rfl, hl, hp, ac, hlen, k⟩ := h
    have hu := hu_of hr
    -- slots 0 channels, 1 left, 2 fed, 3 _, 4 consumer, 5 kept, 6 channel
    refine ⟨_, pss_cons (ps_set (i := 1) sc_has_circle.nd rfl (Or.inl rfl) (pv 0))
      (pss_cons (ps_while (passes_of rfl) (pt_truth (pv 1) (by intro _; rfl))
        (pss_cons (ps_set (i := 2) sc_has_circle.nd rfl (Or.inr rfl) (pe_dc (own := [("_", 3), ("consumer", 4)]) rfl sc_has_circle.nd (pi_list (pv 1)) (blkOk_by (N := nn_has_circle) (sc := defScope s_has_circle) (own := [("_", 3), ("consumer", 4)]) (by decide +kernel))
            (fun _ _ _ _ _ => pg_tupK (K := K) (n := 3) rfl (pgs_cons (pg_name (i := 3) sc_has_circle.nd rfl (Or.inl rfl)) (pgs_cons (pg_name (i := 4) sc_has_circle.nd rfl (Or.inl rfl)) (pgs_cons (pg_name (i := 3) sc_has_circle.nd rfl (Or.inl rfl)) pgs_nil)))) (fun _ _ _ _ _ => pts_nil) (fun _ _ _ _ _ => pv 4) (fun _ _ _ _ _ => pe_bl)))
        (pss_cons (ps_setLc (i := 5) (own := [("channel", 6)]) rfl sc_has_circle.nd rfl rfl (sw_true rfl rfl rfl (by decide +kernel)) (pi_list (pv 1)) (blkOk_by (N := nn_has_circle) (sc := defScope s_has_circle) (own := [("channel", 6)]) (by decide +kernel))
            (fun _ _ _ _ _ => pg_name (i := 6) sc_has_circle.nd rfl (Or.inl rfl)) (fun _ _ _ _ _ => pts_one (pt_cmp (pc_din (by exact hu) (pe_ix (i_tup (K := K)) (pv 6) pe_int (fun _ _ => rfl)) (pv 2)))) (fun _ _ _ _ _ => pv 6))
        (pss_cons (ps_if (pt_cmpR op_eq (pe_callB call_len_seq (by rfl) B.len bt_len (pa_cons (pv 5) pa_nil)) (pe_callB call_len_seq (by rfl) B.len bt_len (pa_cons (pv 1) pa_nil)) (nomark _)) (pss_one (ps_ret pe_bl)) pss_nil)
        (pss_one (ps_set (i := 1) sc_has_circle.nd rfl (Or.inl rfl) (pv 5)))))))
      (pss_one (ps_ret pe_bl))), ?_⟩
    refine ⟨_, rfl, ?_⟩
    dsimp only [gName]
    refine seqW ?_
    refine while_by (fun σ H2 => ∃ (a : Addr) (ds : List Tri) (us : List V) (v2 v3 v4 v5 v6 : Option V), σ = [some (.ref l), some (.ref a), v2, v3, v4, v5, v6] ∧ Same H H2 ∧ H2 a = some (.lst us) ∧ Paired (TriA H2) ds us ∧ ds.length ≤ 1000 ∧ ∀ c ∈ ds, c ∈ cs)
      leftLen ⟨l, cs, ws, _, _, _, _, _, rfl, Same.refl H, hl, hp, hlen, fun _ z => z⟩ ?_ ?_
    · rintro σ H2 ⟨a, ds, us, v2, v3, v4, v5, v6, rfl, s2, ha, hpd, hdl, sub⟩
      refine ⟨_, rfl, _, .inl ⟨us, SqL.of ha, rfl⟩, ?_⟩
      cases hE : us with
      | nil =>
        refine iteF ?_
        exact k H2 s2
      | cons u0 us0 =>
        refine iteT ?_
        rw [hE] at ha hpd
        -- fed
        refine ⟨_, rfl, a, rfl, ⟨_, SqL.of ha⟩, fun D hD => dc_lst (K := K) (a := a) (xs := u0 :: us0) (fun i H3 => Same H2 H3 ∧ Fed H3 D (ds.take i) i) ⟨Same.new hD, [], upd_same, by simp, fun p => by simp [valV]⟩ (fun i H3 _ q => SqL.of (q.1 _ _ ha)) ?_ ?_⟩
        · rintro i x H3 hx ⟨s3, kvs, d1, d2, d3⟩
          obtain ⟨c, hc, t, rfl, ht⟩ := pr_at hpd hx
          have hi := (List.getElem?_eq_some_iff.mp hc).1
          refine ⟨t, _, rfl, SqT.of (s3 _ _ ht), rfl, _, _, rfl, _, _, rfl, _, _, rfl, rfl, rfl, yes ⟨_, rfl, kvs, Sum.inl c.2.1, rfl, d1, line_lt (by omega), Same.newer s3 hD, _, upd_same, ?_, fun p => ?_⟩⟩
          · exact Nat.le_trans (pk_len _ _ _) (by omega)
          · rw [valV_put, take_snoc hc]
            by_cases e : p = c.2.1
            · subst e
              rw [if_pos rfl]
              simp
            · rw [if_neg (fun z => e (Sum.inl.inj z)), d3 p]
              congr 1
              apply propext
              constructor
              · rintro ⟨c2, m, e2⟩
                exact ⟨c2, List.mem_append_left _ m, e2⟩
              · rintro ⟨c2, m, e2⟩
                rcases List.mem_append.mp m with m | m
                · exact ⟨c2, m, e2⟩
                · rw [List.mem_singleton.mp m] at e2
                  exact absurd e2.symm e
        · rintro H3 ⟨s3, kvs, d1, d2, d3⟩
          rw [← hpd.length, List.take_length] at d3
          -- kept
          refine ⟨_, rfl, a, rfl, ⟨_, SqL.of (s3 _ _ ha)⟩, fun R hR => lc_list (K := K) (a := a) (xs := u0 :: us0) (fun i H4 => Same H3 H4 ∧ ∃ ks, H4 R = some (.lst ks) ∧ Paired (TriA H4) ((ds.take i).filter fun c => decide (∃ d ∈ ds, d.2.1 = c.1)) ks) ⟨Same.new hR, [], upd_same, .nil⟩ (fun i H4 _ q => SqL.of (q.1 _ _ (s3 _ _ ha))) ?_ ?_⟩
          · rintro i x H4 hx ⟨s4, ks, r1, r2⟩
            obtain ⟨c, hc, t, rfl, ht⟩ := pr_at hpd hx
            have hi := (List.getElem?_eq_some_iff.mp hc).1
            have ht4 := s4 _ _ (s3 _ _ ht)
            refine ⟨rfl, _, rfl, t, _, _, _, rfl, rfl, SqT.of ht4, atI_nat (j := 0) rfl, _, rfl, D, _, rfl, DGet.k (k := Sum.inl c.1) (s4 _ _ d1), _, rfl, ?_⟩
            have hks : ks.length ≤ i := by
              rw [← r2.length]
              exact Nat.le_trans (List.length_filter_le _ _) (by rw [List.length_take]; omega)
            have e3 := d3 c.1
            cases hv : valV kvs (Sum.inl c.1 : Key) with
            | some v =>
              rw [hv] at e3
              have e4 : decide (∃ d ∈ ds, d.2.1 = c.1) = true := e3.symm
              refine iteT ⟨_, rfl, ks, r1, line_lt (by omega), Same.newer s4 hR, _, upd_same, ?_⟩
              rw [take_snoc hc, List.filter_append]
              have nx : ∀ {b xs}, H4 b = some (.tup xs) → b ≠ R := fun {b xs} e => ne_of e r1 (by intro z; cases z)
              refine pr_snoc (a := c) ?_ ?_ |> fun z => by
                have q : [c].filter (fun c => decide (∃ d ∈ ds, d.2.1 = c.1)) = [c] := by simp only [List.filter, e4]
                rw [q]
                exact z
              · exact Paired.mapP r2 fun c2 v2 ⟨t2, q1, q2⟩ => ⟨t2, q1, by rw [upd_ne (nx q2)]; exact q2⟩
              · exact ⟨t, rfl, by rw [upd_ne (nx ht4)]; exact ht4⟩
            | none =>
              rw [hv] at e3
              have e4 : decide (∃ d ∈ ds, d.2.1 = c.1) = false := e3.symm
              refine iteF ⟨s4, ks, r1, ?_⟩
              rw [take_snoc hc, List.filter_append]
              have q : [c].filter (fun c => decide (∃ d ∈ ds, d.2.1 = c.1)) = [] := by simp only [List.filter, e4]
              rw [q, List.append_nil]
              exact r2
          · rintro H4 ⟨s4, ks, r1, r2⟩
            rw [← hpd.length, List.take_length] at r2
            have ha4 := s4 _ _ (s3 _ _ ha)
            refine ⟨_, rfl, R, _, rfl, .inl (SqL.of r1), _, rfl, a, _, rfl, .inl (SqL.of ha4), rfl, _, rfl, ?_⟩
            have dne : ds ≠ [] := fun z => by
              rw [z] at hpd
              have q := hpd.length
              simp at q
            obtain ⟨c0, m0, q0⟩ := (ac.sub sub).first dne
            have hlt : ks.length < (u0 :: us0).length := by
              rw [← r2.length, ← hpd.length]
              refine Nat.lt_of_le_of_ne (List.length_filter_le _ _) fun z => ?_
              have y := List.length_filter_eq_length_iff.mp z c0 m0
              obtain ⟨d, md, ed⟩ := of_decide_eq_true y
              exact q0 d md ed
            have q1 : decide (V.int (ks.length : Int) = V.int ((u0 :: us0).length : Int)) = false := by
              apply decide_eq_false
              intro z
              injection z with z
              omega
            rw [q1]
            refine iteF ⟨_, rfl, ⟨R, _, ks, _, _, _, _, _, rfl, s2.trans (s3.trans s4), r1, r2, Nat.le_trans (List.length_filter_le _ _) hdl, fun c hc => sub c (List.mem_filter.mp hc).1⟩, ?_⟩
            have e1 : leftLen [some (V.ref l), some (V.ref R), some (V.ref D), v3, v4, some (V.ref R), v6] H4 = ks.length := by simp only [leftLen, List.getElem?_cons_succ, List.getElem?_cons_zero, r1]
            have e2 : leftLen [some (V.ref l), some (V.ref a), v2, v3, v4, v5, v6] H2 = (u0 :: us0).length := by simp only [leftLen, List.getElem?_cons_succ, List.getElem?_cons_zero, ha]
            show leftLen _ _ < leftLen _ _
            rw [e2]
            show leftLen [some (V.ref l), some (V.ref R), some (V.ref D), v3, v4, some (V.ref R), v6] H4 < _
            rw [e1]
            exact hlt
    · rintro σ H2 Q1 Q2 hm ⟨v, e, kk, t, q⟩
      exact ⟨v, e, kk, t, hm _ _ q⟩
end
end WC

set_option maxHeartbeats 4000000
namespace WC
open PySem PySem.Spec PyProof.Rows L2
def flI : List V → List (Str × V)
  | [r, p] => [("position", p), ("reason", r)]
  | _ => []
def pairOf (c : Tri) : Int × Int := (c.1, c.2.1)
def spCheckCh : Sp := fun vs H Q _ => ∃ (n : Nat) (t : Addr) (cs : List Tri) (ws : List V), vs = [.int n, .ref t] ∧ H t = some (.tup ws) ∧ Paired (TriA H) cs ws ∧ (∀ c ∈ cs, ChOk n c) ∧ (cs.map pairOf).Nodup ∧ cs.length ≤ 1000 ∧ ∀ H2, Same H H2 → Q .non H2
theorem cut2 (a b c : V) : cutV [a, b, c] none (some 2) = [a, b] := rfl
theorem cut2n {a b c : V} : ¬ (HT.sIx [a, b, c].length 0 none = 0 ∧ HT.sIx [a, b, c].length [a, b, c].length (some 2) = [a, b, c].length) := by
  intro z
  have z2 := z.2
  simp [HT.sIx] at z2
section
variable {P : Program} {w : World} {K : PySem.W.Frag} {mg : Str → Option Value} {base : Heap}
theorem ok_InvalidNet_init {f C : Addr} {fd : FuncData} (F : Fun K "__init__" "InvalidNet.__init__" s_InvalidNet_init f fd) (T : OexC K C) (h1 : PySem.W.findIn K (.ref C) "reason" = some none) (h2 : PySem.W.findIn K (.ref C) "position" = some none) :
    FnOk P w K mg base (L2.CX P w) 1 f fd ["self", "reason", "position"] (spX C 2 flI) := by
  refine F.okX sc_InvalidNet_init (fun vs H Q E h => ?_) (fun cdv A outer s H vs Q E hr h => ?_)
  · obtain ⟨a, ws, rfl, hl, _⟩ := h
    simp [hl]
  · obtain ⟨a, ws, rfl, hl, ha, k⟩ := h
    match ws, hl with
    | [v, u], _ =>
      refine ⟨_, pss_cons (ps_ost (pv 0) (pv 1)) (pss_one (ps_ost (pv 0) (pv 2))), ?_⟩
      refine ⟨_, rfl, _, rfl, a, C, rfl, T, h1, .inl ⟨ha, fun d hd hne => ⟨_, rfl, _, rfl, a, C, rfl, T, h2, .inr ⟨d, _, upd_same, by rw [upd_ne hne, upd_same], Nat.le_of_ble_eq_true rfl, ?_⟩⟩⟩⟩
      have q : upd (upd (upd H d (exd d [("reason", v)])) a (exo a C (some d))) d (exd d [("position", u), ("reason", v)]) = upd (upd H d (exd d [("position", u), ("reason", v)])) a (exo a C (some d)) := by
        funext b
        by_cases e : b = d
        · subst e
          rw [upd_same, upd_ne hne, upd_same]
        · by_cases e2 : b = a
          · subst e2
            rw [upd_ne e, upd_same, upd_same]
          · rw [upd_ne e, upd_ne e2, upd_ne e, upd_ne e2, upd_ne e]
      show Q .non (upd (upd (upd H d (exd d [("reason", v)])) a (exo a C (some d))) d (exd d [("position", u), ("reason", v)]))
      rw [q]
      exact k d hd hne
theorem ok_check_channels {f N CI : Addr} {fd : FuncData} (F : Fun K "_check_channels" "_check_channels" s_check_channels f fd) (B : Blt mg) (Z : NetK K mg N) (G1 : DefR P w K mg base "_joins_two_stages" 2 (spJoins K)) (G2 : StaR P w K mg base N "is_capacity" 2 (spCap K))
    (T : ExcR P w K mg base "InvalidNet" CI 1 2 flI) : FnOk P w K mg base (L2.CX P w) 3 f fd ["stages", "channels"] spCheckCh := by
  refine F.okX sc_check_channels (fun vs H Q E h => ?_) (fun cdv A outer s H vs Q E hr h => ?_)
  · obtain ⟨n, t, cs, ws, rfl, _⟩ := h
    rfl
  · obtain ⟨n, t, cs, ws, rfl, ht, hp, hok, nd, hlen, k⟩ := h
    have hu := hu_of hr
    -- slots 0 stages, 1 channels, 2 earlier, 3 position, 4 channel
    refine ⟨_, pss_cons (ps_set (i := 2) sc_check_channels.nd rfl (Or.inl rfl) pe_dnewT)
      (pss_one (ps_for (passes_of rfl) rfl (pi_et B.enum (pa_cons (pv 1) pa_nil)) (pg_tup rfl (pgs_cons (pg_name (i := 3) sc_check_channels.nd rfl (Or.inl rfl)) (pgs_cons (pg_name (i := 4) sc_check_channels.nd rfl (Or.inl rfl)) pgs_nil)))
        (pss_cons (ps_if (pt_not (pt_val (pe_cd G1 hr psE (pa_cons (pv 0) (pa_cons (pv 4) pa_nil))))) (pss_one (ps_raise rfl (takes_of rfl rfl rfl rfl) (pmk_x T hr (pa_cons pe_str (pa_cons (pv 3) pa_nil))))) pss_nil)
        (pss_cons (ps_if (PW.pt (pw_and (pt_cmpR op_eq (pe_callB call_len_seq (by rfl) B.len bt_len (pa_cons (pv 4) pa_nil)) pe_int (nomark _)) (pw_and1 (pt_not (pt_val (pe_sta G2 (pe_glob (v := .ref N) (by rfl) Z.gN rfl) hr psE (pa_cons (pe_ix ix_tup (pv 4) pe_int (fun _ _ => rfl)) pa_nil))))))) (pss_one (ps_raise rfl (takes_of rfl rfl rfl rfl) (pmk_x T hr (pa_cons pe_str (pa_cons (pv 3) pa_nil))))) pss_nil)
        (pss_cons (ps_if (pt_cmp (pc_din hu (pe_slice sl_tup (pv 4) po_none (po_some pe_int)) (pv 2))) (pss_one (ps_raise rfl (takes_of rfl rfl rfl rfl) (pmk_x T hr (pa_cons pe_str (pa_cons (pv 3) pa_nil))))) pss_nil)
        (pss_one (ps_dput hu (pv 2) (pe_slice sl_tup (pv 4) po_none (po_some pe_int)) pe_bl rfl))))))), ?_⟩
    intro d hd
    refine ⟨_, rfl, t, ws, rfl, SqT.of (by rw [upd_ne (ne_of_none ht hd)]; exact ht), for_it (walk_et (xs := ws)) (fun i σ H2 => ∃ v3 v4, σ = [some (.int n), some (.ref t), some (.ref d), v3, v4] ∧ Same H H2 ∧ ∃ kvs : List (List Key × V), H2 d = some (.dT kvs) ∧ kvs.length ≤ i ∧ ∀ a b, (valV kvs [Sum.inl a, Sum.inl b]).isSome = true → ∃ c ∈ cs.take i, pairOf c = (a, b))
      ⟨_, _, rfl, Same.new hd, [], upd_same, by simp, fun a b z => by simp [valV] at z⟩ ?_ ?_ ?_⟩
    · rintro i σ H2 _ ⟨_, _, _, s2, _⟩
      exact SqT.of (s2 _ _ ht)
    · rintro i x σ H2 H3 hi ⟨v3, v4, rfl, s2, kvs, k1, k2, k3⟩ ⟨T1, x1, y1, rfl, hT, rfl, e1, e2⟩
      cases e1
      obtain ⟨c, hc, t1, rfl, ht1⟩ := pr_at hp e2
      have ilt := (List.getElem?_eq_some_iff.mp hc).1
      have cok := hok c (List.mem_of_getElem? hc)
      have s3 : Same H2 (upd H2 T1 (.tup [.int (i : Nat), .ref t1])) := Same.new hT
      have ht3 := s3 _ _ (s2 _ _ ht1)
      refine ⟨T1, _, rfl, SqT.of upd_same, rfl, _, _, rfl, _, _, rfl, rfl, _, rfl, _, rfl, n, _, c, rfl, ⟨t1, rfl, ht3⟩, cok, fun H4 s4 => ⟨_, rfl, ?_⟩⟩
      have ht4 := s4 _ _ ht3
      refine iteF ⟨_, rfl, t1, _, rfl, .inr (SqT.of ht4), rfl, _, rfl, ?_⟩
      refine iteT ⟨rfl, _, rfl, t1, _, _, _, rfl, rfl, SqT.of ht4, atI_nat (j := 2) rfl, _, rfl, nv _, _, rfl, ?_⟩
      rw [btw_in cok.2.2.2.1 cok.2.2.2.2]
      refine iteF ⟨_, rfl, _, rfl, t1, _, rfl, SqT.of ht4, cut2n, fun q hq => ?_⟩
      rw [cut2]
      have kd : H4 d = some (.dT kvs) := s4 _ _ (s3 _ _ k1)
      have s5 : Same H4 (upd H4 q (.tup [.int c.1, .int c.2.1])) := Same.new hq
      refine ⟨_, rfl, d, _, rfl, DGet.t (k := [Sum.inl c.1, Sum.inl c.2.1]) (s5 _ _ kd) upd_same, _, rfl, ?_⟩
      cases hv : valV kvs [Sum.inl c.1, Sum.inl c.2.1] with
      | some v =>
        obtain ⟨c2, m2, p2⟩ := k3 c.1 c.2.1 (by rw [hv]; rfl)
        exfalso
        obtain ⟨j, hj⟩ := List.mem_iff_getElem?.mp m2
        have jl : j < i := by
          have q1 := (List.getElem?_eq_some_iff.mp hj).1
          rw [List.length_take] at q1
          omega
        rw [List.getElem?_take_of_lt jl] at hj
        have a1 : (cs.map pairOf)[j]? = some (c.1, c.2.1) := by rw [List.getElem?_map, hj]; exact congrArg some p2
        have a2 : (cs.map pairOf)[i]? = some (c.1, c.2.1) := by rw [List.getElem?_map, hc]; rfl
        have a3 := (List.getElem?_inj (by rw [List.length_map]; omega) nd).mp (a1.trans a2.symm)
        omega
      | none =>
        refine iteF ⟨_, rfl, _, rfl, _, rfl, t1, _, rfl, SqT.of (s5 _ _ ht4), cut2n, fun q2 hq2 => ?_⟩
        rw [cut2]
        have s6 : Same (upd H4 q (.tup [.int c.1, .int c.2.1])) (upd (upd H4 q (.tup [.int c.1, .int c.2.1])) q2 (.tup [.int c.1, .int c.2.1])) := Same.new hq2
        refine ⟨d, _, rfl, DPut.t (k := [Sum.inl c.1, Sum.inl c.2.1]) (s6 _ _ (s5 _ _ kd)) upd_same (line_lt (by omega)), _, _, rfl, ?_, _, upd_same, ?_, ?_⟩
        · exact Same.newer (s2.trans (s3.trans (s4.trans (s5.trans s6)))) hd
        · exact Nat.le_trans (pk_len _ _ _) (by omega)
        · intro a b z
          rw [valV_put] at z
          rw [take_snoc hc]
          by_cases e : ([Sum.inl a, Sum.inl b] : List Key) = [Sum.inl c.1, Sum.inl c.2.1]
          · have e2 : a = c.1 ∧ b = c.2.1 := by simpa using e
            exact ⟨c, by simp, by rw [e2.1, e2.2]; rfl⟩
          · rw [if_neg e] at z
            obtain ⟨c2, m2, p2⟩ := k3 a b z
            exact ⟨c2, List.mem_append_left _ m2, p2⟩
    · rintro σ H2 ⟨_, _, _, s2, _⟩
      exact k H2 s2
end
end WC

set_option maxHeartbeats 4000000
namespace WC
open PySem PySem.Spec PyProof.Rows L2
/-- a net is made of these channels: what is asked, and what stands behind -/
def spMake (C : Addr) (x : Addr) (n : Nat) (cs : List Tri) (H : Hp) (Q : VK) : Prop := ∀ H2 cs2, cs2.Perm cs → cs2.Pairwise (fun a b => key a ≤ key b) → (∀ b o, H b = some o → b ≠ x → H2 b = some o) → NetAt H2 x C n cs2 → Q .non H2
def spPipe (C : Addr) : Sp := fun vs H Q _ => ∃ (x dx : Addr) (n : Nat) (cs : List Tri) (ws : List V), vs = .ref x :: .int n :: ws ∧ H x = some (.ins C dx []) ∧ 1 ≤ n ∧ n ≤ 40 ∧ Paired (TriA H) cs ws ∧ (∀ c ∈ cs, ChOk n c) ∧ (cs.map pairOf).Nodup ∧ Acyc cs ∧ cs.length ≤ 60 ∧ spMake C x n cs H Q
def spPipeB (C : Addr) : Sp := fun vs H Q _ => ∃ (x dx t : Addr) (n : Nat) (cs : List Tri) (ws : List V), vs = [.ref x, .int n, .int 1, .ref t] ∧ H x = some (.ins C dx []) ∧ 1 ≤ n ∧ n ≤ 40 ∧ H t = some (.tup ws) ∧ Paired (TriA H) cs ws ∧ (∀ c ∈ cs, ChOk n c) ∧ (cs.map pairOf).Nodup ∧ Acyc cs ∧ cs.length ≤ 60 ∧ spMake C x n cs H Q
section
variable {P : Program} {w : World} {K : PySem.W.Frag} {mg : Str → Option Value} {base : Heap}
theorem ok_Pipeline_init {f cc C N CI g : Addr} {Dk : Addr} {u : Value} (F : SFun P K "__init__" "Pipeline.__init__" s_Pipeline_init f cc C (.ref Dk)) (hD : PySem.W.nsIn K Dk "capacity" = some (some u)) (hu1 : RelV (.int 1) u) (B : Blt mg) (Z : NetK K mg N)
    (G0 : DefR P w K mg base "is_between" 1 (spBtw K)) (G1 : DefR P w K mg base "_check_channels" 3 spCheckCh) (G2 : StaR P w K mg base N "is_capacity" 2 (spCap K)) (G3 : DefR P w K mg base "_with_capacity" 1 spWith) (G4 : DefR P w K mg base "has_circle" 1 spNoCircle)
    (T : ExcR P w K mg base "InvalidNet" CI 1 2 flI) (SP : SupTxt P K mg C C g "__init__") (G5 : FnR P w K mg base (L2.CX P w) 2 g (spNetInit C)) : FnR P w K mg base (L2.CX P w) 4 f (spPipe C) := by
  refine FnR.imp (F.star (k := 3) (ps := ["self", "stages"]) (ks := ["capacity"]) (pv := "channels") (kv := [u]) (kvV := [.int 1]) (sp := spPipeB C) sc_Pipeline_init (.cons hu1 .nil) rfl (fun doc pm an cdv ct => BindStar.of_kw hD fun u1 u2 hl => ?_) ⟨_, rfl, rfl⟩ rfl rfl (fun cdv A outer s H vs Q E hr SZ h => ?_)) (fun vs H Q E h => ?_)
  · match u1, u2, hl with
    | [a, b], [], _ => exact ⟨_, _, _, _, _, _, rfl, rfl, rfl⟩
    | [a, b], r :: rs, _ => exact ⟨_, _, _, _, _, _, rfl, rfl, rfl⟩
  · obtain ⟨x, dx, t, n, cs, ws, rfl, hx, n1, n2, ht, hp, hok, nd, ac, hlen, k⟩ := h
    obtain ⟨mc, cr, ⟨u1, c1⟩, ⟨u2, c2⟩, _, _⟩ := Z.cr
    -- slots 0 self, 1 stages, 2 capacity, 3 channels, 4 triples, 5 channel
    refine ⟨_, px_cons (ps_if (pt_not (pt_val (pe_cd G0 hr psS (pa_cons (pv 1) (pa_cons pe_int (pa_cons (ClX.pe_cval (pe_glob (v := .ref N) (by rfl) Z.gN rfl)) pa_nil)))))) (pss_one (ps_raise rfl (takes_of rfl rfl rfl rfl) (pmk_x T hr (pa_cons pe_str (pa_cons pe_non pa_nil))))) pss_nil)
      (px_cons (ps_if (pt_cmpR op_gt (pe_callB call_len_seq (by rfl) B.len bt_len (pa_cons (pv 3) pa_nil)) (ClX.pe_cval (pe_glob (v := .ref N) (by rfl) Z.gN rfl)) (nomark _)) (pss_one (ps_raise rfl (takes_of rfl rfl rfl rfl) (pmk_x T hr (pa_cons pe_str (pa_cons pe_non pa_nil))))) pss_nil)
      (px_cons (ps_expr (pe_cd G1 hr psS (pa_cons (pv 1) (pa_cons (pv 3) pa_nil))))
      (px_cons (ps_if (pt_not (pt_val (pe_sta G2 (pe_glob (v := .ref N) (by rfl) Z.gN rfl) hr psS (pa_cons (pv 2) pa_nil)))) (pss_one (ps_raise rfl (takes_of rfl rfl rfl rfl) (pmk_x T hr (pa_cons pe_str (pa_cons pe_non pa_nil))))) pss_nil)
      (px_cons (ps_setLc (i := 4) (own := [("channel", 5)]) rfl sc_Pipeline_init.nod rfl rfl (sw_true rfl rfl rfl (by decide +kernel)) (pi_tup (pv 3)) (blkOk_by (N := nn_Pipeline_init) (sc := defScope s_Pipeline_init) (own := [("channel", 5)]) (by decide +kernel))
            (fun _ _ _ _ _ => pg_name (i := 5) sc_Pipeline_init.nod rfl (Or.inl rfl)) (fun _ _ _ _ _ => pts_nil) (fun _ _ _ _ _ => pe_cd G3 (by exact hr) passL (pa_cons (pv 5) (pa_cons (pv 2) pa_nil))))
      (px_cons (ps_if (pt_val (pe_cd G4 hr psS (pa_cons (pv 4) pa_nil))) (pss_one (ps_raise rfl (takes_of rfl rfl rfl rfl) (pmk_x T hr (pa_cons pe_str (pa_cons pe_non pa_nil))))) pss_nil)
      (px_sup (i := 0) SP SZ G5 (hr.mono (by decide)) psS rfl (pa_cons (pv 1) (pa_cons (pv 4) pa_nil)) (px_of pss_nil))))))), ?_⟩
    refine ⟨_, rfl, N, mc, _, u1, rfl, cr, c1, _, _, _, rfl, nv _, _, rfl, ?_⟩
    rw [btw_in (by omega) (by omega)]
    refine iteF ⟨_, rfl, t, _, rfl, .inr (SqT.of ht), N, mc, _, u2, rfl, cr, c2, _, _, rfl, rfl, _, rfl, ?_⟩
    have hwl : ws.length = cs.length := hp.length.symm
    have q1 : decide ((120 : Int) < (ws.length : Int)) = false := by apply decide_eq_false; omega
    rw [q1]
    refine iteF ⟨_, rfl, _, rfl, n, t, cs, ws, rfl, ht, hp, hok, nd, by omega, fun H2 s2 => ?_⟩
    refine ⟨rfl, _, rfl, _, rfl, nv _, _, rfl, iteF ⟨_, rfl, t, rfl, ⟨_, SqT.of (s2 _ _ ht)⟩, fun D hD2 => ?_⟩⟩
    refine lc_tup (K := K) (a := t) (xs := ws) (fun i H3 => Same H2 H3 ∧ ∃ ks, H3 D = some (.lst ks) ∧ Paired (TriA H3) (cs.take i) ks) ⟨Same.new hD2, [], upd_same, .nil⟩ (fun i H3 _ q => SqT.of (q.1 _ _ (s2 _ _ ht))) ?_ ?_
    · rintro i y H3 hy ⟨s3, ks, k1, k2⟩
      obtain ⟨c, hc, t1, rfl, ht1⟩ := pr_at hp hy
      have hi := (List.getElem?_eq_some_iff.mp hc).1
      have ht3 := s3 _ _ (s2 _ _ ht1)
      refine ⟨rfl, yes ⟨_, rfl, _, rfl, _, _, c, rfl, ⟨t1, rfl, ht3⟩, fun p hp3 => ⟨ks, by rw [upd_ne (ne_of_none k1 hp3)]; exact k1, ?_, ?_, ks ++ [.ref p], upd_same, ?_⟩⟩⟩
      · rw [← k2.length, List.length_take]
        exact line_lt (by omega)
      · exact Same.newer (Same.newer s3 (Same.free s3 hp3)) hD2
      · have pD : p ≠ D := (ne_of_none k1 hp3).symm
        rw [take_snoc hc]
        refine pr_snoc (Paired.mapP k2 fun c2 v2 ⟨t2, e1, e2⟩ => ⟨t2, e1, ?_⟩) ⟨p, rfl, by rw [upd_ne pD, upd_same]⟩
        rw [upd_ne (ne_of e2 k1 (by intro z; cases z)), upd_ne (ne_of_none e2 hp3)]
        exact e2
    · rintro H3 ⟨s3, ks, k1, k2⟩
      rw [hwl, List.take_length] at k2
      refine ⟨_, rfl, D, cs, ks, rfl, k1, k2, ac, by omega, fun H4 s4 => ⟨_, rfl, iteF ?_⟩⟩
      have s24 : Same H H4 := s2.trans (s3.trans s4)
      exact ⟨x, dx, _, rfl, s24 _ _ hx, _, rfl, _, rfl, x, dx, D, n, cs, ks, rfl, s24 _ _ hx, n2, hlen, s4 _ _ k1, tris_same s4 k2, hok, fun H5 cs2 a b c d => k H5 cs2 a b (fun b2 o e ne => c b2 o (s24 _ _ e) ne) d⟩
  · obtain ⟨x, dx, n, cs, ws, rfl, hx, n1, n2, hp, hok, nd, ac, hlen, k⟩ := h
    refine ⟨[.ref x, .int n], ws, rfl, rfl, by rw [← hp.length]; exact line_of (by omega), fun p hp2 => ⟨x, dx, p, n, cs, ws, rfl, ?_, n1, n2, upd_same, tris_same (Same.new hp2) hp, hok, nd, ac, hlen, fun H2 cs2 a b c d => k H2 cs2 a b (fun b2 o e ne => c b2 o ?_ ne) d⟩⟩
    · rw [upd_ne (ne_of_none hx hp2)]
      exact hx
    · rw [upd_ne (ne_of_none e hp2)]
      exact e
end
end WC

set_option maxHeartbeats 4000000
namespace WC
open PySem PySem.Spec PyProof.Rows L2
theorem key_lt {n : Nat} {a b : Tri} (hn : n ≤ 40) (ha : ChOk n a) (hb : ChOk n b) (h : a.1 < b.1) : key a < key b := by
  obtain ⟨⟨a1, a2⟩, ⟨a3, a4⟩, a5, a6, a7⟩ := ha
  obtain ⟨⟨b1, b2⟩, ⟨b3, b4⟩, b5, b6, b7⟩ := hb
  unfold key
  omega
theorem keys_inc {n : Nat} {cs : List Tri} (hn : n ≤ 40) (hok : ∀ c ∈ cs, ChOk n c) (h : Inc cs) : cs.Pairwise fun a b => key a < key b := List.Pairwise.imp_of_mem (fun {a b} ma mb z => key_lt hn (hok a ma) (hok b mb) z) h
/-- capacities -/
def CapsOk (ns : List Int) : Prop := ∀ c ∈ ns, 1 ≤ c ∧ c ≤ 999
theorem rowOf_ok {ns : List Int} (h : CapsOk ns) : ∀ c ∈ rowOf ns, ChOk (ns.length + 1) c := fun c hc => by
  obtain ⟨i, q, hq, rfl⟩ := rowOf_mem hc
  have hi := (List.getElem?_eq_some_iff.mp hq).1
  obtain ⟨h1, h2⟩ := h q (List.mem_of_getElem? hq)
  refine ⟨⟨?_, ?_⟩, ⟨?_, ?_⟩, ?_, h1, h2⟩ <;> dsimp only <;> omega
theorem ringOf_ok {ns : List Int} (h : CapsOk ns) (h3 : 3 ≤ ns.length) : ∀ c ∈ ringOf ns, ChOk ns.length c := fun c hc => by
  obtain ⟨i, q, hq, rfl⟩ := ringOf_mem hc
  have hi := (List.getElem?_eq_some_iff.mp hq).1
  obtain ⟨h1, h2⟩ := h q (List.mem_of_getElem? hq)
  have e : ((i : Int) + 1) % (ns.length : Int) = if i + 1 = ns.length then 0 else (i : Int) + 1 := by
    split
    · rename_i z
      have z2 : (i : Int) + 1 = (ns.length : Int) := by omega
      rw [z2, Int.emod_self]
    · exact Int.emod_eq_of_lt (by omega) (by omega)
  refine ⟨⟨?_, ?_⟩, ⟨?_, ?_⟩, ?_, h1, h2⟩ <;> dsimp only <;> (try rw [e]) <;> (try split) <;> omega
def spRow (C : Addr) : Sp := fun vs H Q _ => ∃ ns : List Int, vs = .ref C :: ns.map V.int ∧ CapsOk ns ∧ ns.length ≤ 39 ∧ ∀ H2 x, Same H H2 → H x = none → NetAt H2 x C (ns.length + 1) (rowOf ns) → Q (.ref x) H2
def spRowB (C : Addr) : Sp := fun vs H Q _ => ∃ (ns : List Int) (t : Addr), vs = [.ref C, .ref t] ∧ H t = some (.tup (ns.map V.int)) ∧ CapsOk ns ∧ ns.length ≤ 39 ∧ ∀ H2 x, Same H H2 → H x = none → NetAt H2 x C (ns.length + 1) (rowOf ns) → Q (.ref x) H2
def spRing (C : Addr) : Sp := fun vs H Q _ => ∃ (x dx : Addr) (ns : List Int), vs = .ref x :: ns.map V.int ∧ H x = some (.ins C dx []) ∧ CapsOk ns ∧ 3 ≤ ns.length ∧ ns.length ≤ 40 ∧ ∀ H2, (∀ b o, H b = some o → b ≠ x → H2 b = some o) → NetAt H2 x C ns.length (ringOf ns) → Q .non H2
def spRingB (C : Addr) : Sp := fun vs H Q _ => ∃ (x dx t : Addr) (ns : List Int), vs = [.ref x, .ref t] ∧ H x = some (.ins C dx []) ∧ H t = some (.tup (ns.map V.int)) ∧ CapsOk ns ∧ 3 ≤ ns.length ∧ ns.length ≤ 40 ∧ ∀ H2, (∀ b o, H b = some o → b ≠ x → H2 b = some o) → NetAt H2 x C ns.length (ringOf ns) → Q .non H2
section
variable {P : Program} {w : World} {K : PySem.W.Frag} {mg : Str → Option Value} {base : Heap}
theorem ok_row {f C : Addr} {oc : Value} {od : Option Addr} {kV doc pm : Value} {an : Option Addr} {cdv ct : Value} {osl : Array (Option Value)} (lk : K.lookup f = some ⟨oc, od, .func (PySem.W.fnOf "row" "Pipeline.row" (defArgs s_Pipeline_row) (defBody s_Pipeline_row) (defScope s_Pipeline_row) .none kV doc pm an cdv ct), osl⟩)
    (hcd : PySem.W.codeIn K cdv "Pipeline.row" = true) (B : Blt mg) (G : ClsR P w K mg base C 4 (spPipe C)) : FnR P w K mg base (L2.CX P w) 6 f (spRow C) := by
  refine FnR.imp (fn_starP (k := 5) (ps := ["cls"]) (ks := []) (kv := []) (kvV := []) (pv := "capacities") (sp := spRowB C) lk hcd sc_Pipeline_row StX.cxUp (.of_eq fun u1 u2 hl => ?_) .nil rfl (fun A outer s H vs Q E hr h => ?_)) (fun vs H Q E h => ?_)
  · match u1, u2, hl with
    | [a], [], _ => rfl
    | [a], r :: rs, _ => rfl
  · obtain ⟨ns, t, rfl, ht, hc, hlen, k⟩ := h
    -- slots 0 cls, 1 capacities, 2 stages, 3 channels, 4 stage, 5 capacity
    refine ⟨_, pss_cons (ps_set (i := 2) sc_Pipeline_row.nd rfl (Or.inl rfl) (pe_op op_add (pe_callB call_len_seq (by rfl) B.len bt_len (pa_cons (pv 1) pa_nil)) pe_int))
      (pss_cons (ps_setLc (i := 3) (own := [("stage", 4), ("capacity", 5)]) rfl sc_Pipeline_row.nd rfl rfl (sw_true rfl rfl rfl (by decide +kernel)) (pi_et B.enum (pa_cons (pv 1) pa_nil)) (blkOk_by (N := nn_Pipeline_row) (sc := defScope s_Pipeline_row) (own := [("stage", 4), ("capacity", 5)]) (by decide +kernel))
          (fun _ _ _ _ _ => pg_tupK (K := K) (n := 2) rfl (pgs_cons (pg_name (i := 4) sc_Pipeline_row.nd rfl (Or.inl rfl)) (pgs_cons (pg_name (i := 5) sc_Pipeline_row.nd rfl (Or.inl rfl)) pgs_nil))) (fun _ _ _ _ _ => pts_nil) (fun _ _ _ _ _ => pe_tup (pa_cons (pv 4) (pa_cons (pe_op op_add (pv 4) pe_int) (pa_cons (pv 5) pa_nil)))))
      (pss_one (ps_ret (pe_cls (i := 0) G rfl (Or.inl rfl) hr psE (pa_cons (pv 2) (StX.pa_star (pv 3) pa_nil)))))), ?_⟩
    refine ⟨_, rfl, t, _, rfl, .inr (SqT.of ht), _, _, rfl, rfl, _, rfl, t, _, rfl, SqT.of ht, fun D hD => lc_it (walk_et (xs := ns.map V.int)) (fun i H2 => Same H H2 ∧ ∃ ks, H2 D = some (.lst ks) ∧ Paired (TriA H2) ((rowOf ns).take i) ks) ⟨Same.new hD, [], upd_same, .nil⟩ (fun i H2 _ q => SqT.of (q.1 _ _ ht)) ?_ ?_⟩
    · rintro i x H2 H3 hi ⟨s2, ks, k1, k2⟩ ⟨T1, x1, y1, rfl, hT, rfl, e1, e2⟩
      cases e1
      rw [List.length_map] at hi
      have q : ns[i]? = some ns[i] := by simp [hi]
      have e2 : (ns.map V.int)[i]? = some y1 := e2
      rw [List.getElem?_map, q] at e2
      obtain rfl := Option.some.inj e2
      refine ⟨T1, _, rfl, SqT.of upd_same, rfl, _, _, rfl, _, _, rfl, rfl, rfl, yes ⟨_, rfl, _, rfl, _, _, rfl, rfl, _, rfl, by show 3 ≤ sizeLine; decide, fun p hp => ⟨ks, ?_, ?_, ?_, ks ++ [.ref p], upd_same, ?_⟩⟩⟩
      · rw [upd_ne (ne_of_none (Same.new hT _ _ k1) hp), upd_ne (ne_of_none k1 hT)]
        exact k1
      · rw [← k2.length, List.length_take, rowOf_len]
        exact line_lt (by omega)
      · exact Same.newer (Same.newer (Same.newer s2 (Same.free s2 hT)) (Same.free (Same.newer s2 (Same.free s2 hT)) hp)) hD
      · have pD : p ≠ D := (ne_of_none (Same.new hT _ _ k1) hp).symm
        rw [take_snoc (rowOf_at q)]
        refine pr_snoc (Paired.mapP k2 fun c2 v2 ⟨t2, e1, e2⟩ => ⟨t2, e1, ?_⟩) ⟨p, rfl, by rw [upd_ne pD, upd_same]⟩
        rw [upd_ne (ne_of e2 k1 (by intro z; cases z)), upd_ne (ne_of_none (Same.new hT _ _ e2) hp), upd_ne (ne_of_none e2 hT)]
        exact e2
    · rintro H2 ⟨s2, ks, k1, k2⟩
      have el : (ns.map V.int).length = (rowOf ns).length := by rw [List.length_map, rowOf_len]
      rw [el, List.take_length] at k2
      have hok := rowOf_ok hc
      refine ⟨rfl, _, rfl, _, rfl, D, _, rfl, .inr (SqL.of k1), fun x dx hx hdx hne => ?_⟩
      rw [List.append_nil]
      have s3 : Same H2 (upd (upd H2 dx (.own x)) x (.ins C dx [])) := fun b o e => by
        rw [upd_ne (ne_of_none e hx), upd_ne (ne_of_none e hdx)]
        exact e
      refine ⟨x, dx, ns.length + 1, rowOf ns, ks, ?_, upd_same, by omega, by omega, tris_same s3 k2, hok, nodup_of_inc (f := fun c : Tri => c.1) (fun _ => rfl) (rowOf_inc ns), ⟨Int.toNat, fun c hc2 => ?_⟩, by rw [rowOf_len]; omega, fun H3 cs2 a b c d => ⟨rfl, ?_⟩⟩
      · rw [List.length_map]
        rfl
      · obtain ⟨i, q, _, rfl⟩ := rowOf_mem hc2
        show (i : Int).toNat < ((i : Int) + 1).toNat
        omega
      · have e := sorted_one a b (keys_inc (by omega) hok (rowOf_inc ns))
        subst e
        exact k H3 x (fun b2 o e => c b2 o (s3 _ _ (s2 _ _ e)) (ne_of_none (s2 _ _ e) hx)) (Same.free s2 hx) d
  · obtain ⟨ns, rfl, hc, hlen, k⟩ := h
    refine ⟨[.ref C], ns.map V.int, rfl, rfl, by rw [List.length_map]; exact line_of (by omega), fun p hp => ⟨ns, p, rfl, upd_same, hc, hlen, fun H2 x a b c => k H2 x ((Same.new hp).trans a) (Same.free (Same.new hp) b) c⟩⟩
end
end WC

set_option maxHeartbeats 4000000
namespace WC
open PySem PySem.Spec PyProof.Rows L2
section
variable {P : Program} {w : World} {K : PySem.W.Frag} {mg : Str → Option Value} {base : Heap}
theorem ok_Ring_init {f cc C N CI g : Addr} {kV lr : Value} (F : SFun P K "__init__" "Ring.__init__" s_Ring_init f cc C kV) (B : Blt mg) (Z : NetK K mg N) (hL : mg "LEAST_RING" = some lr) (hL3 : RelV (.int 3) lr)
    (G2 : StaR P w K mg base N "is_capacity" 2 (spCap K)) (T : ExcR P w K mg base "InvalidNet" CI 1 2 flI) (SP : SupTxt P K mg C C g "__init__") (G5 : FnR P w K mg base (L2.CX P w) 2 g (spNetInit C)) : FnR P w K mg base (L2.CX P w) 4 f (spRing C) := by
  refine FnR.imp (F.star (k := 3) (ps := ["self"]) (ks := []) (pv := "capacities") (kv := []) (kvV := []) (sp := spRingB C) sc_Ring_init .nil rfl (fun doc pm an cdv ct => .of_eq fun u1 u2 hl => ?_) ⟨_, rfl, rfl⟩ rfl rfl (fun cdv A outer s H vs Q E hr SZ h => ?_)) (fun vs H Q E h => ?_)
  · match u1, u2, hl with
    | [a], [], _ => rfl
    | [a], r :: rs, _ => rfl
  · obtain ⟨x, dx, t, ns, rfl, hx, ht, hc, h3, h40, k⟩ := h
    obtain ⟨mc, cr, ⟨u1, c1⟩, _, _, _⟩ := Z.cr
    -- slots 0 self, 1 capacities, 2 stages, 3 position, 4 capacity, 5 channels, 6 stage
    refine ⟨_, px_cons (ps_set (i := 2) sc_Ring_init.nod rfl (Or.inr rfl) (pe_callB call_len_seq (by rfl) B.len bt_len (pa_cons (pv 1) pa_nil)))
      (px_cons (ps_if (PW.pt (pw_or (pt_cmpR op_lt (pv 2) (pe_glob (v := .int 3) (by rfl) hL hL3) (nomark _)) (pw_or1 (pt_cmpR op_gt (pv 2) (ClX.pe_cval (pe_glob (v := .ref N) (by rfl) Z.gN rfl)) (nomark _))))) (pss_one (ps_raise rfl (takes_of rfl rfl rfl rfl) (pmk_x T hr (pa_cons pe_str (pa_cons pe_non pa_nil))))) pss_nil)
      (px_cons (ps_for (passes_of rfl) rfl (pi_et B.enum (pa_cons (pv 1) pa_nil)) (pg_tup rfl (pgs_cons (pg_name (i := 3) sc_Ring_init.nod rfl (Or.inl rfl)) (pgs_cons (pg_name (i := 4) sc_Ring_init.nod rfl (Or.inl rfl)) pgs_nil)))
        (pss_one (ps_if (pt_not (pt_val (pe_sta G2 (pe_glob (v := .ref N) (by rfl) Z.gN rfl) hr psS (pa_cons (pv 4) pa_nil)))) (pss_one (ps_raise rfl (takes_of rfl rfl rfl rfl) (pmk_x T hr (pa_cons pe_str (pa_cons (pv 3) pa_nil))))) pss_nil)))
      (px_cons (ps_setLc (i := 5) (own := [("stage", 6), ("capacity", 4)]) rfl sc_Ring_init.nod rfl rfl (sw_true rfl rfl rfl (by decide +kernel)) (pi_et B.enum (pa_cons (pv 1) pa_nil)) (blkOk_by (N := nn_Ring_init) (sc := defScope s_Ring_init) (own := [("stage", 6), ("capacity", 4)]) (by decide +kernel))
          (fun _ _ _ _ _ => pg_tupK (K := K) (n := 2) rfl (pgs_cons (pg_name (i := 6) sc_Ring_init.nod rfl (Or.inl rfl)) (pgs_cons (pg_name (i := 4) sc_Ring_init.nod rfl (Or.inl rfl)) pgs_nil))) (fun _ _ _ _ _ => pts_nil) (fun _ _ _ _ _ => pe_tup (pa_cons (pv 6) (pa_cons (pe_op op_modN (pe_op op_add (pv 6) pe_int) (pv 2)) (pa_cons (pv 4) pa_nil)))))
      (px_sup (i := 0) SP SZ G5 (hr.mono (by decide)) psS rfl (pa_cons (pv 2) (pa_cons (pv 5) pa_nil)) (px_of pss_nil))))), ?_⟩
    have hl : (ns.map V.int).length = ns.length := List.length_map _
    refine ⟨_, rfl, t, _, rfl, .inr (SqT.of ht), _, rfl, _, _, rfl, rfl, _, rfl, ?_⟩
    have q1 : decide (((ns.map V.int).length : Int) < 3) = false := by apply decide_eq_false; omega
    rw [q1]
    refine iteF ⟨_, rfl, N, mc, _, u1, rfl, cr, c1, _, _, rfl, rfl, _, rfl, ?_⟩
    have q2 : decide ((40 : Int) < ((ns.map V.int).length : Int)) = false := by apply decide_eq_false; omega
    rw [q2]
    refine iteF ⟨_, rfl, t, _, rfl, SqT.of ht, for_it (walk_et (xs := ns.map V.int)) (fun i σ H2 => ∃ v3 v4, σ = [some (.ref x), some (.ref t), some (.int ns.length), v3, v4, none, none] ∧ Same H H2) ⟨_, _, by rw [← hl]; rfl, Same.refl H⟩ ?_ ?_ ?_⟩
    · rintro i σ H2 _ ⟨_, _, _, s2⟩
      exact SqT.of (s2 _ _ ht)
    · rintro i y σ H2 H3 hi ⟨v3, v4, rfl, s2⟩ ⟨T1, x1, y1, rfl, hT, rfl, e1, e2⟩
      cases e1
      rw [List.length_map] at hi
      have q : ns[i]? = some ns[i] := by simp [hi]
      have e2 : (ns.map V.int)[i]? = some y1 := e2
      rw [List.getElem?_map, q] at e2
      obtain rfl := Option.some.inj e2
      obtain ⟨b1, b2⟩ := hc _ (List.mem_of_getElem? q)
      refine ⟨T1, _, rfl, SqT.of upd_same, rfl, _, _, rfl, _, _, rfl, rfl, rfl, _, rfl, _, rfl, nv _, _, rfl, ?_⟩
      rw [btw_in b1 b2]
      exact iteF ⟨_, _, rfl, Same.newer s2 (Same.free s2 hT)⟩
    · rintro σ H1 ⟨v3, v4, rfl, s1⟩
      have ht1 := s1 _ _ ht
      refine ⟨_, rfl, t, _, rfl, SqT.of ht1, fun D hD => lc_it (walk_et (xs := ns.map V.int)) (fun i H2 => Same H1 H2 ∧ ∃ ks, H2 D = some (.lst ks) ∧ Paired (TriA H2) ((ringOf ns).take i) ks) ⟨Same.new hD, [], upd_same, .nil⟩ (fun i H2 _ q => SqT.of (q.1 _ _ ht1)) ?_ ?_⟩
      · rintro i y H2 H3 hi ⟨s2, ks, k1, k2⟩ ⟨T1, x1, y1, rfl, hT, rfl, e1, e2⟩
        cases e1
        rw [List.length_map] at hi
        have q : ns[i]? = some ns[i] := by simp [hi]
        have e2 : (ns.map V.int)[i]? = some y1 := e2
        rw [List.getElem?_map, q] at e2
        obtain rfl := Option.some.inj e2
        refine ⟨T1, _, rfl, SqT.of upd_same, rfl, _, _, rfl, _, _, rfl, rfl, rfl, yes ⟨_, rfl, _, rfl, _, _, rfl, rfl, _, rfl, _, _, rfl, rfl, by omega, _, rfl, by show 3 ≤ sizeLine; decide, fun p hp => ⟨ks, ?_, ?_, ?_, ks ++ [.ref p], upd_same, ?_⟩⟩⟩
        · rw [upd_ne (ne_of_none (Same.new hT _ _ k1) hp), upd_ne (ne_of_none k1 hT)]
          exact k1
        · rw [← k2.length, List.length_take, ringOf_len]
          exact line_lt (by omega)
        · exact Same.newer (Same.newer (Same.newer s2 (Same.free s2 hT)) (Same.free (Same.newer s2 (Same.free s2 hT)) hp)) hD
        · have pD : p ≠ D := (ne_of_none (Same.new hT _ _ k1) hp).symm
          rw [take_snoc (ringOf_at q)]
          refine pr_snoc (Paired.mapP k2 fun c2 v2 ⟨t2, e1, e2⟩ => ⟨t2, e1, ?_⟩) ⟨p, rfl, ?_⟩
          · rw [upd_ne (ne_of e2 k1 (by intro z; cases z)), upd_ne (ne_of_none (Same.new hT _ _ e2) hp), upd_ne (ne_of_none e2 hT)]
            exact e2
          · have fe : Int.fmod ((i : Int) + 1) (ns.length : Int) = ((i : Int) + 1) % (ns.length : Int) := Int.fmod_eq_emod_of_nonneg _ (by omega)
            rw [upd_ne pD, upd_same]
            dsimp only
            rw [fe]
      · rintro H2 ⟨s2, ks, k1, k2⟩
        have el : (ns.map V.int).length = (ringOf ns).length := by rw [List.length_map, ringOf_len]
        rw [el, List.take_length] at k2
        have hok := ringOf_ok hc h3
        have s02 : Same H H2 := s1.trans s2
        refine ⟨x, dx, _, rfl, s02 _ _ hx, _, rfl, _, rfl, x, dx, D, ns.length, ringOf ns, ks, rfl, s02 _ _ hx, h40, by rw [ringOf_len]; omega, k1, k2, hok, fun H3 cs2 a b c d => ?_⟩
        have e := sorted_one a b (keys_inc h40 hok (ringOf_inc ns))
        subst e
        exact k H3 (fun b2 o e ne => c b2 o (s02 _ _ e) ne) d
  · obtain ⟨x, dx, ns, rfl, hx, hc, h3, h40, k⟩ := h
    refine ⟨[.ref x], ns.map V.int, rfl, rfl, by rw [List.length_map]; exact line_of (by omega), fun p hp => ⟨x, dx, p, ns, rfl, ?_, upd_same, hc, h3, h40, fun H2 a b => k H2 (fun b2 o e ne => a b2 o ?_ ne) b⟩⟩
    · rw [upd_ne (ne_of_none hx hp)]
      exact hx
    · rw [upd_ne (ne_of_none e hp)]
      exact e
end
end WC

set_option maxHeartbeats 4000000
namespace WC
open PySem PySem.Spec PyProof.Rows L2
def spCell (K : PySem.W.Frag) : Sp := fun vs H Q _ => ∃ (a : Addr) (ns : List Int) (k : Nat), vs = [.ref a, .int k] ∧ SqL K H a (ns.map V.int) ∧ ∀ (i : Int) H2, Same H H2 → Q (.int i) H2
def spBag (K : PySem.W.Frag) : Sp := fun vs H Q _ => ∃ (a : Addr) (ns : List Int) (k : Nat), vs = [.ref a, .int k] ∧ SqL K H a (ns.map V.int) ∧ ∀ b H2, Same H H2 → H b = none → BagAt H2 b → Q (.ref b) H2
def spDraw : Sp := fun vs H Q _ => ∃ (b : Addr) (m : Int), vs = [.ref b, .int m] ∧ BagAt H b ∧ 0 < m ∧ m < 1073741824 ∧ ∀ (d : Int) H2, 0 ≤ d → d < m → SameB b H H2 → BagAt H2 b → Q (.int d) H2
def spSame : Sp := fun vs H Q _ => ∃ v, vs = [v, v] ∧ plainV v = true ∧ Q (.bl true) H
def spSameRow : Sp := fun vs H Q _ => ∃ (t d : Addr) (xs : List Int), vs = [.ref t, .ref d] ∧ H t = some (.tup (xs.map V.int)) ∧ H d = some (.lst (xs.map V.int)) ∧ xs.length ≤ 1000 ∧ ∀ H2, Same H H2 → Q (.bl true) H2
theorem mod_rng (i : Int) {m : Int} (h : 0 < m) : 0 ≤ Int.fmod i m ∧ Int.fmod i m < m := ⟨Int.fmod_nonneg_of_pos i h, Int.fmod_lt_of_pos i h⟩
theorem mul_ok {i j : Int} (h : -(2 ^ 64) < j ∧ j < 2 ^ 64) : CMul i j := .inr h
theorem mul_okl {i j : Int} (h : -(2 ^ 64) < i ∧ i < 2 ^ 64) : CMul i j := .inl h
section
variable {P : Program} {w : World} {K : PySem.W.Frag} {mg : Str → Option Value} {base : Heap}
theorem ok_cell {f : Addr} {fd : FuncData} (F : Fun K "_law_cell" "_law_cell" s_law_cell f fd) (B : Blt mg) : FnOk P w K mg base (L2.CX P w) 1 f fd ["script", "k"] (spCell K) := by
  refine F.okX sc_law_cell (fun vs H Q E h => ?_) (fun cdv A outer s H vs Q E hr h => ?_)
  · obtain ⟨a, ns, k, rfl, _⟩ := h
    rfl
  · obtain ⟨a, ns, k, rfl, ha, q⟩ := h
    refine ⟨_, pss_cons (ps_if (pt_cmpR op_lt (pv 1) (pe_callB call_len_seq (by rfl) B.len bt_len (pa_cons (pv 0) pa_nil)) (nomark _)) (pss_one (ps_ret (pe_ix ix_list (pv 0) (pv 1) (fun _ _ => rfl)))) pss_nil)
      (pss_one (ps_ret (pe_op op_add (pe_op op_add (pe_op op_mul (pe_op op_modN (pe_callTy (T := "int") call_int1 (by rfl) B.int bt_int (pa_cons (pe_callB (cr_sum rfl) (by rfl) B.sum bt_sum (pa_cons (pe_slice sl_list (pv 0) po_none (po_some pe_int)) pa_nil)) pa_nil)) pe_int) pe_int) (pe_op op_mul (pv 1) pe_int)) pe_int))), ?_⟩
    refine ⟨_, rfl, _, rfl, a, _, rfl, .inl ha, _, _, rfl, rfl, _, rfl, ?_⟩
    refine ite2 (fun e => ?_) (fun e => ?_)
    · have hk : k < ns.length := by
        have e := of_decide_eq_true e
        rw [List.length_map] at e
        omega
      exact ⟨_, rfl, _, rfl, a, _, _, .int ns[k], rfl, rfl, ha, atI_nat (by simp [hk]), q _ H (Same.refl H)⟩
    · refine ⟨_, rfl, _, rfl, a, _, rfl, ha, fun p hp => ⟨p, ns.take 2, rfl, SqL.of ?_, .inl ⟨_, rfl, _, _, rfl, rfl, by show (_ : Int) ≠ 0; decide, _, _, rfl, rfl, mul_ok (by decide), _, rfl, _, _, rfl, rfl, mul_ok (by decide), _, _, rfl, rfl, _, _, rfl, rfl, q _ _ (Same.new hp)⟩⟩⟩
      rw [upd_same, List.map_take]
      congr 2
      unfold cutV
      have e1 : HT.sIx (ns.map V.int).length 0 none = 0 := rfl
      have e2 : HT.sIx (ns.map V.int).length (ns.map V.int).length (some (2 : Int)) = min 2 (ns.map V.int).length := HT.sIx_nat _ _ 2
      rw [e1, e2, List.drop_zero, Nat.sub_zero]
      by_cases h2 : 2 ≤ (ns.map V.int).length
      · rw [Nat.min_eq_left h2]
      · rw [Nat.min_eq_right (by omega), List.take_of_length_le (Nat.le_refl _), List.take_of_length_le (by omega)]
theorem ok_bag {f : Addr} {fd : FuncData} (F : Fun K "_law_bag" "_law_bag" s_law_bag f fd) (B : Blt mg) (G : DefR P w K mg base "_law_cell" 1 (spCell K)) : FnOk P w K mg base (L2.CX P w) 2 f fd ["script", "k"] (spBag K) := by
  refine F.okX sc_law_bag (fun vs H Q E h => ?_) (fun cdv A outer s H vs Q E hr h => ?_)
  · obtain ⟨a, ns, k, rfl, _⟩ := h
    rfl
  · obtain ⟨a, ns, k, rfl, ha, q⟩ := h
    refine ⟨_, pss_cons (ps_set (i := 2) sc_law_bag.nd rfl (Or.inl rfl) (pe_cd G hr psE (pa_cons (pv 0) (pa_cons (pv 1) pa_nil))))
      (pss_cons (ps_if (pt_cmpR op_ge (pv 2) (pe_op op_pow pe_int pe_int) (nomark _)) (pss_one (ps_ret (pe_lst (pa_cons (pe_op op_sub (pv 2) (pe_op op_pow pe_int pe_int)) (pa_cons pe_int pa_nil))))) pss_nil)
      (pss_one (ps_ret (pe_lst (pa_cons (pe_op op_modN (pe_callTy (T := "int") call_int1 (by rfl) B.int bt_int (pa_cons (pv 2) pa_nil)) pe_int) (pa_cons pe_int pa_nil)))))), ?_⟩
    refine ⟨_, rfl, _, rfl, a, ns, k, rfl, ha, fun i H2 s2 => ⟨_, rfl, _, _, rfl, rfl, ⟨by decide, by decide, by decide⟩, _, _, rfl, rfl, _, rfl, ?_⟩⟩
    refine ite2 (fun e => ?_) (fun e => ?_)
    · exact ⟨_, rfl, _, _, rfl, rfl, ⟨by decide, by decide, by decide⟩, _, _, rfl, rfl, by show 2 ≤ sizeLine; decide, fun p hp => q p _ (Same.newer s2 (Same.free s2 hp)) (Same.free s2 hp) ⟨_, _, upd_same⟩⟩
    · exact ⟨_, rfl, .inl ⟨_, rfl, _, _, rfl, rfl, (by show (_ : Int) ≠ 0; decide), by show 2 ≤ sizeLine; decide, fun p hp => q p _ (Same.newer s2 (Same.free s2 hp)) (Same.free s2 hp) ⟨_, _, upd_same⟩⟩⟩
theorem ok_draw {f : Addr} {fd : FuncData} (F : Fun K "_law_draw" "_law_draw" s_law_draw f fd) (B : Blt mg) : FnOk P w K mg base (L2.CX P w) 1 f fd ["bag", "many"] spDraw := by
  refine F.okX sc_law_draw (fun vs H Q E h => ?_) (fun cdv A outer s H vs Q E hr h => ?_)
  · obtain ⟨b, m, rfl, _⟩ := h
    rfl
  · obtain ⟨b, m, rfl, ⟨x, f0, hb⟩, m0, m1, q⟩ := h
    have i0 : ∀ {X : Cx} {e : Expr} {t : TE} {pos : Pos}, PE X e t → True := fun _ => trivial
    refine ⟨_, pss_cons (ps_if (pt_cmpR op_eq (pe_ix ix_list (pv 0) pe_int (fun _ _ => rfl)) pe_int (nomark _))
        (pss_cons (ps_set (i := 2) sc_law_draw.nd rfl (Or.inl rfl) (pe_op op_modN (pe_callTy (T := "int") call_int1 (by rfl) B.int bt_int (pa_cons (pe_ix ix_list (pv 0) pe_int (fun _ _ => rfl)) pa_nil)) (pv 1)))
        (pss_cons (ps_asg (pe_op op_fdivN (pe_ix ix_list (pv 0) pe_int (fun _ _ => rfl)) (pv 1)) (pg_sub (pv 0) pe_int set_list))
        (pss_one (ps_ret (pv 2))))) pss_nil)
      (pss_cons (ps_set (i := 3) sc_law_draw.nd rfl (Or.inl rfl) (pe_op op_modN (pe_callTy (T := "int") call_int1 (by rfl) B.int bt_int (pa_cons (pe_op op_add (pe_op op_add (pe_op op_mul (pe_ix ix_list (pv 0) pe_int (fun _ _ => rfl)) pe_int) (pe_op op_mul (pe_ix ix_list (pv 0) pe_int (fun _ _ => rfl)) pe_int)) pe_int) pa_nil)) pe_int))
      (pss_cons (ps_set (i := 3) sc_law_draw.nd rfl (Or.inl rfl) (pe_op op_modN (pe_callTy (T := "int") call_int1 (by rfl) B.int bt_int (pa_cons (pe_op op_add (pe_op op_add (pe_op op_mul (pv 3) (pv 3)) (pe_op op_mul (pe_ix ix_list (pv 0) pe_int (fun _ _ => rfl)) pe_int)) pe_int) pa_nil)) pe_int))
      (pss_cons (ps_set (i := 3) sc_law_draw.nd rfl (Or.inl rfl) (pe_op op_modN (pe_callTy (T := "int") call_int1 (by rfl) B.int bt_int (pa_cons (pe_op op_add (pe_op op_add (pe_op op_mul (pv 3) (pv 3)) (pe_ix ix_list (pv 0) pe_int (fun _ _ => rfl))) pe_int) pa_nil)) pe_int))
      (pss_cons (ps_asg (pe_op op_add (pe_ix ix_list (pv 0) pe_int (fun _ _ => rfl)) pe_int) (pg_sub (pv 0) pe_int set_list))
      (pss_one (ps_ret (pe_op op_modN (pe_callTy (T := "int") call_int1 (by rfl) B.int bt_int (pa_cons (pe_op op_fdivN (pv 3) pe_int) pa_nil)) (pv 1)))))))), ?_⟩
    have g0 : atI [V.int x, V.int f0] (0 : Int) = some (V.int x) := atI_nat (j := 0) rfl
    have g1 : atI [V.int x, V.int f0] (1 : Int) = some (V.int f0) := atI_nat (j := 1) rfl
    refine ⟨_, rfl, b, _, _, _, rfl, rfl, SqL.of hb, g1, rfl, _, rfl, ?_⟩
    refine ite2 (fun e => ?_) (fun e => ?_)
    · refine ⟨_, rfl, b, _, _, _, rfl, rfl, SqL.of hb, g0, .inl ⟨_, rfl, _, rfl, _, _, rfl, rfl, by omega, ?_⟩⟩
      refine ⟨_, rfl, b, _, _, _, rfl, rfl, SqL.of hb, g0, _, rfl, _, _, rfl, rfl, ⟨by omega, by omega⟩, _, rfl, b, _, _, 0, rfl, rfl, hb, rfl, ?_⟩
      exact ⟨_, rfl, q _ _ (mod_rng x m0).1 (mod_rng x m0).2 (SameB.refl b H).upd ⟨_, _, upd_same⟩⟩
    · refine ⟨_, rfl, b, _, _, _, rfl, rfl, SqL.of hb, g0, _, _, rfl, rfl, mul_ok (by decide), _, rfl, b, _, _, _, rfl, rfl, SqL.of hb, g1, _, _, rfl, rfl, mul_ok (by decide), _, _, rfl, rfl, _, _, rfl, rfl, .inl ⟨_, rfl, _, _, rfl, rfl, (by show (_ : Int) ≠ 0; decide), ?_⟩⟩
      have r1 := mod_rng (x * 48271 + f0 * 69621 + 13) (m := 2147483629) (by decide)
      refine ⟨_, rfl, _, rfl, _, _, rfl, rfl, mul_okl (by omega), _, rfl, b, _, _, _, rfl, rfl, SqL.of hb, g1, _, _, rfl, rfl, mul_ok (by decide), _, _, rfl, rfl, _, _, rfl, rfl, .inl ⟨_, rfl, _, _, rfl, rfl, (by show (_ : Int) ≠ 0; decide), ?_⟩⟩
      have r2 := mod_rng ((Int.fmod (x * 48271 + f0 * 69621 + 13) 2147483629) * (Int.fmod (x * 48271 + f0 * 69621 + 13) 2147483629) + f0 * 16807 + 5) (m := 2147483587) (by decide)
      refine ⟨_, rfl, _, rfl, _, _, rfl, rfl, mul_okl (by omega), _, rfl, b, _, _, _, rfl, rfl, SqL.of hb, g0, _, _, rfl, rfl, _, _, rfl, rfl, .inl ⟨_, rfl, _, _, rfl, rfl, (by show (_ : Int) ≠ 0; decide), ?_⟩⟩
      refine ⟨_, rfl, b, _, _, _, rfl, rfl, SqL.of hb, g1, _, _, rfl, rfl, _, rfl, b, _, _, 1, rfl, rfl, hb, rfl, ?_⟩
      exact ⟨_, rfl, _, _, rfl, rfl, ⟨by decide, by decide⟩, .inl ⟨_, rfl, _, rfl, _, _, rfl, rfl, by omega, q _ _ (mod_rng _ m0).1 (mod_rng _ m0).2 (SameB.refl b H).upd ⟨_, _, upd_same⟩⟩⟩
end
end WC

set_option maxHeartbeats 4000000
namespace WC
open PySem PySem.Spec PyProof.Rows L2
section
variable {P : Program} {w : World} {K : PySem.W.Frag} {mg : Str → Option Value} {base : Heap}
theorem okQ {x qual : Str} {st : Stmt} {f : Addr} {fd : FuncData} {N ps : List Str} {k : Nat} {sp : Sp} (F : Fun K x qual st f fd) (S : FnScope N ps (defScope st)) (len : ∀ vs H Q E, sp vs H Q E → vs.length = ps.length)
    (hbody : ∀ (cdv : Value) (A : Around) (outer : List Env) (s : Shared) (H : Hp) (vs : List V) (Q : VK), L2H.RoomH k (A.deeper (envOfC qual (defScope st) s.heap.objs.size f cdv)) → sp vs H Q E0 →
      ∃ t, PSs (cxQ (L2.CX P w) P w K mg base N qual (defScope st) f cdv A outer s H) (defBody st) t ∧ t { nx := fun _ H' => Q .non H', rt := Q } (start N vs) H) : FnQ P w K mg base (k + 1) f fd ps sp := by
  obtain ⟨oc, od, kV, doc, pm, an, cdv, ct, osl, rfl, lk, hcd⟩ := F.ex
  exact fn_ofQ lk hcd S len fun A outer s H vs Q hr hsp => hbody cdv A outer s H vs Q hr hsp
theorem kit_str {K : PySem.W.Frag} {H : Hp} {x : V} (k : Known K H x) : PySem.W.kitOne K (.type (tyN H x)) (.type "str") = some (match x with | .str _ => true | _ => false) := by
  cases x with
  | int i => exact kb "int" "str" false (by decide +kernel) rfl
  | bl b => exact kb "bool" "str" false (by decide +kernel) rfl
  | non  => exact kb "NoneType" "str" false (by decide +kernel) rfl
  | str z => exact kb "str" "str" true (by decide +kernel) rfl
  | ref a =>
    rcases @tyN_ref H a with q | q
    · exact kb "tuple" "str" false (by decide +kernel) q
    · exact kb "list" "str" false (by decide +kernel) q
  | byt b => exact k.elim
  | flt b => exact k.elim
  | ty n => exact k.elim
theorem known_plain {K : PySem.W.Frag} {H : Hp} {v : V} (h : plainV v = true) : Known K H v := by
  cases v with
  | int i => trivial
  | bl b => trivial
  | non => trivial
  | str z => trivial
  | ref a => cases h
  | byt b => cases h
  | flt b => cases h
  | ty n => cases h
theorem ok_same {f : Addr} {fd : FuncData} (F : Fun K "_law_same" "_law_same" s_law_same f fd) (B : Blt mg) : FnQ P w K mg base 1 f fd ["told", "due"] spSame := by
  refine okQ F sc_law_same (fun vs H Q E h => ?_) (fun cdv A outer s H vs Q hr h => ?_)
  · obtain ⟨v, rfl, _⟩ := h
    rfl
  · obtain ⟨v, rfl, hp, q⟩ := h
    have hk : Known K H v := known_plain hp
    refine ⟨_, pss_cons (ps_if (pt_cmpR op_isN (pv 1) pe_non (nomark _)) (pss_one (ps_ret (pe_cmpR op_isN (pv 0) pe_non (nomark _)))) pss_nil)
      (pss_cons (ps_if (pt_cmpR op_isB (pv 1) pe_bl (nomark _)) (pss_one (ps_ret (pe_cmpR op_isB (pv 0) pe_bl (nomark _)))) pss_nil)
      (pss_cons (ps_if (pt_cmpR op_isB (pv 1) pe_bl (nomark _)) (pss_one (ps_ret (pe_cmpR op_isB (pv 0) pe_bl (nomark _)))) pss_nil)
      (pss_cons (ps_if (pt_val (pe_callB call_isi (by rfl) B.isi bt_isi (pa_cons (pv 1) (pa_cons (pe_bltn (v := .ty "int") (by rfl) B.int bt_int rfl) pa_nil))))
        (pss_one (ps_ret (pe_and (pe_callB call_isi (by rfl) B.isi bt_isi (pa_cons (pv 0) (pa_cons (pe_bltn (v := .ty "int") (by rfl) B.int bt_int rfl) pa_nil)))
          (pe_and (pe_not (pe_callB call_isi (by rfl) B.isi bt_isi (pa_cons (pv 0) (pa_cons (pe_bltn (v := .ty "bool") (by rfl) B.bool (by decide +kernel) rfl) pa_nil)))) (pe_one (pe_cmpR op_eq (pv 0) (pv 1) (nomark _))))))) pss_nil)
      (pss_one (ps_ret (pe_and (pe_callB call_isi (by rfl) B.isi bt_isi (pa_cons (pv 0) (pa_cons (pe_bltn (v := .ty "str") (by rfl) B.str (by decide +kernel) rfl) pa_nil))) (pe_one (pe_cmpR op_eq (pv 0) (pv 1) (nomark _))))))))), ?_⟩
    refine ⟨_, rfl, rfl, _, rfl, ?_⟩
    cases v with
    | non => exact iteT ⟨_, rfl, rfl, q⟩
    | bl b =>
      refine iteF ⟨_, rfl, _, rfl, rfl, _, rfl, ?_⟩
      cases b with
      | true => exact iteT ⟨_, rfl, _, rfl, rfl, q⟩
      | false => exact iteF ⟨_, rfl, _, rfl, rfl, _, rfl, iteT ⟨_, rfl, _, rfl, rfl, q⟩⟩
    | int i =>
      refine iteF ⟨_, rfl, _, rfl, rfl, _, rfl, iteF ⟨_, rfl, _, rfl, rfl, _, rfl, iteF ⟨_, rfl, _, _, _, _, _, rfl, .ty _, hk.ty, kit_int hk, _, rfl, ?_⟩⟩⟩
      refine iteT ⟨_, rfl, _, _, _, _, _, rfl, .ty _, hk.ty, kit_int hk, _, rfl, ?_⟩
      refine iteT ⟨_, rfl, _, _, _, _, _, rfl, .ty _, hk.ty, kit_bool hk, _, rfl, _, rfl, ?_⟩
      exact iteT ⟨_, rfl, _, rfl, rfl, by simpa using q⟩
    | str z =>
      refine iteF ⟨_, rfl, _, rfl, rfl, _, rfl, iteF ⟨_, rfl, _, rfl, rfl, _, rfl, iteF ⟨_, rfl, _, _, _, _, _, rfl, .ty _, hk.ty, kit_int hk, _, rfl, ?_⟩⟩⟩
      refine iteF ⟨_, rfl, _, _, _, _, _, rfl, .ty _, hk.ty, kit_str hk, _, rfl, ?_⟩
      exact iteT ⟨_, rfl, _, rfl, rfl, by simpa using q⟩
    | ref a => cases hp
    | byt b => cases hp
    | flt b => cases hp
    | ty n => cases hp
end
end WC

set_option maxHeartbeats 4000000
namespace WC
open PySem PySem.Spec PyProof.Rows L2
theorem sqx_or {K : PySem.W.Frag} {H : Hp} {k : Bool} {a : Addr} {xs : List V} (h : SqX K H k a xs) : SqL K H a xs ∨ SqT K H a xs := by
  cases k with
  | true => exact .inr h
  | false => exact .inl h
theorem sqx_same {K : PySem.W.Frag} {H H2 : Hp} {k : Bool} {a : Addr} {xs : List V} (h : SqX K H k a xs) (s : Same H H2) : SqX K H2 k a xs := by
  cases k with
  | true => exact (show L2.SqT K H a xs from h).elim (fun h => .inl (h.elim (fun h => .inl (s _ _ h)) fun ⟨o, h⟩ => .inr ⟨o, s _ _ h⟩)) fun h => .inr h
  | false => exact (show L2.SqL K H a xs from h).elim (fun h => .inl (h.elim (fun h => .inl (s _ _ h)) fun ⟨o, h⟩ => .inr ⟨o, s _ _ h⟩)) fun h => .inr h
theorem sqx_ix {K : PySem.W.Frag} {H : Hp} {k : Bool} {a : Addr} {xs : List V} {i : Int} {v : V} {Q : VK} (h : SqX K H k a xs) (e : atI xs i = some v) (q : Q v H) : rIx K (.ref a) (.int i) H Q := by
  cases k with
  | true => exact .inr (.inl ⟨a, xs, i, v, rfl, rfl, h, e, q⟩)
  | false => exact .inl ⟨a, xs, i, v, rfl, rfl, h, e, q⟩
/-- a row told: the same values in the same order -/
def spSR (K : PySem.W.Frag) : Sp := fun vs H Q _ => ∃ (t d : Addr) (k : Bool) (xs : List V), vs = [.ref t, .ref d] ∧ H t = some (.tup xs) ∧ SqX K H k d xs ∧ xs.length ≤ 1000 ∧ (∀ x ∈ xs, plainV x = true) ∧ ∀ H2, Same H H2 → Q (.bl true) H2
def RowV (H : Hp) (xs : List V) (v : V) : Prop := ∃ t, v = .ref t ∧ H t = some (.tup xs)
def spSRs (K : PySem.W.Frag) : Sp := fun vs H Q _ => ∃ (t d : Addr) (k : Bool) (ts ds : List V) (rows : List (List V)), vs = [.ref t, .ref d] ∧ H t = some (.tup ts) ∧ SqX K H k d ds ∧ Paired (RowV H) rows ts ∧ Paired (RowV H) rows ds ∧ rows.length ≤ 1000 ∧ (∀ r ∈ rows, r.length ≤ 1000 ∧ ∀ x ∈ r, plainV x = true) ∧ ∀ H2, Same H H2 → Q (.bl true) H2
section
variable {P : Program} {w : World} {K : PySem.W.Frag} {mg : Str → Option Value} {base : Heap}
theorem ok_same_row {f : Addr} {fd : FuncData} (F : Fun K "_law_same_row" "_law_same_row" s_law_same_row f fd) (B : Blt mg) (g_law_same : DefQ P w K mg base "_law_same" 1 spSame) : FnOk P w K mg base (L2.CX P w) 2 f fd ["told", "due"] (spSR K) := by
  refine F.okX sc_law_same_row (fun vs H Q E h => ?_) (fun cdv A outer s H vs Q E hr h => ?_)
  · obtain ⟨t, d, k, xs, rfl, _⟩ := h
    rfl
  · obtain ⟨t, d, k, xs, rfl, ht, hd, hlen, pl, q⟩ := h
    have hrq := L2H.roomH_of hr
    -- slots: 0 told, 1 due, 2 k
    refine ⟨_, (pss_cons (ps_if (PW.pt (pw_or (pt_not (pt_val (pe_callB call_isi (by rfl) B.isi bt_isi (pa_cons (pv 0) (pa_cons (pe_bltn (v := .ty "tuple") (by rfl) B.tuple bt_tuple rfl) pa_nil))))) (pw_or1 (pt_cmpR op_ne (pe_callB call_len_seq (by rfl) B.len bt_len (pa_cons (pv 0) pa_nil)) (pe_callB call_len_seq (by rfl) B.len bt_len (pa_cons (pv 1) pa_nil)) (nomark _))))) (pss_one (ps_ret pe_bl)) pss_nil)
      (pss_cons (ps_for (passes_of rfl) rfl (pi_range1 (by rfl) B.range (pa_cons (pe_callB call_len_seq (by rfl) B.len bt_len (pa_cons (pv 1) pa_nil)) pa_nil)) (pg_name (i := 2) sc_law_same_row.nd rfl (Or.inl rfl))
        (pss_one (ps_if (pt_not (pt_val (pe_cq g_law_same hrq (pa_cons (pe_ix ix_tup (pv 0) (pv 2) (fun _ _ => rfl)) (pa_cons (pe_ix ix_seq (pv 1) (pv 2) (fun _ _ => rfl)) pa_nil))))) (pss_one (ps_ret pe_bl)) pss_nil)))
      (pss_one (ps_ret pe_bl)))), ?_⟩
    refine ⟨_, rfl, _, _, _, _, _, rfl, .ty _, .base (.tup ht), kit_ty (r := true) (by decide +kernel), _, rfl, ?_⟩
    refine iteF ⟨_, rfl, t, _, rfl, .inr (SqT.of ht), _, rfl, d, _, rfl, sqx_or hd, rfl, _, rfl, ?_⟩
    have e0 : (!decide (V.int (xs.length : Nat) = V.int (xs.length : Nat))) = false := by simp
    rw [e0]
    refine iteF ⟨_, rfl, d, _, rfl, sqx_or hd, _, rfl, by omega, by omega, for_range (lo := 0) (n := xs.length) (fun i σ H2 => ∃ v2, σ = [some (.ref t), some (.ref d), v2] ∧ Same H H2) ⟨_, rfl, Same.refl H⟩ ?_ ?_⟩
    · rintro i σ H2 hi ⟨v2, rfl, s2⟩
      have e1 : xs[i]? = some xs[i] := by simp [hi]
      have e2 : atI xs ((0 : Int) + i) = some xs[i] := by rw [Int.zero_add]; exact atI_nat e1
      refine ⟨_, rfl, _, rfl, t, _, _, _, rfl, rfl, SqT.of (s2 _ _ ht), e2, _, rfl, _, rfl, sqx_ix (sqx_same hd s2) e2 ⟨_, rfl, pl _ (List.getElem_mem hi), _, rfl, iteF ⟨_, rfl, s2⟩⟩⟩
    · rintro σ H2 ⟨v2, rfl, s2⟩
      exact q _ s2
theorem ok_same_rows {f : Addr} {fd : FuncData} (F : Fun K "_law_same_rows" "_law_same_rows" s_law_same_rows f fd) (B : Blt mg) (g_law_same_row : DefR P w K mg base "_law_same_row" 2 (spSR K)) : FnOk P w K mg base (L2.CX P w) 3 f fd ["told", "due"] (spSRs K) := by
  refine F.okX sc_law_same_rows (fun vs H Q E h => ?_) (fun cdv A outer s H vs Q E hr h => ?_)
  · obtain ⟨t, d, k, ts, ds, rows, rfl, _⟩ := h
    rfl
  · obtain ⟨t, d, k, ts, ds, rows, rfl, ht, hd, pt_, pd, hlen, pl, q⟩ := h
    -- slots: 0 told, 1 due, 2 k
    refine ⟨_, (pss_cons (ps_if (PW.pt (pw_or (pt_not (pt_val (pe_callB call_isi (by rfl) B.isi bt_isi (pa_cons (pv 0) (pa_cons (pe_bltn (v := .ty "tuple") (by rfl) B.tuple bt_tuple rfl) pa_nil))))) (pw_or1 (pt_cmpR op_ne (pe_callB call_len_seq (by rfl) B.len bt_len (pa_cons (pv 0) pa_nil)) (pe_callB call_len_seq (by rfl) B.len bt_len (pa_cons (pv 1) pa_nil)) (nomark _))))) (pss_one (ps_ret pe_bl)) pss_nil)
      (pss_cons (ps_for (passes_of rfl) rfl (pi_range1 (by rfl) B.range (pa_cons (pe_callB call_len_seq (by rfl) B.len bt_len (pa_cons (pv 1) pa_nil)) pa_nil)) (pg_name (i := 2) sc_law_same_rows.nd rfl (Or.inl rfl))
        (pss_one (ps_if (pt_not (pt_val (pe_cd g_law_same_row hr psE (pa_cons (pe_ix ix_tup (pv 0) (pv 2) (fun _ _ => rfl)) (pa_cons (pe_ix ix_seq (pv 1) (pv 2) (fun _ _ => rfl)) pa_nil))))) (pss_one (ps_ret pe_bl)) pss_nil)))
      (pss_one (ps_ret pe_bl)))), ?_⟩
    have lt := pt_.length
    have ll := pd.length
    refine ⟨_, rfl, _, _, _, _, _, rfl, .ty _, .base (.tup ht), kit_ty (r := true) (by decide +kernel), _, rfl, ?_⟩
    refine iteF ⟨_, rfl, t, _, rfl, .inr (SqT.of ht), _, rfl, d, _, rfl, sqx_or hd, rfl, _, rfl, ?_⟩
    have e0 : (!decide (V.int (ts.length : Nat) = V.int (ds.length : Nat))) = false := by simp; omega
    rw [e0]
    refine iteF ⟨_, rfl, d, _, rfl, sqx_or hd, _, rfl, by omega, by omega, for_range (lo := 0) (n := ds.length) (fun i σ H2 => ∃ v2, σ = [some (.ref t), some (.ref d), v2] ∧ Same H H2) ⟨_, rfl, Same.refl H⟩ ?_ ?_⟩
    · rintro i σ H2 hi ⟨v2, rfl, s2⟩
      have h0 : i < rows.length := by omega
      have hr0 : rows[i]? = some rows[i] := by simp [h0]
      obtain ⟨v, e1, t1, rfl, ht1⟩ := pr_to pt_ hr0
      obtain ⟨u, e2, d1, rfl, hd1⟩ := pr_to pd hr0
      have a1 : atI ts ((0 : Int) + i) = some (.ref t1) := by rw [Int.zero_add]; exact atI_nat e1
      have a2 : atI ds ((0 : Int) + i) = some (.ref d1) := by rw [Int.zero_add]; exact atI_nat e2
      obtain ⟨p1, p2⟩ := pl _ (List.getElem_mem h0)
      refine ⟨_, rfl, _, rfl, t, _, _, _, rfl, rfl, SqT.of (s2 _ _ ht), a1, _, rfl, _, rfl, sqx_ix (sqx_same hd s2) a2 ⟨t1, d1, true, _, rfl, s2 _ _ ht1, SqT.of (s2 _ _ hd1), p1, p2, fun H3 s3 => ⟨_, rfl, iteF ⟨_, rfl, s2.trans s3⟩⟩⟩⟩
    · rintro σ H2 ⟨v2, rfl, s2⟩
      exact q _ s2
end
end WC

set_option maxHeartbeats 8000000
namespace WC
open PySem PySem.Spec PyProof.Rows L2
abbrev SzOk (ns : List Int) : Prop := ∀ c ∈ ns, 1 ≤ c ∧ c ≤ 999
theorem getD_at {l : List Int} {i : Nat} (h : i < l.length) : l[i]? = some (l.getD i 0) := by
  rw [List.getD_eq_getElem?_getD, List.getElem?_eq_getElem h]
  rfl
theorem len_succ {α : Type} {l : List α} {n : Nat} (h : l.length = n + 1) : ∃ a t, l = a :: t ∧ t.length = n := by
  cases l with
  | nil => simp at h
  | cons a t => exact ⟨a, t, rfl, by simpa using h⟩
theorem len_ne {A B : Prop} {n : Nat} {k : Int} (h : (n : Int) ≠ k) (b : B) : if decide (V.int n = V.int k) = true then A else B := by
  rw [decide_eq_false (fun z => h (V.int.inj z))]
  exact iteF b
theorem len_eq {A B : Prop} {n : Nat} {k : Int} (h : (n : Int) = k) (a : A) : if decide (V.int n = V.int k) = true then A else B := by
  rw [decide_eq_true (congrArg V.int h)]
  exact iteT a
theorem mk_same {H H1 H2 : Hp} {x dx C : Addr} (s : Same H H1) (hx : H1 x = none) (hdx : H1 dx = none) (h : ∀ b o, upd (upd H1 dx (.own x)) x (.ins C dx []) b = some o → b ≠ x → H2 b = some o) : Same H H2 := fun b o e => by
  have e1 := s b o e
  have n1 := ne_of_none e1 hx
  exact h b o (by rw [upd_ne n1, upd_ne (ne_of_none e1 hdx)]; exact e1) n1
theorem mk_tri {H H1 : Hp} {x dx C : Addr} {cs : List Tri} {ws : List V} (s : Same H H1) (hx : H1 x = none) (hdx : H1 dx = none) (h : Paired (TriA H) cs ws) : Paired (TriA (upd (upd H1 dx (.own x)) x (.ins C dx []))) cs ws :=
  Paired.mapP h fun c v ⟨t, e1, e2⟩ => ⟨t, e1, by
    have e3 := s _ _ e2
    rw [upd_ne (ne_of_none e3 hx), upd_ne (ne_of_none e3 hdx)]
    exact e3⟩
def Made (C : Addr) (n : Nat) (cs : List Tri) (H : Hp) (Q : VK) : Prop := ∀ H2 x, Same H H2 → H x = none → NetAt H2 x C n cs → Q (.ref x) H2
theorem ring_use {H H1 : Hp} {C : Addr} {ns : List Int} {Q : VK} {E : XK} (s : Same H H1) (hc : CapsOk ns) (h3 : 3 ≤ ns.length) (hn : ns.length ≤ 40) (k : Made C ns.length (ringOf ns) H Q) :
    ∀ x dx, H1 x = none → H1 dx = none → dx ≠ x → spRing C (V.ref x :: ns.map V.int) (upd (upd H1 dx (.own x)) x (.ins C dx [])) (fun v H2 => v = .non ∧ Q (.ref x) H2) E := fun x dx hx hdx hne =>
  ⟨x, dx, ns, rfl, upd_same, hc, h3, hn, fun H2 fr N => ⟨rfl, k H2 x (mk_same s hx hdx fr) (s.free hx) N⟩⟩
end WC

set_option maxHeartbeats 8000000
namespace WC
open PySem PySem.Spec PyProof.Rows L2
/-- a net as it is drawn: of few stages and channels, each right -/
structure NOk (n : Nat) (cs : List Tri) : Prop where
  ok : ∀ c ∈ cs, ChOk n c
  len : cs.length ≤ 60
  n40 : n ≤ 40
  n1 : 1 ≤ n
def triD (c : Tri) : PyData := .tuple [.int c.1, .int c.2.1, .int c.2.2]
theorem dp_tris {K : PySem.W.Frag} {H : Hp} : ∀ {cs : List Tri} {vs : List V}, Paired (TriA H) cs vs → DpAll K H vs (cs.map triD)
  | _, _, .nil => .nil
  | _, _, .cons ⟨t, e, h⟩ r => by
    subst e
    exact .cons (.tup (SqT.of h) (.cons (.int _) (.cons (.int _) (.cons (.int _) .nil)))) (dp_tris r)
theorem lay_tris : ∀ cs : List Tri, PyData.canLayAll0 (cs.map triD) = true
  | [] => by simp only [List.map_nil, PyData.canLayAll0]
  | c :: cs => by
    simp only [List.map_cons, PyData.canLayAll0, triD, PyData.canLay0, lay_tris cs, Bool.and_true, Bool.true_and]
theorem dep_tris : ∀ cs : List Tri, PyData.depthAll (cs.map triD) ≤ 3
  | [] => by simp only [List.map_nil, PyData.depthAll]; omega
  | c :: cs => by
    have := dep_tris cs
    simp only [List.map_cons, PyData.depthAll, triD, PyData.depth]
    omega
theorem shaped_tris (cs : List Tri) : SeqAt.shaped (.list (cs.map triD)) = true := by
  unfold SeqAt.shaped
  rw [Bool.and_eq_true, decide_eq_true_iff]
  refine ⟨by simp only [PyData.canLay0]; exact lay_tris cs, ?_⟩
  have := dep_tris cs
  simp only [PyData.depth]
  omega
theorem shaped_nil : SeqAt.shaped (.list []) = true := shaped_tris []
theorem eqv_nil (cs : List Tri) : PyData.eqv (.list (cs.map triD)) (.list []) = decide (cs = []) := by
  cases cs with
  | nil => simp [PyData.eqv, PyData.eqvAll]
  | cons c cs => simp [PyData.eqv, PyData.eqvAll]
def triV (c : Tri) : List V := [.int c.1, .int c.2.1, .int c.2.2]
theorem rows_tris {H : Hp} : ∀ {cs : List Tri} {vs : List V}, Paired (TriA H) cs vs → Paired (RowV H) (cs.map triV) vs
  | _, _, .nil => .nil
  | _, _, .cons ⟨t, e, h⟩ r => .cons ⟨t, e, h⟩ (rows_tris r)
theorem rows_plain (cs : List Tri) : ∀ r ∈ cs.map triV, r.length ≤ 1000 ∧ ∀ x ∈ r, plainV x = true := fun r hr => by
  obtain ⟨c, _, rfl⟩ := List.mem_map.mp hr
  refine ⟨by show 3 ≤ 1000; decide, fun x hx => ?_⟩
  simp only [triV, List.mem_cons, List.not_mem_nil, or_false] at hx
  rcases hx with e | e | e <;> rw [e] <;> rfl

theorem shaped_trisT (cs : List Tri) : SeqAt.shaped (.tuple (cs.map triD)) = true := by
  unfold SeqAt.shaped
  rw [Bool.and_eq_true, decide_eq_true_iff]
  refine ⟨by simp only [PyData.canLay0]; exact lay_tris cs, ?_⟩
  have := dep_tris cs
  simp only [PyData.depth]
  omega
def ErrI (E : XK) (CI : Addr) (H : Hp) (reason : Str) (p : V) : Prop := ErrX E CI H [("position", p), ("reason", .str reason)]
def slotsM (cs : List Tri) : Int := (cs.map fun c => c.2.2).sum
theorem eqv_tris : ∀ cs ds : List Tri, PyData.eqvAll (cs.map triD) (ds.map triD) = decide (cs = ds)
  | [], [] => by simp [PyData.eqvAll]
  | [], d :: ds => by simp [PyData.eqvAll]
  | c :: cs, [] => by simp [PyData.eqvAll]
  | (a, b, m) :: cs, (a2, b2, m2) :: ds => by
    simp only [List.map_cons, PyData.eqvAll, triD, PyData.eqv, eqv_tris cs ds]
    by_cases h1 : a = a2 <;> by_cases h2 : b = b2 <;> by_cases h3 : m = m2 <;> by_cases h4 : cs = ds <;> simp [h1, h2, h3, h4]
def spRing1 (CS : List Addr) (b : Bool) : Sp := fun vs H Q _ => ∃ x : Addr, vs = [.ref x] ∧ Q (.bl b) H
def spSlots (CS : List Addr) : Sp := fun vs H Q _ => ∃ (C x : Addr) (n : Nat) (cs : List Tri), C ∈ CS ∧ vs = [.ref x] ∧ NetAt H x C n cs ∧ NOk n cs ∧ ∀ H2, Same H H2 → Q (.int (slotsM cs)) H2
def spEqN (CS : List Addr) : Sp := fun vs H Q _ => ∃ (C D a b : Addr) (n m : Nat) (cs ds : List Tri), C ∈ CS ∧ D ∈ CS ∧ vs = [.ref a, .ref b] ∧ NetAt H a C n cs ∧ NetAt H b D m ds ∧ Q (.bl (decide (n = m) && decide (cs = ds))) H
section
variable {P : Program} {w : World} {K : PySem.W.Frag} {mg : Str → Option Value} {base : Heap}
theorem ok_P_is_ring {f : Addr} {CS : List Addr} {fd : FuncData} (F : Fun K "is_ring" "Pipeline.is_ring" s_Pipeline_is_ring f fd) : FnOk P w K mg base (L2.CX P w) 1 f fd ["self"] (spRing1 CS false) := by
  refine F.okX sc_Pipeline_is_ring (fun vs H Q E h => ?_) (fun cdv A outer s H vs Q E hr h => ?_)
  · obtain ⟨x, rfl, _⟩ := h
    rfl
  · obtain ⟨x, rfl, q⟩ := h
    exact ⟨_, (pss_one (ps_ret pe_bl)), q⟩
theorem ok_R_is_ring {f : Addr} {CS : List Addr} {fd : FuncData} (F : Fun K "is_ring" "Ring.is_ring" s_Ring_is_ring f fd) : FnOk P w K mg base (L2.CX P w) 1 f fd ["self"] (spRing1 CS true) := by
  refine F.okX sc_Ring_is_ring (fun vs H Q E h => ?_) (fun cdv A outer s H vs Q E hr h => ?_)
  · obtain ⟨x, rfl, _⟩ := h
    rfl
  · obtain ⟨x, rfl, q⟩ := h
    exact ⟨_, (pss_one (ps_ret pe_bl)), q⟩
theorem ok_slots {f : Addr} {CS : List Addr} {fd : FuncData} (F : Fun K "slots" "Net.slots" s_Net_slots f fd) (B : Blt mg) (T : ∀ C ∈ CS, NetCls K C) : FnOk P w K mg base (L2.CX P w) 1 f fd ["self"] (spSlots CS) := by
  refine F.okX sc_Net_slots (fun vs H Q E h => ?_) (fun cdv A outer s H vs Q E hr h => ?_)
  · obtain ⟨C, x, n, cs, _, rfl, _⟩ := h
    rfl
  · obtain ⟨C, x, n, cs, hC, rfl, NA, G, q⟩ := h
    have TC := T C hC
    have hlen := G.len
    obtain ⟨dx, tc, ti, to, ws, hx, htc, hp, _⟩ := NA.ex
    -- slots: 0 self, 1 _, 2 capacity
    refine ⟨_, (pss_one (ps_ret (pe_callB (cr_sum rfl) (by rfl) B.sum bt_sum (pa_cons (pe_lc (own := [("_", 1), ("capacity", 2)]) rfl sc_Net_slots.nd (pi_tup (pe_fld (pv 0) rfl)) (blkOk_by (N := nn_Net_slots) (sc := defScope s_Net_slots) (own := [("_", 1), ("capacity", 2)]) (by decide +kernel)) (fun _ _ _ _ _ => (pg_tupK (K := K) (n := 3) rfl (pgs_cons (pg_name (i := 1) sc_Net_slots.nd rfl (Or.inl rfl)) (pgs_cons (pg_name (i := 1) sc_Net_slots.nd rfl (Or.inl rfl)) (pgs_cons (pg_name (i := 2) sc_Net_slots.nd rfl (Or.inl rfl)) pgs_nil))))) (fun _ _ _ _ _ => pts_nil) (fun _ _ _ _ _ => (pv 2))) pa_nil)))), ?_⟩
    refine ⟨_, rfl, x, C, dx, _, _, rfl, hx, TC.cl, TC.nC, lk_ch, tc, rfl, ⟨_, SqT.of htc⟩, fun D hD => lc_tup (K := K) (a := tc) (xs := ws) (fun i H3 => Same H H3 ∧ H3 D = some (.lst (((cs.take i).map fun c => c.2.2).map V.int))) ⟨Same.new hD, upd_same⟩ (fun i H3 _ z => SqT.of (z.1 _ _ htc)) ?_ ?_⟩
    · rintro i y H3 hy ⟨s3, hd⟩
      obtain ⟨c, hci, tt, rfl, htt⟩ := pr_at hp hy
      refine ⟨tt, _, rfl, SqT.of (s3 _ _ htt), rfl, _, _, rfl, _, _, rfl, _, _, rfl, rfl, rfl, yes ⟨_, rfl, _, hd, ?_, Same.newer s3 hD, ?_⟩⟩
      · rw [List.length_map, List.length_map, List.length_take]
        exact line_lt (by omega)
      · rw [upd_same, take_snoc hci, List.map_append, List.map_append]
        rfl
    · rintro H3 ⟨s3, hd⟩
      rw [← hp.length, List.take_length] at hd
      exact ⟨D, _, rfl, SqL.of hd, q _ s3⟩
theorem ok_Net_eq {f N : Addr} {CS : List Addr} {fd : FuncData} (F : Fun K "__eq__" "Net.__eq__" s_Net_eq f fd) (B : Blt mg) (Z : NetK K mg N) (T : ∀ C ∈ CS, NetCls K C) (ki : ∀ C ∈ CS, PySem.W.kitOne K (.ref C) (.ref N) = some true) (ha : ∀ C ∈ CS, PySem.W.findIn K (.ref C) "__class__" = some (some (.builtin "object.__class__"))) (hn : PySem.W.specialIn K (.builtin "object.__class__") "__get__" = some (some (.builtin "getset_descriptor.__get__"))) (ht_ : PySem.W.takesIn K (.builtin "object.__class__") = some true) (hm : ∀ C ∈ CS, PySem.W.mroIn K C (.type "object") = some true) :
    FnOk P w K mg base (L2.CX P w) 2 f fd ["self", "other"] (spEqN CS) := by
  refine F.okX sc_Net_eq (fun vs H Q E h => ?_) (fun cdv A outer s H vs Q E hr h => ?_)
  · obtain ⟨C, D, a, b, n, m, cs, ds, _, _, rfl, _⟩ := h
    rfl
  · obtain ⟨C, D, a, b, n, m, cs, ds, hC, hD, rfl, NA, NB, q⟩ := h
    have TC := T C hC
    have TD := T D hD
    have hu := hu_of hr
    obtain ⟨dx, tc, ti, to, ws, hx, htc, hp, _⟩ := NA.ex
    obtain ⟨dy, td, tj, tp, us, hy, htd, hpd, _⟩ := NB.ex
    -- slots: 0 self, 1 other
    refine ⟨_, (pss_one (ps_ret (pe_and (pe_callB call_isi (by rfl) B.isi bt_isi (pa_cons (pv 1) (pa_cons (pe_glob (v := .ref N) (by rfl) Z.gN rfl) pa_nil))) (pe_and (pe_cmpR op_eq (pe_fld (pv 0) rfl) (pe_fld (pv 1) rfl) (nomark _)) (pe_one (pe_cmpR (op_eqD hr.units) (pe_fld (pv 0) rfl) (pe_fld (pv 1) rfl) (nomark _))))))), ?_⟩
    refine ⟨_, rfl, _, _, _, _, _, rfl, .own _, .base (.ins hy TD.cl (ha D hD) hn ht_ (hm D hD)), ki D hD, _, rfl, iteT ?_⟩
    refine ⟨_, rfl, a, C, dx, _, _, rfl, hx, TC.cl, TC.nS, lk_st, _, rfl, b, D, dy, _, _, rfl, hy, TD.cl, TD.nS, lk_st, rfl, _, rfl, ?_⟩
    by_cases e : n = m
    · subst e
      rw [show decide (V.int (n : Nat) = V.int (n : Nat)) = true by simp]
      refine iteT ?_
      refine ⟨_, rfl, a, C, dx, _, _, rfl, hx, TC.cl, TC.nC, lk_ch, _, rfl, b, D, dy, _, _, rfl, hy, TD.cl, TD.nC, lk_ch, .tuple (cs.map triD), .tuple (ds.map triD), .tup (SqT.of htc) (dp_tris hp), .tup (SqT.of htd) (dp_tris hpd), ?_, ?_, ?_⟩
      · exact shaped_trisT cs
      · exact shaped_trisT ds
      · rw [show PyData.eqv (.tuple (cs.map triD)) (.tuple (ds.map triD)) = decide (cs = ds) from by simp only [PyData.eqv, eqv_tris]]
        rw [decide_eq_true rfl, Bool.true_and] at q
        exact q
    · rw [show decide (V.int (n : Nat) = V.int (m : Nat)) = false by simp; omega]
      refine iteF ?_
      rw [decide_eq_false e, Bool.false_and] at q
      exact q
end
end WC

set_option maxHeartbeats 400000
namespace WC
open PySem PySem.Spec PyProof.Rows L2
def sumT (n : Nat) (cs : List Tri) : Str := Str.empty ++ Str.ofString (toString (n : Int)) ++ (" stages, " : Str) ++ Str.ofString (toString (cs.length : Int)) ++ (" channels, " : Str) ++ Str.ofString (toString (slotsM cs)) ++ (" slots" : Str)
def spSum (CS : List Addr) (pre : Str) : Sp := fun vs H Q _ => ∃ (C x : Addr) (n : Nat) (cs : List Tri), C ∈ CS ∧ vs = [.ref x] ∧ NetAt H x C n cs ∧ NOk n cs ∧ ∀ H2, Same H H2 → Q (.str (pre ++ sumT n cs)) H2
def spSum0 (CS : List Addr) : Sp := fun vs H Q _ => ∃ (C x : Addr) (n : Nat) (cs : List Tri), C ∈ CS ∧ vs = [.ref x] ∧ NetAt H x C n cs ∧ NOk n cs ∧ ∀ H2, Same H H2 → Q (.str (sumT n cs)) H2
theorem num_len {a : Int} (h0 : 0 ≤ a) (h : a < 100000) : (Str.ofString (toString a)).length ≤ 5 := toString_length_le h0 (by decide) (by omega)
theorem num_log {a : Int} (h0 : 0 ≤ a) (h : a < 100000) : a.natAbs.log2 < 1920 := by
  have : a.natAbs < 2 ^ 17 := by omega
  have := (Nat.log2_lt (n := a.natAbs) (k := 17))
  by_cases z : a.natAbs = 0
  · rw [z]; decide
  · exact Nat.lt_of_lt_of_le ((Nat.log2_lt z).mpr (by omega)) (by decide : 17 ≤ 1920)
theorem sum_rng : ∀ {cs : List Tri}, (∀ c ∈ cs, 0 ≤ c.2.2 ∧ c.2.2 ≤ 999) → 0 ≤ slotsM cs ∧ slotsM cs ≤ 999 * cs.length
  | [], _ => by simp [slotsM]
  | c :: cs, h => by
    have ih := sum_rng (cs := cs) fun d hd => h d (List.mem_cons_of_mem _ hd)
    have h1 := h c List.mem_cons_self
    have e : slotsM (c :: cs) = c.2.2 + slotsM cs := by simp [slotsM]
    rw [e, List.length_cons]
    omega
theorem slots_rng {n : Nat} {cs : List Tri} (G : NOk n cs) : 0 ≤ slotsM cs ∧ slotsM cs < 100000 := by
  have h := sum_rng (cs := cs) fun c hc => ⟨by have := (G.ok c hc).2.2.2.1; omega, (G.ok c hc).2.2.2.2⟩
  have := G.len
  omega
/-- the property slots of the classes CS -/
structure SlotR (P : Program) (w : World) (K : PySem.W.Frag) (mg : Str → Option Value) (base : Heap) (CS : List Addr) : Prop where
  ex : ∀ C ∈ CS, ∃ p g fd ps, Cls K C ∧ PropOf K C "slots" p g ∧ FnOk P w K mg base (L2.CX P w) 1 g fd ps (spSlots CS) ∧ Binds K fd ps []
theorem pe_slots {X : Cx} {C : Addr} {CS : List Addr} {e : Expr} {ta : TE} {pos : Pos} (D : SlotR X.prog X.w X.K X.mg X.base CS) (hC : C ∈ CS) (he : PE X e ta) (hr : Room 2 X.A) (hab : attributeBase e "slots" X.env (eval e X.env) = eval e X.env := by rfl) : PE X (.Attribute e "slots" pos) (tProp C (spSlots CS) [] E0 ta) := by
  obtain ⟨p, g, fd, ps, c, hp, F, hb⟩ := D.ex C hC
  exact pe_prop he c hp F hr hb .nil passL hab
section
variable {P : Program} {w : World} {K : PySem.W.Frag} {mg : Str → Option Value} {base : Heap}
theorem ok_Net_summary {f C : Addr} {CS : List Addr} {fd : FuncData} (F : Fun K "summary" "Net.summary" s_Net_summary f fd) (B : Blt mg) (T : ∀ C ∈ CS, NetCls K C) (D : SlotR P w K mg base CS) (hC : C ∈ CS) : FnOk P w K mg base (L2.CX P w) 3 f fd ["self"] (spSum0 [C]) := by
  refine F.okX sc_Net_summary (fun vs H Q E h => ?_) (fun cdv A outer s H vs Q E hr h => ?_)
  · obtain ⟨C, x, n, cs, _, rfl, _⟩ := h
    rfl
  · obtain ⟨C', x, n, cs, hC', rfl, NA, G, q⟩ := h
    obtain rfl := List.mem_singleton.mp hC'
    have TC := T C' hC
    have hlen := G.len
    have n40 := G.n40
    obtain ⟨dx, tc, ti, to, ws, hx, htc, hp, _⟩ := NA.ex
    -- slots: 0 self
    refine ⟨_, pss_one (ps_ret (pe_joined (.cons (pe_fmt (pe_fld (pv 0) rfl)) (.cons pe_str (.cons (pe_fmt (pe_callB call_len_seq (by rfl) B.len bt_len (pa_cons (pe_fld (pv 0) rfl) pa_nil))) (.cons pe_str (.cons (pe_fmt (pe_slots D hC (pv 0) hr)) (.cons pe_str PJ.nil)))))))), ?_⟩
    obtain ⟨m0, m1⟩ := slots_rng G
    have l1 := num_len (a := (n : Int)) (by omega) (by omega)
    have l2 := num_len (a := (cs.length : Int)) (by omega) (by omega)
    have l3 := num_len (a := slotsM cs) m0 (by omega)
    refine ⟨_, rfl, x, C', dx, _, _, rfl, hx, TC.cl, TC.nS, lk_st, .inr ⟨_, rfl, num_log (by omega) (by omega), _, rfl, ?_, _, rfl, ?_, ?_⟩⟩
    · rw [Str.empty_append]
      exact line_of (by omega)
    · rw [Str.empty_append, Str.length_append]
      exact line_of (by show _ + 9 ≤ _; omega)
    refine ⟨_, rfl, x, C', dx, _, _, rfl, hx, TC.cl, TC.nC, lk_ch, tc, ws, rfl, .inr (SqT.of htc), ?_⟩
    rw [← hp.length]
    refine .inr ⟨_, rfl, num_log (by omega) (by omega), _, rfl, ?_, _, rfl, ?_, ?_⟩
    · rw [Str.empty_append, Str.length_append, Str.length_append]
      exact line_of (by show _ + 9 + _ ≤ _; omega)
    · rw [Str.empty_append, Str.length_append, Str.length_append, Str.length_append]
      exact line_of (by show _ + 9 + _ + 11 ≤ _; omega)
    refine ⟨_, rfl, x, dx, _, rfl, hx, C', x, n, cs, hC, rfl, NA, G, fun H2 s2 => .inr ⟨_, rfl, num_log m0 (by omega), _, rfl, ?_, _, rfl, ?_, ?_⟩⟩
    · rw [Str.empty_append, Str.length_append, Str.length_append, Str.length_append, Str.length_append]
      exact line_of (by show _ + 9 + _ + 11 + _ ≤ _; omega)
    · rw [Str.empty_append, Str.length_append, Str.length_append, Str.length_append, Str.length_append, Str.length_append]
      exact line_of (by show _ + 9 + _ + 11 + _ + 6 ≤ _; omega)
    · exact q H2 s2
end
end WC

set_option maxHeartbeats 4000000
namespace WC
open PySem PySem.Spec PyProof.Rows L2
structure Blt2 (mg : Str → Option Value) : Prop where
  zip : mg "zip" = none
theorem Known.same {K : PySem.W.Frag} {H H2 : Hp} {v : V} (k : Known K H v) (s : Same H H2) : Known K H2 v := by
  cases v with
  | ref a => exact k.imp (fun ⟨xs, e⟩ => ⟨xs, s _ _ e⟩) (fun ⟨xs, e⟩ => ⟨xs, s _ _ e⟩)
  | int i => trivial
  | bl b => trivial
  | non => trivial
  | str z => trivial
  | byt b => exact k
  | flt b => exact k
  | ty n => exact k
/-- either promise -/
def spOr (a b : Sp) : Sp := fun vs H Q E => a vs H Q E ∨ b vs H Q E
theorem FnR.or {P : Program} {w : World} {K : PySem.W.Frag} {mg : Str → Option Value} {base : Heap} {CX : CXT} {k : Nat} {f : Addr} {s1 s2 : Sp} (F1 : FnR P w K mg base CX k f s1) (F2 : FnR P w K mg base CX k f s2) : FnR P w K mg base CX k f (spOr s1 s2) := fun A outer s H us vs Q E hr e0 r hs => hs.elim (F1 A outer s H us vs Q E hr e0 r) (F2 A outer s H us vs Q E hr e0 r)
theorem FnOk.or {P : Program} {w : World} {K : PySem.W.Frag} {mg : Str → Option Value} {base : Heap} {CX : CXT} {k : Nat} {f : Addr} {fd : FuncData} {ps : List Str} {s1 s2 : Sp} (F1 : FnOk P w K mg base CX k f fd ps s1) (F2 : FnOk P w K mg base CX k f fd ps s2) : FnOk P w K mg base CX k f fd ps (spOr s1 s2) :=
  ⟨fun vs H Q E h => h.elim (F1.len vs H Q E) (F2.len vs H Q E), fun A outer s H args us vs Q E hr e0 hb r hs => hs.elim (F1.run A outer s H args us vs Q E hr e0 hb r) (F2.run A outer s H args us vs Q E hr e0 hb r)⟩
theorem ClsR.or {P : Program} {w : World} {K : PySem.W.Frag} {mg : Str → Option Value} {base : Heap} {C : Addr} {k : Nat} {s1 s2 : Sp} {f : Addr} (M : Mk K C f) (F1 : FnR P w K mg base (L2.CX P w) k f s1) (F2 : FnR P w K mg base (L2.CX P w) k f s2) : ClsR P w K mg base C k (spOr s1 s2) := ⟨f, M, FnR.or F1 F2⟩
theorem ClsR.imp {P : Program} {w : World} {K : PySem.W.Frag} {mg : Str → Option Value} {base : Heap} {C : Addr} {k : Nat} {s1 s2 : Sp} (D : ClsR P w K mg base C k s1) (h : ∀ vs H Q E, s2 vs H Q E → s1 vs H Q E) : ClsR P w K mg base C k s2 := let ⟨f, M, F⟩ := D.ex; ⟨f, M, F.imp h⟩
/-- a channel as it is given: its capacity any value -/
abbrev TriX := Int × Int × V
def TriXA (H : Hp) (c : TriX) (v : V) : Prop := ∃ t, v = .ref t ∧ H t = some (.tup [.int c.1, .int c.2.1, c.2.2])
def ChX (n : Nat) (c : TriX) : Prop := (0 ≤ c.1 ∧ c.1 < n) ∧ (0 ≤ c.2.1 ∧ c.2.1 < n) ∧ c.1 ≠ c.2.1
def pairX (c : TriX) : Int × Int := (c.1, c.2.1)
/-- the first of these values that is no capacity stands at m -/
def FirstBad (us : List V) (m : Nat) : Prop := (∃ v, us[m]? = some v ∧ btw v 1 999 = false) ∧ ∀ j v, j < m → us[j]? = some v → btw v 1 999 = true
theorem trix_same {H H2 : Hp} {xs : List TriX} {ws : List V} (s : Same H H2) (h : Paired (TriXA H) xs ws) : Paired (TriXA H2) xs ws := Paired.mapP h fun c v ⟨t, e, q⟩ => ⟨t, e, s _ _ q⟩
def spJoinsX (K : PySem.W.Frag) : Sp := fun vs H Q _ => ∃ (n : Nat) (v : V) (c : TriX), vs = [.int n, v] ∧ TriXA H c v ∧ ChX n c ∧ ∀ H2, Same H H2 → Q (.bl true) H2
def spCheckBad (K : PySem.W.Frag) (CI : Addr) : Sp := fun vs H Q E => ∃ (n : Nat) (t : Addr) (xs : List TriX) (ws : List V) (m : Nat), vs = [.int n, .ref t] ∧ H t = some (.tup ws) ∧ Paired (TriXA H) xs ws ∧ (∀ c ∈ xs, ChX n c ∧ Known K H c.2.2) ∧ (xs.map pairX).Nodup ∧ xs.length ≤ 1000 ∧ FirstBad (xs.map fun c => c.2.2) m ∧ ErrI E CI H "capacity" (.int m)
section
variable {P : Program} {w : World} {K : PySem.W.Frag} {mg : Str → Option Value} {base : Heap}
theorem ok_joinsX {f : Addr} {fd : FuncData} (F : Fun K "_joins_two_stages" "_joins_two_stages" s_joins_two_stages f fd) (B : Blt mg) (G : DefR P w K mg base "is_between" 1 (spBtw K)) : FnOk P w K mg base (L2.CX P w) 2 f fd ["stages", "channel"] (spJoinsX K) := by
  refine F.okX sc_joins_two_stages (fun vs H Q E h => ?_) (fun cdv A outer s H vs Q E hr h => ?_)
  · obtain ⟨n, v, c, rfl, _⟩ := h
    rfl
  · obtain ⟨n, v, c, rfl, ⟨t, rfl, ht⟩, ⟨⟨c1, c2⟩, ⟨c3, c4⟩, c5⟩, k⟩ := h
    -- slots 0 stages, 1 channel, 2 ends, 3 end
    refine ⟨_, pss_cons (ps_if (PW.pt (pw_or (pt_not (pt_val (pe_callB call_isi (by rfl) B.isi bt_isi (pa_cons (pv 1) (pa_cons (pe_bltn (v := .ty "tuple") (by rfl) B.tuple bt_tuple rfl) pa_nil)))))
        (pw_or1 (pt_cmpR op_notIn_seq (pe_callB call_len_seq (by rfl) B.len bt_len (pa_cons (pv 1) pa_nil)) (pe_tup (pa_cons pe_int (pa_cons pe_int pa_nil))) (by rfl))))) (pss_one (ps_ret pe_bl)) pss_nil)
      (pss_cons (ps_set (i := 2) sc_joins_two_stages.nd rfl (Or.inl rfl) (pe_slice sl_tup (pv 1) po_none (po_some pe_int)))
      (pss_cons (ps_if (pt_not (pt_val (pe_callB (cr_all rfl) (by rfl) B.all bt_all (pa_cons (pe_lc (own := [("end", 3)]) rfl sc_joins_two_stages.nd (pi_tup (pv 2)) (blkOk_by (N := nn_joins_two_stages) (sc := defScope s_joins_two_stages) (own := [("end", 3)]) (by decide +kernel)) (fun _ _ _ _ _ => pg_name (i := 3) sc_joins_two_stages.nd rfl (Or.inl rfl)) (fun _ _ _ _ _ => pts_nil)
          (fun _ _ _ _ _ => pe_cd G (by exact hr) passL (pa_cons (pv 3) (pa_cons pe_int (pa_cons (pe_op op_sub (pv 0) pe_int) pa_nil))))) pa_nil)))) (pss_one (ps_ret pe_bl)) pss_nil)
      (pss_one (ps_ret (pe_cmpR op_ne (pe_ix ix_tup (pv 2) pe_int (fun _ _ => rfl)) (pe_ix ix_tup (pv 2) pe_int (fun _ _ => rfl)) (nomark _)))))), ?_⟩
    refine ⟨_, rfl, _, _, _, _, _, rfl, .ty _, .base (.tup ht), kit_ty (r := true) (by decide +kernel), _, rfl, ?_⟩
    refine iteF ⟨_, rfl, t, _, rfl, .inr (SqT.of ht), by show 2 ≤ sizeLine; decide, fun p hp => ⟨p, _, rfl, .inr (SqT.of upd_same), rfl, rfl, _, rfl, ?_⟩⟩
    refine iteF ⟨_, rfl, _, rfl, t, _, rfl, SqT.of (by rw [upd_ne (ne_of_none ht hp)]; exact ht), ?_, fun q hq => ?_⟩
    · intro z
      have z2 := z.2
      simp [HT.sIx] at z2
    have s2 : Same H (upd (upd H p (.tup [.int 2, .int 3])) q (.tup [.int c.1, .int c.2.1])) := Same.trans (Same.new hp) (Same.new hq)
    have eq : cutV [V.int c.1, V.int c.2.1, c.2.2] none (some 2) = [V.int c.1, V.int c.2.1] := rfl
    rw [eq]
    obtain ⟨H2, eH⟩ : ∃ H2, H2 = upd (upd H p (.tup [.int 2, .int 3])) q (.tup [.int c.1, .int c.2.1]) := ⟨_, rfl⟩
    rw [← eH] at s2 ⊢
    have hq2 : H2 q = some (.tup [.int c.1, .int c.2.1]) := by rw [eH, upd_same]
    refine ⟨_, rfl, q, rfl, ⟨_, SqT.of hq2⟩, fun D hD => lc_tup (K := K) (a := q) (xs := [.int c.1, .int c.2.1]) (fun i H3 => Same H2 H3 ∧ H3 D = some (.lst ((List.replicate i true).map V.bl))) ⟨Same.new hD, upd_same⟩ (fun i H3 _ z => SqT.of (z.1 _ _ hq2)) ?_ ?_⟩
    · rintro i x H3 hx ⟨s3, hd⟩
      have hx2 : ∃ m : Int, x = .int m ∧ 0 ≤ m ∧ m ≤ n - 1 := by
        match i, hx with
        | 0, hx => exact ⟨c.1, (Option.some.inj hx).symm, c1, by omega⟩
        | 1, hx => exact ⟨c.2.1, (Option.some.inj hx).symm, c3, by omega⟩
        | _ + 2, hx => simp at hx
      obtain ⟨m, rfl, m1, m2⟩ := hx2
      refine ⟨rfl, yes ⟨_, rfl, _, rfl, _, _, rfl, rfl, _, _, _, rfl, nv _, _, hd, ?_, Same.newer s3 hD, ?_⟩⟩
      · have : i < 2 := (List.getElem?_eq_some_iff.mp hx).1
        rw [List.length_map, List.length_replicate]
        exact line_lt (by omega)
      · rw [upd_same, btw_in m1 m2, List.replicate_succ', List.map_append]
        rfl
    · rintro H3 ⟨s3, hd⟩
      refine ⟨D, _, rfl, SqL.of hd, _, rfl, ?_⟩
      refine iteF ⟨_, rfl, q, _, _, _, rfl, rfl, SqT.of (s3 _ _ hq2), atI_nat (j := 0) rfl, _, rfl, q, _, _, _, rfl, rfl, SqT.of (s3 _ _ hq2), atI_nat (j := 1) rfl, rfl, ?_⟩
      have q2 : (!decide (V.int c.1 = V.int c.2.1)) = true := by simp [c5]
      rw [q2]
      exact k H3 (s2.trans s3)
theorem ok_check_bad {f N CI : Addr} {fd : FuncData} (F : Fun K "_check_channels" "_check_channels" s_check_channels f fd) (B : Blt mg) (Z : NetK K mg N) (G1 : DefR P w K mg base "_joins_two_stages" 2 (spJoinsX K)) (G2 : StaR P w K mg base N "is_capacity" 2 (spCap K))
    (T : ExcR P w K mg base "InvalidNet" CI 1 2 flI) : FnOk P w K mg base (L2.CX P w) 3 f fd ["stages", "channels"] (spCheckBad K CI) := by
  refine F.okX sc_check_channels (fun vs H Q E h => ?_) (fun cdv A outer s H vs Q E hr h => ?_)
  · obtain ⟨n, t, xs, ws, m, rfl, _⟩ := h
    rfl
  · obtain ⟨n, t, cs, ws, m, rfl, ht, hp, hok, nd, hlen, ⟨⟨bv, hbv, hbad⟩, hgood⟩, k⟩ := h
    have hu := hu_of hr
    -- slots 0 stages, 1 channels, 2 earlier, 3 position, 4 channel
    refine ⟨_, pss_cons (ps_set (i := 2) sc_check_channels.nd rfl (Or.inl rfl) pe_dnewT)
      (pss_one (ps_for (passes_of rfl) rfl (pi_et B.enum (pa_cons (pv 1) pa_nil)) (pg_tup rfl (pgs_cons (pg_name (i := 3) sc_check_channels.nd rfl (Or.inl rfl)) (pgs_cons (pg_name (i := 4) sc_check_channels.nd rfl (Or.inl rfl)) pgs_nil)))
        (pss_cons (ps_if (pt_not (pt_val (pe_cd G1 hr psE (pa_cons (pv 0) (pa_cons (pv 4) pa_nil))))) (pss_one (ps_raise rfl (takes_of rfl rfl rfl rfl) (pmk_x T hr (pa_cons pe_str (pa_cons (pv 3) pa_nil))))) pss_nil)
        (pss_cons (ps_if (PW.pt (pw_and (pt_cmpR op_eq (pe_callB call_len_seq (by rfl) B.len bt_len (pa_cons (pv 4) pa_nil)) pe_int (nomark _)) (pw_and1 (pt_not (pt_val (pe_sta G2 (pe_glob (v := .ref N) (by rfl) Z.gN rfl) hr psE (pa_cons (pe_ix ix_tup (pv 4) pe_int (fun _ _ => rfl)) pa_nil))))))) (pss_one (ps_raise rfl (takes_of rfl rfl rfl rfl) (pmk_x T hr (pa_cons pe_str (pa_cons (pv 3) pa_nil))))) pss_nil)
        (pss_cons (ps_if (pt_cmp (pc_din hu (pe_slice sl_tup (pv 4) po_none (po_some pe_int)) (pv 2))) (pss_one (ps_raise rfl (takes_of rfl rfl rfl rfl) (pmk_x T hr (pa_cons pe_str (pa_cons (pv 3) pa_nil))))) pss_nil)
        (pss_one (ps_dput hu (pv 2) (pe_slice sl_tup (pv 4) po_none (po_some pe_int)) pe_bl rfl))))))), ?_⟩
    intro d hd
    refine ⟨_, rfl, t, ws, rfl, SqT.of (by rw [upd_ne (ne_of_none ht hd)]; exact ht), for_it (walk_et (xs := ws)) (fun i σ H2 => i ≤ m ∧ ∃ v3 v4, σ = [some (.int n), some (.ref t), some (.ref d), v3, v4] ∧ Same H H2 ∧ ∃ kvs : List (List Key × V), H2 d = some (.dT kvs) ∧ kvs.length ≤ i ∧ ∀ a b, (valV kvs [Sum.inl a, Sum.inl b]).isSome = true → ∃ c ∈ cs.take i, pairX c = (a, b))
      ⟨Nat.zero_le _, _, _, rfl, Same.new hd, [], upd_same, by simp, fun a b z => by simp [valV] at z⟩ ?_ ?_ ?_⟩
    · rintro i σ H2 _ ⟨_, _, _, _, s2, _⟩
      exact SqT.of (s2 _ _ ht)
    · rintro i x σ H2 H3 hi ⟨him, v3, v4, rfl, s2, kvs, k1, k2, k3⟩ ⟨T1, x1, y1, rfl, hT, rfl, e1, e2⟩
      cases e1
      obtain ⟨c, hc, t1, rfl, ht1⟩ := pr_at hp e2
      have ilt := (List.getElem?_eq_some_iff.mp hc).1
      obtain ⟨cok, ckn⟩ := hok c (List.mem_of_getElem? hc)
      have hcv : (cs.map fun c => c.2.2)[i]? = some c.2.2 := by rw [List.getElem?_map, hc]; rfl
      have s3 : Same H2 (upd H2 T1 (.tup [.int (i : Nat), .ref t1])) := Same.new hT
      have ht3 := s3 _ _ (s2 _ _ ht1)
      refine ⟨T1, _, rfl, SqT.of upd_same, rfl, _, _, rfl, _, _, rfl, rfl, _, rfl, _, rfl, n, _, c, rfl, ⟨t1, rfl, ht3⟩, cok, fun H4 s4 => ⟨_, rfl, ?_⟩⟩
      have ht4 := s4 _ _ ht3
      have s04 : Same H H4 := s2.trans (s3.trans s4)
      refine iteF ⟨_, rfl, t1, _, rfl, .inr (SqT.of ht4), rfl, _, rfl, ?_⟩
      refine iteT ⟨rfl, _, rfl, t1, _, _, _, rfl, rfl, SqT.of ht4, atI_nat (j := 2) rfl, _, rfl, ckn.same s04, _, rfl, ?_⟩
      cases hb : btw c.2.2 1 999 with
      | false =>
        have e : i = m := by
          rcases Nat.lt_or_ge i m with z | z
          · rw [hgood i _ z hcv] at hb
            cases hb
          · omega
        subst e
        exact iteT ⟨_, rfl, x_use rfl (by decide) (ErrX.new (ErrX.on k s04))⟩
      | true =>
      have him2 : i + 1 ≤ m := by
        rcases Nat.lt_or_ge i m with z | z
        · exact z
        · have e : i = m := by omega
          subst e
          rw [hcv] at hbv
          cases hbv
          rw [hb] at hbad
          cases hbad
      refine iteF ⟨_, rfl, _, rfl, t1, _, rfl, SqT.of ht4, cut2n, fun q hq => ?_⟩
      rw [cut2]
      have kd : H4 d = some (.dT kvs) := s4 _ _ (s3 _ _ k1)
      have s5 : Same H4 (upd H4 q (.tup [.int c.1, .int c.2.1])) := Same.new hq
      refine ⟨_, rfl, d, _, rfl, DGet.t (k := [Sum.inl c.1, Sum.inl c.2.1]) (s5 _ _ kd) upd_same, _, rfl, ?_⟩
      cases hv : valV kvs [Sum.inl c.1, Sum.inl c.2.1] with
      | some v =>
        obtain ⟨c2, m2, p2⟩ := k3 c.1 c.2.1 (by rw [hv]; rfl)
        exfalso
        obtain ⟨j, hj⟩ := List.mem_iff_getElem?.mp m2
        have jl : j < i := by
          have q1 := (List.getElem?_eq_some_iff.mp hj).1
          rw [List.length_take] at q1
          omega
        rw [List.getElem?_take_of_lt jl] at hj
        have a1 : (cs.map pairX)[j]? = some (c.1, c.2.1) := by rw [List.getElem?_map, hj]; exact congrArg some p2
        have a2 : (cs.map pairX)[i]? = some (c.1, c.2.1) := by rw [List.getElem?_map, hc]; rfl
        have a3 := (List.getElem?_inj (by rw [List.length_map]; omega) nd).mp (a1.trans a2.symm)
        omega
      | none =>
        refine iteF ⟨_, rfl, _, rfl, _, rfl, t1, _, rfl, SqT.of (s5 _ _ ht4), cut2n, fun q2 hq2 => ?_⟩
        rw [cut2]
        have s6 : Same (upd H4 q (.tup [.int c.1, .int c.2.1])) (upd (upd H4 q (.tup [.int c.1, .int c.2.1])) q2 (.tup [.int c.1, .int c.2.1])) := Same.new hq2
        refine ⟨d, _, rfl, DPut.t (k := [Sum.inl c.1, Sum.inl c.2.1]) (s6 _ _ (s5 _ _ kd)) upd_same (line_lt (by omega)), him2, _, _, rfl, ?_, _, upd_same, ?_, ?_⟩
        · exact Same.newer (s2.trans (s3.trans (s4.trans (s5.trans s6)))) hd
        · exact Nat.le_trans (pk_len _ _ _) (by omega)
        · intro a b z
          rw [valV_put] at z
          rw [take_snoc hc]
          by_cases e : ([Sum.inl a, Sum.inl b] : List Key) = [Sum.inl c.1, Sum.inl c.2.1]
          · have e2 : a = c.1 ∧ b = c.2.1 := by simpa using e
            exact ⟨c, by simp, by rw [e2.1, e2.2]; rfl⟩
          · rw [if_neg e] at z
            obtain ⟨c2, m2, p2⟩ := k3 a b z
            exact ⟨c2, List.mem_append_left _ m2, p2⟩
    · rintro σ H2 ⟨him, _⟩
      have z := (List.getElem?_eq_some_iff.mp hbv).1
      rw [List.length_map] at z
      have := hp.length
      omega
end
end WC

set_option maxHeartbeats 4000000
namespace WC
open PySem PySem.Spec PyProof.Rows L2
/-- given channels of which one has no capacity -/
def spPipeBad (K : PySem.W.Frag) (C CI : Addr) : Sp := fun vs H Q E => ∃ (x dx : Addr) (n : Nat) (xs : List TriX) (ws : List V) (m : Nat), vs = .ref x :: .int n :: ws ∧ H x = some (.ins C dx []) ∧ 1 ≤ n ∧ n ≤ 40 ∧ Paired (TriXA H) xs ws ∧ (∀ c ∈ xs, ChX n c ∧ Known K H c.2.2) ∧ (xs.map pairX).Nodup ∧ xs.length ≤ 60 ∧ FirstBad (xs.map fun c => c.2.2) m ∧ ErrI E CI H "capacity" (.int m)
def spPipeBadB (K : PySem.W.Frag) (C CI : Addr) : Sp := fun vs H Q E => ∃ (x dx t : Addr) (n : Nat) (xs : List TriX) (ws : List V) (m : Nat), vs = [.ref x, .int n, .int 1, .ref t] ∧ H x = some (.ins C dx []) ∧ 1 ≤ n ∧ n ≤ 40 ∧ H t = some (.tup ws) ∧ Paired (TriXA H) xs ws ∧ (∀ c ∈ xs, ChX n c ∧ Known K H c.2.2) ∧ (xs.map pairX).Nodup ∧ xs.length ≤ 60 ∧ FirstBad (xs.map fun c => c.2.2) m ∧ ErrI E CI H "capacity" (.int m)
def spRingBad (K : PySem.W.Frag) (C CI : Addr) : Sp := fun vs H Q E => ∃ (x dx : Addr) (us : List V) (m : Nat), vs = .ref x :: us ∧ H x = some (.ins C dx []) ∧ 3 ≤ us.length ∧ us.length ≤ 40 ∧ (∀ u ∈ us, Known K H u) ∧ FirstBad us m ∧ ErrI E CI H "capacity" (.int m)
def spRingBadB (K : PySem.W.Frag) (C CI : Addr) : Sp := fun vs H Q E => ∃ (x dx t : Addr) (us : List V) (m : Nat), vs = [.ref x, .ref t] ∧ H x = some (.ins C dx []) ∧ H t = some (.tup us) ∧ 3 ≤ us.length ∧ us.length ≤ 40 ∧ (∀ u ∈ us, Known K H u) ∧ FirstBad us m ∧ ErrI E CI H "capacity" (.int m)
section
variable {P : Program} {w : World} {K : PySem.W.Frag} {mg : Str → Option Value} {base : Heap}
theorem ok_Pipeline_bad {f cc C N CI g : Addr} {Dk : Addr} {u : Value} (F : SFun P K "__init__" "Pipeline.__init__" s_Pipeline_init f cc C (.ref Dk)) (hD : PySem.W.nsIn K Dk "capacity" = some (some u)) (hu1 : RelV (.int 1) u) (B : Blt mg) (Z : NetK K mg N)
    (G0 : DefR P w K mg base "is_between" 1 (spBtw K)) (G1 : DefR P w K mg base "_check_channels" 3 (spCheckBad K CI)) (G2 : StaR P w K mg base N "is_capacity" 2 (spCap K)) (G3 : DefR P w K mg base "_with_capacity" 1 spWith) (G4 : DefR P w K mg base "has_circle" 1 spNoCircle)
    (T : ExcR P w K mg base "InvalidNet" CI 1 2 flI) (SP : SupTxt P K mg C C g "__init__") (G5 : FnR P w K mg base (L2.CX P w) 2 g (spNetInit C)) : FnR P w K mg base (L2.CX P w) 4 f (spPipeBad K C CI) := by
  refine FnR.imp (F.star (k := 3) (ps := ["self", "stages"]) (ks := ["capacity"]) (pv := "channels") (kv := [u]) (kvV := [.int 1]) (sp := spPipeBadB K C CI) sc_Pipeline_init (.cons hu1 .nil) rfl (fun doc pm an cdv ct => BindStar.of_kw hD fun u1 u2 hl => ?_) ⟨_, rfl, rfl⟩ rfl rfl (fun cdv A outer s H vs Q E hr SZ h => ?_)) (fun vs H Q E h => ?_)
  · match u1, u2, hl with
    | [a, b], [], _ => exact ⟨_, _, _, _, _, _, rfl, rfl, rfl⟩
    | [a, b], r :: rs, _ => exact ⟨_, _, _, _, _, _, rfl, rfl, rfl⟩
  · obtain ⟨x, dx, t, n, xs, ws, m, rfl, hx, n1, n2, ht, hp, hok, nd, hlen, fb, k⟩ := h
    obtain ⟨mc, cr, ⟨u1, c1⟩, ⟨u2, c2⟩, _, _⟩ := Z.cr
    -- slots 0 self, 1 stages, 2 capacity, 3 channels, 4 triples, 5 channel
    refine ⟨_, px_cons (ps_if (pt_not (pt_val (pe_cd G0 hr psS (pa_cons (pv 1) (pa_cons pe_int (pa_cons (ClX.pe_cval (pe_glob (v := .ref N) (by rfl) Z.gN rfl)) pa_nil)))))) (pss_one (ps_raise rfl (takes_of rfl rfl rfl rfl) (pmk_x T hr (pa_cons pe_str (pa_cons pe_non pa_nil))))) pss_nil)
      (px_cons (ps_if (pt_cmpR op_gt (pe_callB call_len_seq (by rfl) B.len bt_len (pa_cons (pv 3) pa_nil)) (ClX.pe_cval (pe_glob (v := .ref N) (by rfl) Z.gN rfl)) (nomark _)) (pss_one (ps_raise rfl (takes_of rfl rfl rfl rfl) (pmk_x T hr (pa_cons pe_str (pa_cons pe_non pa_nil))))) pss_nil)
      (px_cons (ps_expr (pe_cd G1 hr psS (pa_cons (pv 1) (pa_cons (pv 3) pa_nil))))
      (px_cons (ps_if (pt_not (pt_val (pe_sta G2 (pe_glob (v := .ref N) (by rfl) Z.gN rfl) hr psS (pa_cons (pv 2) pa_nil)))) (pss_one (ps_raise rfl (takes_of rfl rfl rfl rfl) (pmk_x T hr (pa_cons pe_str (pa_cons pe_non pa_nil))))) pss_nil)
      (px_cons (ps_setLc (i := 4) (own := [("channel", 5)]) rfl sc_Pipeline_init.nod rfl rfl (sw_true rfl rfl rfl (by decide +kernel)) (pi_tup (pv 3)) (blkOk_by (N := nn_Pipeline_init) (sc := defScope s_Pipeline_init) (own := [("channel", 5)]) (by decide +kernel))
            (fun _ _ _ _ _ => pg_name (i := 5) sc_Pipeline_init.nod rfl (Or.inl rfl)) (fun _ _ _ _ _ => pts_nil) (fun _ _ _ _ _ => pe_cd G3 (by exact hr) passL (pa_cons (pv 5) (pa_cons (pv 2) pa_nil))))
      (px_cons (ps_if (pt_val (pe_cd G4 hr psS (pa_cons (pv 4) pa_nil))) (pss_one (ps_raise rfl (takes_of rfl rfl rfl rfl) (pmk_x T hr (pa_cons pe_str (pa_cons pe_non pa_nil))))) pss_nil)
      (px_sup (i := 0) SP SZ G5 (hr.mono (by decide)) psS rfl (pa_cons (pv 1) (pa_cons (pv 4) pa_nil)) (px_of pss_nil))))))), ?_⟩
    refine ⟨_, rfl, N, mc, _, u1, rfl, cr, c1, _, _, _, rfl, nv _, _, rfl, ?_⟩
    rw [btw_in (by omega) (by omega)]
    refine iteF ⟨_, rfl, t, _, rfl, .inr (SqT.of ht), N, mc, _, u2, rfl, cr, c2, _, _, rfl, rfl, _, rfl, ?_⟩
    have hwl : ws.length = xs.length := hp.length.symm
    have q1 : decide ((120 : Int) < (ws.length : Int)) = false := by apply decide_eq_false; omega
    rw [q1]
    exact iteF ⟨_, rfl, _, rfl, n, t, xs, ws, m, rfl, ht, hp, hok, nd, by omega, fb, k⟩
  · obtain ⟨x, dx, n, xs, ws, m, rfl, hx, n1, n2, hp, hok, nd, hlen, fb, k⟩ := h
    refine ⟨[.ref x, .int n], ws, rfl, rfl, by rw [← hp.length]; exact line_of (by omega), fun p hp2 => ⟨x, dx, p, n, xs, ws, m, rfl, Same.new hp2 _ _ hx, n1, n2, upd_same, trix_same (Same.new hp2) hp, fun c hc => ⟨(hok c hc).1, (hok c hc).2.same (Same.new hp2)⟩, nd, hlen, fb, ErrX.on k (Same.new hp2)⟩⟩
theorem ok_Ring_bad {f cc C N CI g : Addr} {kV lr : Value} (F : SFun P K "__init__" "Ring.__init__" s_Ring_init f cc C kV) (B : Blt mg) (Z : NetK K mg N) (hL : mg "LEAST_RING" = some lr) (hL3 : RelV (.int 3) lr)
    (G2 : StaR P w K mg base N "is_capacity" 2 (spCap K)) (T : ExcR P w K mg base "InvalidNet" CI 1 2 flI) (SP : SupTxt P K mg C C g "__init__") (G5 : FnR P w K mg base (L2.CX P w) 2 g (spNetInit C)) : FnR P w K mg base (L2.CX P w) 4 f (spRingBad K C CI) := by
  refine FnR.imp (F.star (k := 3) (ps := ["self"]) (ks := []) (pv := "capacities") (kv := []) (kvV := []) (sp := spRingBadB K C CI) sc_Ring_init .nil rfl (fun doc pm an cdv ct => .of_eq fun u1 u2 hl => ?_) ⟨_, rfl, rfl⟩ rfl rfl (fun cdv A outer s H vs Q E hr SZ h => ?_)) (fun vs H Q E h => ?_)
  · match u1, u2, hl with
    | [a], [], _ => rfl
    | [a], r :: rs, _ => rfl
  · obtain ⟨x, dx, t, us, m, rfl, hx, ht, h3, h40, hk, ⟨⟨bv, hbv, hbad⟩, hgood⟩, k⟩ := h
    obtain ⟨mc, cr, ⟨u1, c1⟩, _, _, _⟩ := Z.cr
    -- slots 0 self, 1 capacities, 2 stages, 3 position, 4 capacity, 5 channels, 6 stage
    refine ⟨_, px_cons (ps_set (i := 2) sc_Ring_init.nod rfl (Or.inr rfl) (pe_callB call_len_seq (by rfl) B.len bt_len (pa_cons (pv 1) pa_nil)))
      (px_cons (ps_if (PW.pt (pw_or (pt_cmpR op_lt (pv 2) (pe_glob (v := .int 3) (by rfl) hL hL3) (nomark _)) (pw_or1 (pt_cmpR op_gt (pv 2) (ClX.pe_cval (pe_glob (v := .ref N) (by rfl) Z.gN rfl)) (nomark _))))) (pss_one (ps_raise rfl (takes_of rfl rfl rfl rfl) (pmk_x T hr (pa_cons pe_str (pa_cons pe_non pa_nil))))) pss_nil)
      (px_cons (ps_for (passes_of rfl) rfl (pi_et B.enum (pa_cons (pv 1) pa_nil)) (pg_tup rfl (pgs_cons (pg_name (i := 3) sc_Ring_init.nod rfl (Or.inl rfl)) (pgs_cons (pg_name (i := 4) sc_Ring_init.nod rfl (Or.inl rfl)) pgs_nil)))
        (pss_one (ps_if (pt_not (pt_val (pe_sta G2 (pe_glob (v := .ref N) (by rfl) Z.gN rfl) hr psS (pa_cons (pv 4) pa_nil)))) (pss_one (ps_raise rfl (takes_of rfl rfl rfl rfl) (pmk_x T hr (pa_cons pe_str (pa_cons (pv 3) pa_nil))))) pss_nil)))
      (px_cons (ps_setLc (i := 5) (own := [("stage", 6), ("capacity", 4)]) rfl sc_Ring_init.nod rfl rfl (sw_true rfl rfl rfl (by decide +kernel)) (pi_et B.enum (pa_cons (pv 1) pa_nil)) (blkOk_by (N := nn_Ring_init) (sc := defScope s_Ring_init) (own := [("stage", 6), ("capacity", 4)]) (by decide +kernel))
          (fun _ _ _ _ _ => pg_tupK (K := K) (n := 2) rfl (pgs_cons (pg_name (i := 6) sc_Ring_init.nod rfl (Or.inl rfl)) (pgs_cons (pg_name (i := 4) sc_Ring_init.nod rfl (Or.inl rfl)) pgs_nil))) (fun _ _ _ _ _ => pts_nil) (fun _ _ _ _ _ => pe_tup (pa_cons (pv 6) (pa_cons (pe_op op_modN (pe_op op_add (pv 6) pe_int) (pv 2)) (pa_cons (pv 4) pa_nil)))))
      (px_sup (i := 0) SP SZ G5 (hr.mono (by decide)) psS rfl (pa_cons (pv 2) (pa_cons (pv 5) pa_nil)) (px_of pss_nil))))), ?_⟩
    refine ⟨_, rfl, t, _, rfl, .inr (SqT.of ht), _, rfl, _, _, rfl, rfl, _, rfl, ?_⟩
    have q1 : decide ((us.length : Int) < 3) = false := by apply decide_eq_false; omega
    rw [q1]
    refine iteF ⟨_, rfl, N, mc, _, u1, rfl, cr, c1, _, _, rfl, rfl, _, rfl, ?_⟩
    have q2 : decide ((40 : Int) < (us.length : Int)) = false := by apply decide_eq_false; omega
    rw [q2]
    refine iteF ⟨_, rfl, t, _, rfl, SqT.of ht, for_it (walk_et (xs := us)) (fun i σ H2 => i ≤ m ∧ ∃ v3 v4, σ = [some (.ref x), some (.ref t), some (.int us.length), v3, v4, none, none] ∧ Same H H2) ⟨Nat.zero_le _, _, _, rfl, Same.refl H⟩ ?_ ?_ ?_⟩
    · rintro i σ H2 _ ⟨_, _, _, _, s2⟩
      exact SqT.of (s2 _ _ ht)
    · rintro i y σ H2 H3 hi ⟨him, v3, v4, rfl, s2⟩ ⟨T1, x1, y1, rfl, hT, rfl, e1, e2⟩
      cases e1
      have e2 : us[i]? = some y1 := e2
      have s3 : Same H (upd H2 T1 (.tup [.int (i : Nat), y1])) := s2.trans (Same.new hT)
      refine ⟨T1, _, rfl, SqT.of upd_same, rfl, _, _, rfl, _, _, rfl, rfl, rfl, _, rfl, _, rfl, (hk y1 (List.mem_of_getElem? e2)).same s3, _, rfl, ?_⟩
      cases hb : btw y1 1 999 with
      | false =>
        have e : i = m := by
          rcases Nat.lt_or_ge i m with z | z
          · rw [hgood i _ z e2] at hb
            cases hb
          · omega
        subst e
        exact iteT ⟨_, rfl, x_use rfl (by decide) (ErrX.new (ErrX.on k s3))⟩
      | true =>
        have him2 : i + 1 ≤ m := by
          rcases Nat.lt_or_ge i m with z | z
          · exact z
          · have e : i = m := by omega
            subst e
            rw [e2] at hbv
            cases hbv
            rw [hb] at hbad
            cases hbad
        exact iteF ⟨him2, _, _, rfl, s3⟩
    · rintro σ H2 ⟨him, _⟩
      have z := (List.getElem?_eq_some_iff.mp hbv).1
      omega
  · obtain ⟨x, dx, us, m, rfl, hx, h3, h40, hk, fb, k⟩ := h
    refine ⟨[.ref x], us, rfl, rfl, line_of (by omega), fun p hp => ⟨x, dx, p, us, m, rfl, Same.new hp _ _ hx, upd_same, h3, h40, fun u hu => (hk u hu).same (Same.new hp), fb, ErrX.on k (Same.new hp)⟩⟩
end
end WC

set_option maxHeartbeats 4000000
namespace WC
open PySem PySem.Spec PyProof.Rows L2
/-! errors of the nets that are known to have no context -/
theorem cxUpN {P : Program} {w : World} : StX.CXUp (L2N.CX P w) := by
  rintro outer s H s2 H2 E e s' un kp ho ⟨a, B, H', cls, d, ea, fl, hok, ub, na, os, ag, he⟩
  refine ⟨a, B, H', cls, d, ea, fl, hok, ⟨fun b o q n hb => ub.keep b o (kp b o q) (un.free b o q n (by simp)) hb, fun b o q hb => ub.slot b o (kp b o q) hb, fun b o q n => ub.free b o (kp b o q) (un.free b o q n (by simp)),
    fun b o q hb => ub.there b o (kp b o q) hb, fun b xs q => ub.tups b xs (un.tups b xs q), fun b o xs q => ub.frzs b o xs (un.frzs b o xs q), fun b ps q => ?_⟩, na, os.trans ho, ag, he⟩
  obtain ⟨m1, e1⟩ := un.tbls b ps q
  obtain ⟨m2, e2⟩ := ub.tbls b _ e1
  exact ⟨m1 ++ m2, by rw [e2, Array.append_assoc]⟩
theorem psEn {P : Program} {w : World} {K : PySem.W.Frag} {mg : Str → Option Value} {base : Heap} {N : List Str} {qual : Str} {sc : Scope} {f : Addr} {cd : Value} {A : Around} {outer : List Env} {s : Shared} {H : Hp} {E : XK} :
    Passes (L2N.CX P w) (cxOf (L2N.CX P w) P w K mg base N qual sc f cd A outer s H E) E := L2N.passes_call (L2N.takes_of rfl rfl rfl rfl) fun _ _ _ _ z => z
theorem psSn {P : Program} {w : World} {K : PySem.W.Frag} {mg : Str → Option Value} {base : Heap} {N : List Str} {qual : Str} {sc : Scope} {f cc : Addr} {cd : Value} {A : Around} {outer : List Env} {s : Shared} {H : Hp} {E : XK} :
    Passes (L2N.CX P w) (cxS (L2N.CX P w) P w K mg base N qual sc f cd cc A outer s H E) E := L2N.passes_call (L2N.takes_of rfl rfl rfl rfl) fun _ _ _ _ z => z
/-- what never raises -/
theorem FnR.toN {P : Program} {w : World} {K : PySem.W.Frag} {mg : Str → Option Value} {base : Heap} {k : Nat} {f : Addr} {sp : Sp} (F : FnR P w K mg base (L2.CX P w) k f sp) (h : ∀ vs H Q E, sp vs H Q E → sp vs H Q E0) : FnR P w K mg base (L2N.CX P w) k f sp := by
  intro A outer s H us vs Q E hr e0 r q
  refine codeAny_mono (F A outer s H us vs Q E0 hr e0 r (h _ _ _ _ q)) fun rr s' hq => ?_
  match rr, hq with
  | .error er, hq =>
    obtain ⟨_, _, _, _, _, _, _, _, _, _, _, _, z⟩ := hq
    exact z.elim
  | .ok (.ret u), hq => exact hq
  | .ok .next, hq => exact False.elim hq
  | .ok .brk, hq => exact False.elim hq
  | .ok .cont, hq => exact False.elim hq
theorem FnR.offN {P : Program} {w : World} {K : PySem.W.Frag} {mg : Str → Option Value} {base : Heap} {k : Nat} {f : Addr} {sp : Sp} (F : FnR P w K mg base (L2N.CX P w) k f sp) (h : ∀ vs H Q E, sp vs H Q E → sp vs H Q E0) : FnR P w K mg base (L2.CX P w) k f sp := by
  intro A outer s H us vs Q E hr e0 r q
  refine codeAny_mono (F A outer s H us vs Q E0 hr e0 r (h _ _ _ _ q)) fun rr s' hq => ?_
  match rr, hq with
  | .error er, hq =>
    obtain ⟨_, _, _, _, _, _, _, _, _, _, _, _, z⟩ := hq
    exact z.elim
  | .ok (.ret u), hq => exact hq
  | .ok .next, hq => exact False.elim hq
  | .ok .brk, hq => exact False.elim hq
  | .ok .cont, hq => exact False.elim hq
structure ClsN (P : Program) (w : World) (K : PySem.W.Frag) (mg : Str → Option Value) (base : Heap) (C : Addr) (k : Nat) (sp : Sp) : Prop where
  ex : ∃ f, Mk K C f ∧ FnR P w K mg base (L2N.CX P w) k f sp
structure MetN (P : Program) (w : World) (K : PySem.W.Frag) (mg : Str → Option Value) (base : Heap) (C : Addr) (m : Str) (k : Nat) (sp : Sp) : Prop where
  ex : ∃ f, Cls K C ∧ Meth K C m f ∧ FnR P w K mg base (L2N.CX P w) k f sp
section
variable {X : Cx} {j k : Nat} {C : Addr} {sp : Sp} {E : XK} {x m : Str} {e o : Expr} {es : List Expr} {t : TA} {ta te : TE} {p pos apos sp_ : Pos} {pl : Sem Bool}
theorem pe_cdn (D : DefN X.prog X.w X.K X.mg X.base x k sp) (hr : Room j X.A) (hx : Passes (L2N.CX X.prog X.w) X E) (ha : PA X (e :: es) t) (hle : k ≤ j := by decide) (hg : Gl X x := by rfl) (hdb : (x == ("__debug__" : Str)) = false := by decide)
    (he : starEach (e :: es) X.env = (false, eval e X.env) :: starEach es X.env := by rfl) (hpl : (backTo pos (starEach es X.env)).any (·.1) = false := by rfl) : PE X (.Call (.Name x p) (e :: es) [] pos) (tCallR sp E t) := by
  obtain ⟨f, hm, hk, F⟩ := D.ex
  refine ⟨fun pins s σ H Q I h => wpAny_Call_Name_kw (ld_glob I hg hm ?_ hdb)⟩
  exact PySem.W.callWith_K (h₀ := X.base) I.ok.mod.kin hk (thn (ha.run pos pins s σ H _ I h) fun us s1 ⟨vs, H1, I1, r, q⟩ => ⟨I1.kIn, wpAny_call (run_fnR F (hr.mono hle) hx I1 r q)⟩) he hpl
theorem pe_ccsn (D : ClsN X.prog X.w X.K X.mg X.base C k sp) (hm : X.mg x = some (.ref C)) (hr : Room j X.A) (hx : Passes (L2N.CX X.prog X.w) X E) (ha : PA X (e :: es) t) (hle : k + 1 ≤ j := by decide) (hg : Gl X x := by rfl) (hdb : (x == ("__debug__" : Str)) = false := by decide)
    (he : starEach (e :: es) X.env = (false, eval e X.env) :: starEach es X.env := by rfl) (hst : (backTo pos (starEach es X.env)).any (·.1) = true := by rfl) : PE X (.Call (.Name x p) (e :: es) [] pos) (StX.tMakeR C sp E t) := by
  obtain ⟨f, M, F⟩ := D.ex
  refine ⟨fun pins s σ H Q I h => wpAny_Call_Name_kw (ld_glob I hg hm ?_ hdb)⟩
  exact PySem.W.callWith_S2 (h₀ := X.base) I.ok.mod.kin M.kp (thn (ha.run pos pins s σ H _ I h) fun us s1 ⟨vs, H1, I1, r, q⟩ => ⟨I1.kIn, StX.run_makeR M F (hr.mono hle) hx I1 r q⟩) he hst
theorem pe_ccs1n (D : ClsN X.prog X.w X.K X.mg X.base C k sp) (hm : X.mg x = some (.ref C)) (hr : Room j X.A) (hx : Passes (L2N.CX X.prog X.w) X E) (he : PE X e te) (hle : k + 1 ≤ j := by decide) (hg : Gl X x := by rfl) (hdb : (x == ("__debug__" : Str)) = false := by decide)
    (hst : starEach [.Starred e sp_] X.env = [(true, eval e X.env)] := by rfl) : PE X (.Call (.Name x p) [.Starred e sp_] [] pos) (tMake1 X.K C sp E te) := by
  obtain ⟨f, M, F⟩ := D.ex
  refine ⟨fun pins s σ H Q I h => ?_⟩
  refine wpAny_Call_Name_kw (ld_glob I hg hm ?_ hdb)
  refine PySem.W.callWith_S (h₀ := X.base) I.ok.mod.kin M.kp (thn (he.run pins s σ H _ I h) fun v s1 ⟨y, H1, I1, ry, a, xs, ey, hxs, q⟩ => ?_) hst
  subst ey
  obtain rfl : v = Value.ref a := ry
  exact StX.star_any I1 hxs fun us s2 I2 rv => ⟨I2.kIn, StX.run_makeR M F (hr.mono hle) hx I2 rv q⟩
theorem pe_mtn (D : MetN X.prog X.w X.K X.mg X.base C m k sp) (ho : PE X o ta) (hr : Room j X.A) (hx : Passes (L2N.CX X.prog X.w) X E) (ha : PA X (e :: es) t) (hle : k ≤ j := by decide)
    (hst : starEach (e :: es) X.env = (false, eval e X.env) :: starEach es X.env := by rfl) (hpl : (backTo pos (starEach es X.env)).any (·.1) = false := by rfl)
    (ht : eval (.Call (.Attribute o m apos) (e :: es) [] pos) X.env = (do
      let ov ← eval o X.env
      standAt apos.atName
      let (f, first) ← holding [ov] (getMethod ov m pl)
      callWith pos f first (backTo pos (starEach (e :: es) X.env)) (backToKw pos (keywordEach [] X.env))) := by rfl) : PE X (.Call (.Attribute o m apos) (e :: es) [] pos) (tMeth C m sp [] E ta t) := by
  obtain ⟨f, c, hm, F⟩ := D.ex
  refine ⟨fun pins s σ H Q I h => ?_⟩
  refine PySem.W.methodCall_KW (pl := pl) (thn (ho.run pins s σ H _ I h) fun u s1 ⟨x, H1, I1, rx, a, dx, fs, ex, ea, l, q⟩ => ?_) ht
  subst ex
  obtain rfl : u = Value.ref a := rx
  refine getmeth_ok I1 ea c hm l ?_
  refine PySem.W.callWith_K (first := [.ref a]) (h₀ := X.base) I.ok.mod.kin hm.kp (thn (ha.run pos pins s1 σ H1 _ I1 q) fun us s2 ⟨vs, H2, I2, r, q2⟩ => ⟨I2.kIn, ?_⟩) hst hpl
  have q2 : sp (.ref a :: (vs ++ [])) H2 Q E := q2
  rw [List.append_nil] at q2
  exact wpAny_call (run_fnR (us := .ref a :: us) (vs := .ref a :: vs) F (hr.mono hle) hx I2 (.cons rfl r) q2)
theorem pe_mtn0 (D : MetN X.prog X.w X.K X.mg X.base C m k sp) (ho : PE X o ta) (hr : Room j X.A) (hx : Passes (L2N.CX X.prog X.w) X E) (hle : k ≤ j := by decide)
    (ht : eval (.Call (.Attribute o m apos) [] [] pos) X.env = (do
      let ov ← eval o X.env
      standAt apos.atName
      let (f, first) ← holding [ov] (getMethod ov m pl)
      callWith pos f first (backTo pos (starEach [] X.env)) (backToKw pos (keywordEach [] X.env))) := by rfl) : PE X (.Call (.Attribute o m apos) [] [] pos) (tMeth C m sp [] E ta tNil) := by
  obtain ⟨f, c, hm, F⟩ := D.ex
  refine ⟨fun pins s σ H Q I h => ?_⟩
  refine PySem.W.methodCall_KW (pl := pl) (thn (ho.run pins s σ H _ I h) fun u s1 ⟨x, H1, I1, rx, a, dx, fs, ex, ea, l, q⟩ => ?_) ht
  subst ex
  obtain rfl : u = Value.ref a := rx
  refine getmeth_ok I1 ea c hm l ?_
  have q : sp (.ref a :: ([] ++ [])) H1 Q E := q
  exact PySem.W.callWith_K0 (first := [.ref a]) I1.kIn hm.kp (wpAny_call (run_fnR (us := [.ref a]) (vs := [.ref a]) F (hr.mono hle) hx I1 (.cons rfl .nil) q))
end
section
variable {P : Program} {w : World} {K : PySem.W.Frag} {mg : Str → Option Value} {base : Heap} {k : Nat} {f cc D : Addr} {x qual : Str} {st : Stmt} {kV : Value} {N ps ks : List Str} {sp : Sp} {pv : Str} {kvV : List V} {kv : List Value}
theorem SFun.starN (F : SFun P K x qual st f cc D kV) (S : CScope N (ps ++ ks ++ [pv]) (defScope st)) (hkv : Vals kvV kv) (hks : kv.length = ks.length)
    (hb : ∀ (doc pm : Value) (an : Option Addr) (cdv ct : Value), BindStar K (PySem.W.fnX x qual (defArgs st) (defBody st) (defScope st) [(cls_, cc)] .none kV doc pm an cdv ct) ps ks kv pv)
    (hp : ∃ ar : Arg, ((defArgs st).posonlyargs ++ (defArgs st).args).head? = some ar ∧ ar.arg = ("self" : Str)) (h1 : (defScope st).names.lookup ("super" : Str) = some .globalImplicit) (h2 : (defScope st).names.lookup ("self" : Str) = some .local)
    (hbody : ∀ (cdv : Value) (A : Around) (outer : List Env) (s : Shared) (H : Hp) (vs : List V) (Q : VK) (E : XK), Room k (A.deeper (envS qual (defScope st) s.heap.objs.size f cdv cc)) → SelfTxt P K (envS qual (defScope st) s.heap.objs.size f cdv cc) D "self" → sp vs H Q E →
      ∃ t, PX (cxS (L2N.CX P w) P w K mg base N qual (defScope st) f cdv cc A outer s H E) (.func (defBody st) (envS qual (defScope st) s.heap.objs.size f cdv cc)) (defBody st) t ∧ t { nx := fun _ H' => Q .non H', rt := Q } (L2.start N vs) H) :
    FnR P w K mg base (L2N.CX P w) (k + 1) f (fun vs H Q E => ∃ ws rest, vs = ws ++ rest ∧ ws.length = ps.length ∧ rest.length ≤ sizeLine ∧ ∀ p, H p = none → sp (ws ++ kvV ++ [V.ref p]) (upd H p (.tup rest)) Q E) := by
  obtain ⟨oc, od, doc, pm, an, cda, ct, osl, kc, dc, lc, oc1, oc2, cvs, oc3, file, tf, lk, hcd, hcc, hca, hvs, hfile⟩ := F.ex
  obtain ⟨ar, har, hs⟩ := hp
  refine fn_starS lk hcd hcc S cxUpN (hb doc pm an (.ref cda) ct) hkv hks fun A outer s H vs Q E hr hsp => hbody (.ref cda) A outer s H vs Q E hr ?_ hsp
  exact ⟨h1, S.frc, h2, ⟨cc, kc, dc, lc, look_cls S _ _, hcc⟩, ⟨f, oc, od, _, osl, ar, rfl, lk, har, hs⟩, ⟨cda, oc1, oc2, cvs, oc3, file, tf, rfl, hca, hvs, hfile⟩⟩
end
section
variable {P : Program} {w : World} {K : PySem.W.Frag} {mg : Str → Option Value} {base : Heap}
theorem ok_check_bad_N {f N CI : Addr} {fd : FuncData} (F : Fun K "_check_channels" "_check_channels" s_check_channels f fd) (B : Blt mg) (Z : NetK K mg N) (G1 : DefR P w K mg base "_joins_two_stages" 2 (spJoinsX K)) (G2 : StaR P w K mg base N "is_capacity" 2 (spCap K))
    (T : ExcR P w K mg base "InvalidNet" CI 1 2 flI) : FnOk P w K mg base (L2N.CX P w) 3 f fd ["stages", "channels"] (spCheckBad K CI) := by
  refine okN F sc_check_channels (fun vs H Q E h => ?_) (fun cdv A outer s H vs Q E hr h => ?_)
  · obtain ⟨n, t, xs, ws, m, rfl, _⟩ := h
    rfl
  · obtain ⟨n, t, cs, ws, m, rfl, ht, hp, hok, nd, hlen, ⟨⟨bv, hbv, hbad⟩, hgood⟩, k⟩ := h
    have hu := hu_of hr
    -- slots 0 stages, 1 channels, 2 earlier, 3 position, 4 channel
    refine ⟨_, pss_cons (ps_set (i := 2) sc_check_channels.nd rfl (Or.inl rfl) pe_dnewT)
      (pss_one (ps_for (passes_of rfl) rfl (pi_et B.enum (pa_cons (pv 1) pa_nil)) (pg_tup rfl (pgs_cons (pg_name (i := 3) sc_check_channels.nd rfl (Or.inl rfl)) (pgs_cons (pg_name (i := 4) sc_check_channels.nd rfl (Or.inl rfl)) pgs_nil)))
        (pss_cons (ps_if (pt_not (pt_val (pe_cd G1 hr passL (pa_cons (pv 0) (pa_cons (pv 4) pa_nil))))) (pss_one (L2N.ps_raise rfl (L2N.takes_of rfl rfl rfl rfl) (pmk_xN T hr (pa_cons pe_str (pa_cons (pv 3) pa_nil))))) pss_nil)
        (pss_cons (ps_if (PW.pt (pw_and (pt_cmpR op_eq (pe_callB call_len_seq (by rfl) B.len bt_len (pa_cons (pv 4) pa_nil)) pe_int (nomark _)) (pw_and1 (pt_not (pt_val (pe_sta G2 (pe_glob (v := .ref N) (by rfl) Z.gN rfl) hr passL (pa_cons (pe_ix ix_tup (pv 4) pe_int (fun _ _ => rfl)) pa_nil))))))) (pss_one (L2N.ps_raise rfl (L2N.takes_of rfl rfl rfl rfl) (pmk_xN T hr (pa_cons pe_str (pa_cons (pv 3) pa_nil))))) pss_nil)
        (pss_cons (ps_if (pt_cmp (pc_din hu (pe_slice sl_tup (pv 4) po_none (po_some pe_int)) (pv 2))) (pss_one (L2N.ps_raise rfl (L2N.takes_of rfl rfl rfl rfl) (pmk_xN T hr (pa_cons pe_str (pa_cons (pv 3) pa_nil))))) pss_nil)
        (pss_one (ps_dput hu (pv 2) (pe_slice sl_tup (pv 4) po_none (po_some pe_int)) pe_bl rfl))))))), ?_⟩
    intro d hd
    refine ⟨_, rfl, t, ws, rfl, SqT.of (by rw [upd_ne (ne_of_none ht hd)]; exact ht), for_it (walk_et (xs := ws)) (fun i σ H2 => i ≤ m ∧ ∃ v3 v4, σ = [some (.int n), some (.ref t), some (.ref d), v3, v4] ∧ Same H H2 ∧ ∃ kvs : List (List Key × V), H2 d = some (.dT kvs) ∧ kvs.length ≤ i ∧ ∀ a b, (valV kvs [Sum.inl a, Sum.inl b]).isSome = true → ∃ c ∈ cs.take i, pairX c = (a, b))
      ⟨Nat.zero_le _, _, _, rfl, Same.new hd, [], upd_same, by simp, fun a b z => by simp [valV] at z⟩ ?_ ?_ ?_⟩
    · rintro i σ H2 _ ⟨_, _, _, _, s2, _⟩
      exact SqT.of (s2 _ _ ht)
    · rintro i x σ H2 H3 hi ⟨him, v3, v4, rfl, s2, kvs, k1, k2, k3⟩ ⟨T1, x1, y1, rfl, hT, rfl, e1, e2⟩
      cases e1
      obtain ⟨c, hc, t1, rfl, ht1⟩ := pr_at hp e2
      have ilt := (List.getElem?_eq_some_iff.mp hc).1
      obtain ⟨cok, ckn⟩ := hok c (List.mem_of_getElem? hc)
      have hcv : (cs.map fun c => c.2.2)[i]? = some c.2.2 := by rw [List.getElem?_map, hc]; rfl
      have s3 : Same H2 (upd H2 T1 (.tup [.int (i : Nat), .ref t1])) := Same.new hT
      have ht3 := s3 _ _ (s2 _ _ ht1)
      refine ⟨T1, _, rfl, SqT.of upd_same, rfl, _, _, rfl, _, _, rfl, rfl, _, rfl, _, rfl, n, _, c, rfl, ⟨t1, rfl, ht3⟩, cok, fun H4 s4 => ⟨_, rfl, ?_⟩⟩
      have ht4 := s4 _ _ ht3
      have s04 : Same H H4 := s2.trans (s3.trans s4)
      refine iteF ⟨_, rfl, t1, _, rfl, .inr (SqT.of ht4), rfl, _, rfl, ?_⟩
      refine iteT ⟨rfl, _, rfl, t1, _, _, _, rfl, rfl, SqT.of ht4, atI_nat (j := 2) rfl, _, rfl, ckn.same s04, _, rfl, ?_⟩
      cases hb : btw c.2.2 1 999 with
      | false =>
        have e : i = m := by
          rcases Nat.lt_or_ge i m with z | z
          · rw [hgood i _ z hcv] at hb
            cases hb
          · omega
        subst e
        exact iteT ⟨_, rfl, x_use rfl (by decide) (ErrX.new (ErrX.on k s04))⟩
      | true =>
      have him2 : i + 1 ≤ m := by
        rcases Nat.lt_or_ge i m with z | z
        · exact z
        · have e : i = m := by omega
          subst e
          rw [hcv] at hbv
          cases hbv
          rw [hb] at hbad
          cases hbad
      refine iteF ⟨_, rfl, _, rfl, t1, _, rfl, SqT.of ht4, cut2n, fun q hq => ?_⟩
      rw [cut2]
      have kd : H4 d = some (.dT kvs) := s4 _ _ (s3 _ _ k1)
      have s5 : Same H4 (upd H4 q (.tup [.int c.1, .int c.2.1])) := Same.new hq
      refine ⟨_, rfl, d, _, rfl, DGet.t (k := [Sum.inl c.1, Sum.inl c.2.1]) (s5 _ _ kd) upd_same, _, rfl, ?_⟩
      cases hv : valV kvs [Sum.inl c.1, Sum.inl c.2.1] with
      | some v =>
        obtain ⟨c2, m2, p2⟩ := k3 c.1 c.2.1 (by rw [hv]; rfl)
        exfalso
        obtain ⟨j, hj⟩ := List.mem_iff_getElem?.mp m2
        have jl : j < i := by
          have q1 := (List.getElem?_eq_some_iff.mp hj).1
          rw [List.length_take] at q1
          omega
        rw [List.getElem?_take_of_lt jl] at hj
        have a1 : (cs.map pairX)[j]? = some (c.1, c.2.1) := by rw [List.getElem?_map, hj]; exact congrArg some p2
        have a2 : (cs.map pairX)[i]? = some (c.1, c.2.1) := by rw [List.getElem?_map, hc]; rfl
        have a3 := (List.getElem?_inj (by rw [List.length_map]; omega) nd).mp (a1.trans a2.symm)
        omega
      | none =>
        refine iteF ⟨_, rfl, _, rfl, _, rfl, t1, _, rfl, SqT.of (s5 _ _ ht4), cut2n, fun q2 hq2 => ?_⟩
        rw [cut2]
        have s6 : Same (upd H4 q (.tup [.int c.1, .int c.2.1])) (upd (upd H4 q (.tup [.int c.1, .int c.2.1])) q2 (.tup [.int c.1, .int c.2.1])) := Same.new hq2
        refine ⟨d, _, rfl, DPut.t (k := [Sum.inl c.1, Sum.inl c.2.1]) (s6 _ _ (s5 _ _ kd)) upd_same (line_lt (by omega)), him2, _, _, rfl, ?_, _, upd_same, ?_, ?_⟩
        · exact Same.newer (s2.trans (s3.trans (s4.trans (s5.trans s6)))) hd
        · exact Nat.le_trans (pk_len _ _ _) (by omega)
        · intro a b z
          rw [valV_put] at z
          rw [take_snoc hc]
          by_cases e : ([Sum.inl a, Sum.inl b] : List Key) = [Sum.inl c.1, Sum.inl c.2.1]
          · have e2 : a = c.1 ∧ b = c.2.1 := by simpa using e
            exact ⟨c, by simp, by rw [e2.1, e2.2]; rfl⟩
          · rw [if_neg e] at z
            obtain ⟨c2, m2, p2⟩ := k3 a b z
            exact ⟨c2, List.mem_append_left _ m2, p2⟩
    · rintro σ H2 ⟨him, _⟩
      have z := (List.getElem?_eq_some_iff.mp hbv).1
      rw [List.length_map] at z
      have := hp.length
      omega
theorem ok_Pipeline_bad_N {f cc C N CI g : Addr} {Dk : Addr} {u : Value} (F : SFun P K "__init__" "Pipeline.__init__" s_Pipeline_init f cc C (.ref Dk)) (hD : PySem.W.nsIn K Dk "capacity" = some (some u)) (hu1 : RelV (.int 1) u) (B : Blt mg) (Z : NetK K mg N)
    (G0 : DefR P w K mg base "is_between" 1 (spBtw K)) (G1 : DefN P w K mg base "_check_channels" 3 (spCheckBad K CI)) (G2 : StaR P w K mg base N "is_capacity" 2 (spCap K)) (G3 : DefR P w K mg base "_with_capacity" 1 spWith) (G4 : DefR P w K mg base "has_circle" 1 spNoCircle)
    (T : ExcR P w K mg base "InvalidNet" CI 1 2 flI) (SP : SupTxt P K mg C C g "__init__") (G5 : FnR P w K mg base (L2.CX P w) 2 g (spNetInit C)) : FnR P w K mg base (L2N.CX P w) 4 f (spPipeBad K C CI) := by
  refine FnR.imp (F.starN (k := 3) (ps := ["self", "stages"]) (ks := ["capacity"]) (pv := "channels") (kv := [u]) (kvV := [.int 1]) (sp := spPipeBadB K C CI) sc_Pipeline_init (.cons hu1 .nil) rfl (fun doc pm an cdv ct => BindStar.of_kw hD fun u1 u2 hl => ?_) ⟨_, rfl, rfl⟩ rfl rfl (fun cdv A outer s H vs Q E hr SZ h => ?_)) (fun vs H Q E h => ?_)
  · match u1, u2, hl with
    | [a, b], [], _ => exact ⟨_, _, _, _, _, _, rfl, rfl, rfl⟩
    | [a, b], r :: rs, _ => exact ⟨_, _, _, _, _, _, rfl, rfl, rfl⟩
  · obtain ⟨x, dx, t, n, xs, ws, m, rfl, hx, n1, n2, ht, hp, hok, nd, hlen, fb, k⟩ := h
    obtain ⟨mc, cr, ⟨u1, c1⟩, ⟨u2, c2⟩, _, _⟩ := Z.cr
    -- slots 0 self, 1 stages, 2 capacity, 3 channels, 4 triples, 5 channel
    refine ⟨_, px_cons (ps_if (pt_not (pt_val (pe_cd G0 hr passL (pa_cons (pv 1) (pa_cons pe_int (pa_cons (ClX.pe_cval (pe_glob (v := .ref N) (by rfl) Z.gN rfl)) pa_nil)))))) (pss_one (L2N.ps_raise rfl (L2N.takes_of rfl rfl rfl rfl) (pmk_xN T hr (pa_cons pe_str (pa_cons pe_non pa_nil))))) pss_nil)
      (px_cons (ps_if (pt_cmpR op_gt (pe_callB call_len_seq (by rfl) B.len bt_len (pa_cons (pv 3) pa_nil)) (ClX.pe_cval (pe_glob (v := .ref N) (by rfl) Z.gN rfl)) (nomark _)) (pss_one (L2N.ps_raise rfl (L2N.takes_of rfl rfl rfl rfl) (pmk_xN T hr (pa_cons pe_str (pa_cons pe_non pa_nil))))) pss_nil)
      (px_cons (ps_expr (pe_cdn G1 hr psSn (pa_cons (pv 1) (pa_cons (pv 3) pa_nil))))
      (px_cons (ps_if (pt_not (pt_val (pe_sta G2 (pe_glob (v := .ref N) (by rfl) Z.gN rfl) hr passL (pa_cons (pv 2) pa_nil)))) (pss_one (L2N.ps_raise rfl (L2N.takes_of rfl rfl rfl rfl) (pmk_xN T hr (pa_cons pe_str (pa_cons pe_non pa_nil))))) pss_nil)
      (px_cons (ps_setLc (i := 4) (own := [("channel", 5)]) rfl sc_Pipeline_init.nod rfl rfl (sw_true rfl rfl rfl (by decide +kernel)) (pi_tup (pv 3)) (blkOk_by (N := nn_Pipeline_init) (sc := defScope s_Pipeline_init) (own := [("channel", 5)]) (by decide +kernel))
            (fun _ _ _ _ _ => pg_name (i := 5) sc_Pipeline_init.nod rfl (Or.inl rfl)) (fun _ _ _ _ _ => pts_nil) (fun _ _ _ _ _ => pe_cd G3 (by exact hr) passL (pa_cons (pv 5) (pa_cons (pv 2) pa_nil))))
      (px_cons (ps_if (pt_val (pe_cd G4 hr passL (pa_cons (pv 4) pa_nil))) (pss_one (L2N.ps_raise rfl (L2N.takes_of rfl rfl rfl rfl) (pmk_xN T hr (pa_cons pe_str (pa_cons pe_non pa_nil))))) pss_nil)
      (px_sup (i := 0) SP SZ G5 (hr.mono (by decide)) passL rfl (pa_cons (pv 1) (pa_cons (pv 4) pa_nil)) (px_of pss_nil))))))), ?_⟩
    refine ⟨_, rfl, N, mc, _, u1, rfl, cr, c1, _, _, _, rfl, nv _, _, rfl, ?_⟩
    rw [btw_in (by omega) (by omega)]
    refine iteF ⟨_, rfl, t, _, rfl, .inr (SqT.of ht), N, mc, _, u2, rfl, cr, c2, _, _, rfl, rfl, _, rfl, ?_⟩
    have hwl : ws.length = xs.length := hp.length.symm
    have q1 : decide ((120 : Int) < (ws.length : Int)) = false := by apply decide_eq_false; omega
    rw [q1]
    exact iteF ⟨_, rfl, _, rfl, n, t, xs, ws, m, rfl, ht, hp, hok, nd, by omega, fb, k⟩
  · obtain ⟨x, dx, n, xs, ws, m, rfl, hx, n1, n2, hp, hok, nd, hlen, fb, k⟩ := h
    refine ⟨[.ref x, .int n], ws, rfl, rfl, by rw [← hp.length]; exact line_of (by omega), fun p hp2 => ⟨x, dx, p, n, xs, ws, m, rfl, Same.new hp2 _ _ hx, n1, n2, upd_same, trix_same (Same.new hp2) hp, fun c hc => ⟨(hok c hc).1, (hok c hc).2.same (Same.new hp2)⟩, nd, hlen, fb, ErrX.on k (Same.new hp2)⟩⟩
theorem ok_Ring_bad_N {f cc C N CI g : Addr} {kV lr : Value} (F : SFun P K "__init__" "Ring.__init__" s_Ring_init f cc C kV) (B : Blt mg) (Z : NetK K mg N) (hL : mg "LEAST_RING" = some lr) (hL3 : RelV (.int 3) lr)
    (G2 : StaR P w K mg base N "is_capacity" 2 (spCap K)) (T : ExcR P w K mg base "InvalidNet" CI 1 2 flI) (SP : SupTxt P K mg C C g "__init__") (G5 : FnR P w K mg base (L2.CX P w) 2 g (spNetInit C)) : FnR P w K mg base (L2N.CX P w) 4 f (spRingBad K C CI) := by
  refine FnR.imp (F.starN (k := 3) (ps := ["self"]) (ks := []) (pv := "capacities") (kv := []) (kvV := []) (sp := spRingBadB K C CI) sc_Ring_init .nil rfl (fun doc pm an cdv ct => .of_eq fun u1 u2 hl => ?_) ⟨_, rfl, rfl⟩ rfl rfl (fun cdv A outer s H vs Q E hr SZ h => ?_)) (fun vs H Q E h => ?_)
  · match u1, u2, hl with
    | [a], [], _ => rfl
    | [a], r :: rs, _ => rfl
  · obtain ⟨x, dx, t, us, m, rfl, hx, ht, h3, h40, hk, ⟨⟨bv, hbv, hbad⟩, hgood⟩, k⟩ := h
    obtain ⟨mc, cr, ⟨u1, c1⟩, _, _, _⟩ := Z.cr
    -- slots 0 self, 1 capacities, 2 stages, 3 position, 4 capacity, 5 channels, 6 stage
    refine ⟨_, px_cons (ps_set (i := 2) sc_Ring_init.nod rfl (Or.inr rfl) (pe_callB call_len_seq (by rfl) B.len bt_len (pa_cons (pv 1) pa_nil)))
      (px_cons (ps_if (PW.pt (pw_or (pt_cmpR op_lt (pv 2) (pe_glob (v := .int 3) (by rfl) hL hL3) (nomark _)) (pw_or1 (pt_cmpR op_gt (pv 2) (ClX.pe_cval (pe_glob (v := .ref N) (by rfl) Z.gN rfl)) (nomark _))))) (pss_one (L2N.ps_raise rfl (L2N.takes_of rfl rfl rfl rfl) (pmk_xN T hr (pa_cons pe_str (pa_cons pe_non pa_nil))))) pss_nil)
      (px_cons (ps_for (passes_of rfl) rfl (pi_et B.enum (pa_cons (pv 1) pa_nil)) (pg_tup rfl (pgs_cons (pg_name (i := 3) sc_Ring_init.nod rfl (Or.inl rfl)) (pgs_cons (pg_name (i := 4) sc_Ring_init.nod rfl (Or.inl rfl)) pgs_nil)))
        (pss_one (ps_if (pt_not (pt_val (pe_sta G2 (pe_glob (v := .ref N) (by rfl) Z.gN rfl) hr passL (pa_cons (pv 4) pa_nil)))) (pss_one (L2N.ps_raise rfl (L2N.takes_of rfl rfl rfl rfl) (pmk_xN T hr (pa_cons pe_str (pa_cons (pv 3) pa_nil))))) pss_nil)))
      (px_cons (ps_setLc (i := 5) (own := [("stage", 6), ("capacity", 4)]) rfl sc_Ring_init.nod rfl rfl (sw_true rfl rfl rfl (by decide +kernel)) (pi_et B.enum (pa_cons (pv 1) pa_nil)) (blkOk_by (N := nn_Ring_init) (sc := defScope s_Ring_init) (own := [("stage", 6), ("capacity", 4)]) (by decide +kernel))
          (fun _ _ _ _ _ => pg_tupK (K := K) (n := 2) rfl (pgs_cons (pg_name (i := 6) sc_Ring_init.nod rfl (Or.inl rfl)) (pgs_cons (pg_name (i := 4) sc_Ring_init.nod rfl (Or.inl rfl)) pgs_nil))) (fun _ _ _ _ _ => pts_nil) (fun _ _ _ _ _ => pe_tup (pa_cons (pv 6) (pa_cons (pe_op op_modN (pe_op op_add (pv 6) pe_int) (pv 2)) (pa_cons (pv 4) pa_nil)))))
      (px_sup (i := 0) SP SZ G5 (hr.mono (by decide)) passL rfl (pa_cons (pv 2) (pa_cons (pv 5) pa_nil)) (px_of pss_nil))))), ?_⟩
    refine ⟨_, rfl, t, _, rfl, .inr (SqT.of ht), _, rfl, _, _, rfl, rfl, _, rfl, ?_⟩
    have q1 : decide ((us.length : Int) < 3) = false := by apply decide_eq_false; omega
    rw [q1]
    refine iteF ⟨_, rfl, N, mc, _, u1, rfl, cr, c1, _, _, rfl, rfl, _, rfl, ?_⟩
    have q2 : decide ((40 : Int) < (us.length : Int)) = false := by apply decide_eq_false; omega
    rw [q2]
    refine iteF ⟨_, rfl, t, _, rfl, SqT.of ht, for_it (walk_et (xs := us)) (fun i σ H2 => i ≤ m ∧ ∃ v3 v4, σ = [some (.ref x), some (.ref t), some (.int us.length), v3, v4, none, none] ∧ Same H H2) ⟨Nat.zero_le _, _, _, rfl, Same.refl H⟩ ?_ ?_ ?_⟩
    · rintro i σ H2 _ ⟨_, _, _, _, s2⟩
      exact SqT.of (s2 _ _ ht)
    · rintro i y σ H2 H3 hi ⟨him, v3, v4, rfl, s2⟩ ⟨T1, x1, y1, rfl, hT, rfl, e1, e2⟩
      cases e1
      have e2 : us[i]? = some y1 := e2
      have s3 : Same H (upd H2 T1 (.tup [.int (i : Nat), y1])) := s2.trans (Same.new hT)
      refine ⟨T1, _, rfl, SqT.of upd_same, rfl, _, _, rfl, _, _, rfl, rfl, rfl, _, rfl, _, rfl, (hk y1 (List.mem_of_getElem? e2)).same s3, _, rfl, ?_⟩
      cases hb : btw y1 1 999 with
      | false =>
        have e : i = m := by
          rcases Nat.lt_or_ge i m with z | z
          · rw [hgood i _ z e2] at hb
            cases hb
          · omega
        subst e
        exact iteT ⟨_, rfl, x_use rfl (by decide) (ErrX.new (ErrX.on k s3))⟩
      | true =>
        have him2 : i + 1 ≤ m := by
          rcases Nat.lt_or_ge i m with z | z
          · exact z
          · have e : i = m := by omega
            subst e
            rw [e2] at hbv
            cases hbv
            rw [hb] at hbad
            cases hbad
        exact iteF ⟨him2, _, _, rfl, s3⟩
    · rintro σ H2 ⟨him, _⟩
      have z := (List.getElem?_eq_some_iff.mp hbv).1
      omega
  · obtain ⟨x, dx, us, m, rfl, hx, h3, h40, hk, fb, k⟩ := h
    refine ⟨[.ref x], us, rfl, rfl, line_of (by omega), fun p hp => ⟨x, dx, p, us, m, rfl, Same.new hp _ _ hx, upd_same, h3, h40, fun u hu => (hk u hu).same (Same.new hp), fb, ErrX.on k (Same.new hp)⟩⟩
end
end WC

set_option maxHeartbeats 4000000
namespace WC
open PySem PySem.Spec PyProof.Rows L2 L2H
theorem c_lst {X : Cx} {K : PySem.W.Frag} (h : X.K = K := by rfl) : CallR X (.type "list") (fun xs H Q => ∃ p ys, xs = [V.ref p] ∧ (SqL K H p ys ∨ SqT K H p ys) ∧ ∀ l : Addr, H l = none → Q (V.ref l) (upd H l (.lst ys))) := by
  subst h
  exact call_list_of
theorem bt_verr : bootBuiltins "ValueError" = some (.type "ValueError") := by decide +kernel
theorem fldm {m : Str} {a b c d : V} (h : (m == ("stages" : Str)) = false ∧ (m == ("channels" : Str)) = false ∧ (m == ("_incoming" : Str)) = false ∧ (m == ("_outgoing" : Str)) = false) : List.lookup m [(("stages" : Str), a), (("channels" : Str), b), (("_incoming" : Str), c), (("_outgoing" : Str), d)] = none := by
  simp only [List.lookup_cons, h.1, h.2.1, h.2.2.1, h.2.2.2, List.lookup_nil]
theorem good_ints : ∀ {us : List V}, (∀ u ∈ us, btw u 1 999 = true) → ∃ ns : List Int, us = ns.map V.int ∧ SzOk ns
  | [], _ => ⟨[], rfl, fun c hc => by cases hc⟩
  | u :: us, h => by
    obtain ⟨ns, e, z⟩ := good_ints (us := us) fun v hv => h v (List.mem_cons_of_mem _ hv)
    have hu := h u List.mem_cons_self
    cases u with
    | int i =>
      simp only [btw, Bool.and_eq_true, decide_eq_true_eq] at hu
      refine ⟨i :: ns, by rw [e]; rfl, fun c hc => ?_⟩
      rcases List.mem_cons.mp hc with e2 | e2
      · rw [e2]; exact hu
      · exact z c e2
    | _ => cases hu
structure ErrK (K : PySem.W.Frag) (mg : Str → Option Value) (CN CI : Addr) : Prop where
  gN : mg "NotFound" = some (.ref CN)
  gI : mg "InvalidNet" = some (.ref CI)
  iI : PySem.W.exmOne K (.ref CI) (.ref CI) = some true
  nN : PySem.W.exmOne K (.ref CN) (.ref CN) = some true
  ic : ExcC K CI
  nc : ExcC K CN
  ixf : XfC K CI
  nxf : XfC K CN
  kIN : PySem.W.kitOne K (.ref CI) (.ref CN) = some false
  kNI : PySem.W.kitOne K (.ref CN) (.ref CI) = some false
  rea : PySem.W.findIn K (.ref CI) "reason" = some none
  pos : PySem.W.findIn K (.ref CI) "position" = some none
  num : PySem.W.findIn K (.ref CN) "number" = some none
theorem lk_pos {a b : V} : List.lookup ("position" : Str) [(("position" : Str), a), (("reason" : Str), b)] = some a := rfl
theorem lk_rea {a b : V} : List.lookup ("reason" : Str) [(("position" : Str), a), (("reason" : Str), b)] = some b := by
  have h : (("reason" : Str) == ("position" : Str)) = false := by decide +kernel
  simp [List.lookup, h]
def KC (CP CR C : Addr) (ring : Bool) : Prop := (C = CP ∧ ring = false) ∨ (C = CR ∧ ring = true)
theorem btw_st {n : Nat} (h : 40 < n) : btw (.int n) 1 40 = false := by
  simp only [btw, Bool.and_eq_false_iff, decide_eq_false_iff_not]
  omega
theorem good_or : ∀ us : List V, (∀ u ∈ us, btw u 1 999 = true) ∨ ∃ m, FirstBad us m
  | [] => .inl fun u hu => by cases hu
  | u :: us => by
    cases e : btw u 1 999 with
    | false => exact .inr ⟨0, ⟨u, rfl, e⟩, fun j v hj _ => absurd hj (Nat.not_lt_zero _)⟩
    | true =>
      rcases good_or us with h | ⟨m, ⟨v, hv, hb⟩, h⟩
      · refine .inl fun v hv => ?_
        rcases List.mem_cons.mp hv with z | z
        · rw [z]; exact e
        · exact h v z
      · refine .inr ⟨m + 1, ⟨v, hv, hb⟩, fun j w hj hw => ?_⟩
        cases j with
        | zero => cases hw; exact e
        | succ j => exact h j w (by omega) hw
section
variable {X : Cx} {CX : CXT} {i j k : Nat} {C p g : Addr} {mc : Value} {sp : Sp} {E : XK} {x m : Str} {o e : Expr} {es : List Expr} {ta : TE} {t : TA} {p_ pos apos : Pos} {pl : Sem Bool}
theorem pe_cc0n (D : ClsN X.prog X.w X.K X.mg X.base C k sp) (hm : X.mg x = some (.ref C)) (hr : Room j X.A) (hx : Passes (L2N.CX X.prog X.w) X E) (hle : k + 1 ≤ j := by decide) (hg : Gl X x := by rfl) (hdb : (x == ("__debug__" : Str)) = false := by decide) : PE X (.Call (.Name x p_) [] [] pos) (StX.tMakeR C sp E tNil) := by
  obtain ⟨f, M, F⟩ := D.ex
  refine ⟨fun pins s σ H Q I h => ?_⟩
  refine wpAny_Call_Name_kw (ld_glob I hg hm ?_ hdb)
  exact PySem.W.callWith_K0 I.kIn M.kp (StX.run_makeR (us := []) M F (hr.mono hle) hx I .nil h)
theorem pe_ccn (D : ClsN X.prog X.w X.K X.mg X.base C k sp) (hm : X.mg x = some (.ref C)) (hr : Room j X.A) (hx : Passes (L2N.CX X.prog X.w) X E) (ha : PA X (e :: es) t) (hle : k + 1 ≤ j := by decide) (hg : Gl X x := by rfl) (hdb : (x == ("__debug__" : Str)) = false := by decide)
    (he : starEach (e :: es) X.env = (false, eval e X.env) :: starEach es X.env := by rfl) (hpl : (backTo pos (starEach es X.env)).any (·.1) = false := by rfl) : PE X (.Call (.Name x p_) (e :: es) [] pos) (StX.tMakeR C sp E t) := by
  obtain ⟨f, M, F⟩ := D.ex
  exact StX.pe_makeR M F (hr.mono hle) hg hm hx ha hdb he hpl
theorem pe_clsn (D : ClsN X.prog X.w X.K X.mg X.base C k sp) (hN : X.N[i]? = some x) (hv : Vis X.env.scope x) (hr : Room j X.A) (hx : Passes (L2N.CX X.prog X.w) X E) (ha : PA X (e :: es) t) (hle : k + 1 ≤ j := by decide) (hdb : (x == ("__debug__" : Str)) = false := by decide)
    (hcd : (x == ("__classdict__" : Str)) = false := by decide)
    (he : starEach (e :: es) X.env = (false, eval e X.env) :: starEach es X.env := by rfl) (hst : (backTo pos (starEach es X.env)).any (·.1) = true := by rfl) : PE X (.Call (.Name x p_) (e :: es) [] pos) (tMakeL i C sp E t) := by
  obtain ⟨f, M, F⟩ := D.ex
  refine ⟨fun pins s σ H Q I h => ?_⟩
  obtain ⟨hs, ht⟩ := h
  refine wpAny_Call_Name_kw (thn ((pe_var (pos := p_) hN hv hdb hcd).run pins s σ H (fun v H1 => v = .ref C ∧ H1 = H) I ⟨_, hs, rfl, rfl⟩) fun u s1 ⟨v, H1, I1, r1, ev, eH⟩ => ?_)
  subst ev eH
  cases r1
  exact PySem.W.callWith_S2 (h₀ := X.base) I.ok.mod.kin M.kp (thn (ha.run pos pins s1 σ _ _ I1 ht) fun us s2 ⟨vs, H2, I2, r, q⟩ => ⟨I2.kIn, StX.run_makeR M F (hr.mono hle) hx I2 r q⟩) he hst
theorem pe_cmeth0 (he : PE X o ta) (r : ClX.CRead X.K C mc) (c : ClX.CMet X.K C mc m p g) (F : FnR X.prog X.w X.K X.mg X.base CX k g sp) (hr : Room k X.A) (hx : Passes CX X E)
    (ht : eval (.Call (.Attribute o m apos) [] [] pos) X.env = (do
      let ov ← eval o X.env
      standAt apos.atName
      let (f, first) ← holding [ov] (getMethod ov m pl)
      callWith pos f first (backTo pos (starEach [] X.env)) (backToKw pos (keywordEach [] X.env))) := by rfl) :
    PE X (.Call (.Attribute o m apos) [] [] pos) (ClX.tCMeth C sp E ta tNil) := by
  refine ⟨fun pins s σ H Q I h => ?_⟩
  refine PySem.W.methodCall_KW (pl := pl) (thn (he.run pins s σ H _ I h) fun u s1 ⟨x, H1, I1, rx, ex, q⟩ => ?_) ht
  subst ex
  obtain rfl : u = Value.ref C := rx
  refine ClX.getmethcm_ok I1 r c fun s2 I2 => ?_
  exact PySem.W.callWith_M0 (first := []) ⟨ClX.pin_at I2, I2.kIn⟩ c.fi (ClX.run_cm (us := []) (vs := []) F hr hx I2 .nil q)
end
/-- channels in a row with any capacities -/
def rowX (us : List V) : List TriX := us.mapIdx fun k c => ((k : Int), (k : Int) + 1, c)
theorem rowX_at {us : List V} {i : Nat} {c : V} (h : us[i]? = some c) : (rowX us)[i]? = some ((i : Int), (i : Int) + 1, c) := by
  unfold rowX
  rw [List.getElem?_mapIdx, h]
  rfl
theorem rowX_len (us : List V) : (rowX us).length = us.length := List.length_mapIdx
theorem rowX_mem {us : List V} {t : TriX} (h : t ∈ rowX us) : ∃ (i : Nat) (c : V), us[i]? = some c ∧ t = ((i : Int), (i : Int) + 1, c) := by
  obtain ⟨i, hi⟩ := List.mem_iff_getElem?.mp h
  have hl := (List.getElem?_eq_some_iff.mp hi).1
  rw [rowX_len] at hl
  have q : us[i]? = some us[i] := by simp [hl]
  rw [rowX_at q] at hi
  exact ⟨i, us[i], q, (Option.some.inj hi).symm⟩
theorem rowX_inc (us : List V) : (rowX us).Pairwise fun a b => a.1 < b.1 := by
  rw [List.pairwise_iff_getElem]
  intro i j hi hj hij
  simp only [rowX, List.getElem_mapIdx]
  omega
theorem rowX_cap (us : List V) : (rowX us).map (fun c => c.2.2) = us := by
  refine List.ext_getElem? fun i => ?_
  rw [List.getElem?_map]
  cases e : us[i]? with
  | none =>
    have : (rowX us)[i]? = none := by
      rw [List.getElem?_eq_none_iff] at e ⊢
      rw [rowX_len]; exact e
    rw [this]; rfl
  | some c => rw [rowX_at e]; rfl
theorem row_tri {H : Hp} {ns : List Int} {ks : List V} (h : Paired (TriXA H) (rowX (ns.map V.int)) ks) : Paired (TriA H) (rowOf ns) ks := by
  have e : rowX (ns.map V.int) = (rowOf ns).map fun c => ((c.1, c.2.1, V.int c.2.2) : TriX) := by
    refine List.ext_getElem? fun i => ?_
    rw [List.getElem?_map]
    cases q : ns[i]? with
    | none =>
      have z1 : (rowX (ns.map V.int))[i]? = none := by
        rw [List.getElem?_eq_none_iff] at q ⊢
        rw [rowX_len, List.length_map]; exact q
      have z2 : (rowOf ns)[i]? = none := by
        rw [List.getElem?_eq_none_iff] at q ⊢
        rw [rowOf_len]; exact q
      rw [z1, z2]; rfl
    | some c =>
      have z1 : (ns.map V.int)[i]? = some (V.int c) := by rw [List.getElem?_map, q]; rfl
      rw [rowX_at z1, rowOf_at q]; rfl
  rw [e] at h
  clear e
  generalize rowOf ns = cs at h
  induction cs generalizing ks with
  | nil => cases h; exact .nil
  | cons c cs ih =>
    cases h with
    | cons a b => exact .cons a (ih b)
/-- what is wanted of a row's making, or a ring's -/
structure RowQ (K : PySem.W.Frag) (C CI : Addr) (us : List V) (H : Hp) (Q : VK) (E : XK) : Prop where
  len : us.length ≤ 40
  kn : ∀ u ∈ us, Known K H u
  st : us.length = 40 → ErrI E CI H "stages" .non
  bad : us.length ≤ 39 → ∀ m : Nat, FirstBad us m → ErrI E CI H "capacity" (.int m)
  ok : us.length ≤ 39 → ∀ ns : List Int, us = ns.map V.int → SzOk ns → Made C (ns.length + 1) (rowOf ns) H Q
structure RingQ (K : PySem.W.Frag) (C CI : Addr) (us : List V) (H : Hp) (Q : VK) (E : XK) : Prop where
  len : us.length ≤ 60
  kn : ∀ u ∈ us, Known K H u
  st : us.length < 3 ∨ 40 < us.length → ErrI E CI H "stages" .non
  bad : 3 ≤ us.length → us.length ≤ 40 → ∀ m : Nat, FirstBad us m → ErrI E CI H "capacity" (.int m)
  ok : 3 ≤ us.length → us.length ≤ 40 → ∀ ns : List Int, us = ns.map V.int → SzOk ns → Made C ns.length (ringOf ns) H Q
def spRowX (K : PySem.W.Frag) (C CI : Addr) : Sp := fun vs H Q E => ∃ us : List V, vs = .ref C :: us ∧ RowQ K C CI us H Q E
def spRowXB (K : PySem.W.Frag) (C CI : Addr) : Sp := fun vs H Q E => ∃ (us : List V) (t : Addr), vs = [.ref C, .ref t] ∧ H t = some (.tup us) ∧ RowQ K C CI us H Q E
def spPipeSt (C CI : Addr) : Sp := fun vs H Q E => ∃ (x dx : Addr) (n : Nat) (ws : List V), vs = .ref x :: .int n :: ws ∧ H x = some (.ins C dx []) ∧ 40 < n ∧ ws.length ≤ 60 ∧ ErrI E CI H "stages" .non
def spPipeStB (C CI : Addr) : Sp := fun vs H Q E => ∃ (x dx t : Addr) (n : Nat) (ws : List V), vs = [.ref x, .int n, .int 1, .ref t] ∧ H x = some (.ins C dx []) ∧ 40 < n ∧ H t = some (.tup ws) ∧ ErrI E CI H "stages" .non
def spRingSt (C CI : Addr) : Sp := fun vs H Q E => ∃ (x dx : Addr) (us : List V), vs = .ref x :: us ∧ H x = some (.ins C dx []) ∧ (us.length < 3 ∨ 40 < us.length) ∧ us.length ≤ 60 ∧ ErrI E CI H "stages" .non
def spRingStB (C CI : Addr) : Sp := fun vs H Q E => ∃ (x dx t : Addr) (us : List V), vs = [.ref x, .ref t] ∧ H x = some (.ins C dx []) ∧ H t = some (.tup us) ∧ (us.length < 3 ∨ 40 < us.length) ∧ ErrI E CI H "stages" .non
def spPX (K : PySem.W.Frag) (C CI : Addr) : Sp := spOr (spPipe C) (spOr (spPipeBad K C CI) (spPipeSt C CI))
def spRX (K : PySem.W.Frag) (C CI : Addr) : Sp := spOr (spRing C) (spOr (spRingBad K C CI) (spRingSt C CI))
theorem RowQ.new {K : PySem.W.Frag} {C CI : Addr} {us : List V} {H H2 : Hp} {Q : VK} {E : XK} (h : RowQ K C CI us H Q E) (s : Same H H2) : RowQ K C CI us H2 Q E where
  len := h.len
  kn := fun u hu => (h.kn u hu).same s
  st := fun z => ErrX.on (h.st z) s
  bad := fun z m fb => ErrX.on (h.bad z m fb) s
  ok := fun z ns e so => fun H3 x s3 nx N => h.ok z ns e so H3 x (s.trans s3) (s.free nx) N
theorem mk_up {H : Hp} {x dx C : Addr} (hx : H x = none) (hdx : H dx = none) : Same H (upd (upd H dx (.own x)) x (.ins C dx [])) := fun b o e => by
  rw [upd_ne (ne_of_none e hx), upd_ne (ne_of_none e hdx)]
  exact e
/-- the making of a ring, every case -/
theorem RingQ.use {K : PySem.W.Frag} {C CI : Addr} {us : List V} {H : Hp} {Q : VK} {E : XK} (h : RingQ K C CI us H Q E) : ∀ x dx, H x = none → H dx = none → dx ≠ x → spRX K C CI (V.ref x :: us) (upd (upd H dx (.own x)) x (.ins C dx [])) (fun v H2 => v = .non ∧ Q (.ref x) H2) E := by
  intro x dx hx hdx hne
  have up := mk_up (C := C) hx hdx
  by_cases hl : us.length < 3 ∨ 40 < us.length
  · exact .inr (.inr ⟨x, dx, us, rfl, upd_same, hl, h.len, ErrX.on (h.st hl) up⟩)
  · have h3 : 3 ≤ us.length := by omega
    have h40 : us.length ≤ 40 := by omega
    rcases good_or us with g | ⟨m, fb⟩
    · obtain ⟨ns, e, z⟩ := good_ints g
      have k := h.ok h3 h40 ns e z
      subst e
      rw [List.length_map] at h3 h40
      exact .inl (ring_use (Same.refl H) z h3 h40 k x dx hx hdx hne)
    · exact .inr (.inl ⟨x, dx, us, m, rfl, upd_same, h3, h40, fun u hu => (h.kn u hu).same up, fb, ErrX.on (h.bad h3 h40 m fb) up⟩)
section
variable {P : Program} {w : World} {K : PySem.W.Frag} {mg : Str → Option Value} {base : Heap}
theorem ok_Pipeline_st_N {f cc C N CI g : Addr} {Dk : Addr} {u : Value} (F : SFun P K "__init__" "Pipeline.__init__" s_Pipeline_init f cc C (.ref Dk)) (hD : PySem.W.nsIn K Dk "capacity" = some (some u)) (hu1 : RelV (.int 1) u) (B : Blt mg) (Z : NetK K mg N)
    (G0 : DefR P w K mg base "is_between" 1 (spBtw K)) (G1 : DefN P w K mg base "_check_channels" 3 (spCheckBad K CI)) (G2 : StaR P w K mg base N "is_capacity" 2 (spCap K)) (G3 : DefR P w K mg base "_with_capacity" 1 spWith) (G4 : DefR P w K mg base "has_circle" 1 spNoCircle)
    (T : ExcR P w K mg base "InvalidNet" CI 1 2 flI) (SP : SupTxt P K mg C C g "__init__") (G5 : FnR P w K mg base (L2.CX P w) 2 g (spNetInit C)) : FnR P w K mg base (L2N.CX P w) 4 f (spPipeSt C CI) := by
  refine FnR.imp (F.starN (k := 3) (ps := ["self", "stages"]) (ks := ["capacity"]) (pv := "channels") (kv := [u]) (kvV := [.int 1]) (sp := spPipeStB C CI) sc_Pipeline_init (.cons hu1 .nil) rfl (fun doc pm an cdv ct => BindStar.of_kw hD fun u1 u2 hl => ?_) ⟨_, rfl, rfl⟩ rfl rfl (fun cdv A outer s H vs Q E hr SZ h => ?_)) (fun vs H Q E h => ?_)
  · match u1, u2, hl with
    | [a, b], [], _ => exact ⟨_, _, _, _, _, _, rfl, rfl, rfl⟩
    | [a, b], r :: rs, _ => exact ⟨_, _, _, _, _, _, rfl, rfl, rfl⟩
  · obtain ⟨x, dx, t, n, ws, rfl, hx, hn, ht, k⟩ := h
    obtain ⟨mc, cr, ⟨u1, c1⟩, ⟨u2, c2⟩, _, _⟩ := Z.cr
    refine ⟨_, px_cons (ps_if (pt_not (pt_val (pe_cd G0 hr passL (pa_cons (pv 1) (pa_cons pe_int (pa_cons (ClX.pe_cval (pe_glob (v := .ref N) (by rfl) Z.gN rfl)) pa_nil)))))) (pss_one (L2N.ps_raise rfl (L2N.takes_of rfl rfl rfl rfl) (pmk_xN T hr (pa_cons pe_str (pa_cons pe_non pa_nil))))) pss_nil)
      (px_cons (ps_if (pt_cmpR op_gt (pe_callB call_len_seq (by rfl) B.len bt_len (pa_cons (pv 3) pa_nil)) (ClX.pe_cval (pe_glob (v := .ref N) (by rfl) Z.gN rfl)) (nomark _)) (pss_one (L2N.ps_raise rfl (L2N.takes_of rfl rfl rfl rfl) (pmk_xN T hr (pa_cons pe_str (pa_cons pe_non pa_nil))))) pss_nil)
      (px_cons (ps_expr (pe_cdn G1 hr psSn (pa_cons (pv 1) (pa_cons (pv 3) pa_nil))))
      (px_cons (ps_if (pt_not (pt_val (pe_sta G2 (pe_glob (v := .ref N) (by rfl) Z.gN rfl) hr passL (pa_cons (pv 2) pa_nil)))) (pss_one (L2N.ps_raise rfl (L2N.takes_of rfl rfl rfl rfl) (pmk_xN T hr (pa_cons pe_str (pa_cons pe_non pa_nil))))) pss_nil)
      (px_cons (ps_setLc (i := 4) (own := [("channel", 5)]) rfl sc_Pipeline_init.nod rfl rfl (sw_true rfl rfl rfl (by decide +kernel)) (pi_tup (pv 3)) (blkOk_by (N := nn_Pipeline_init) (sc := defScope s_Pipeline_init) (own := [("channel", 5)]) (by decide +kernel))
            (fun _ _ _ _ _ => pg_name (i := 5) sc_Pipeline_init.nod rfl (Or.inl rfl)) (fun _ _ _ _ _ => pts_nil) (fun _ _ _ _ _ => pe_cd G3 (by exact hr) passL (pa_cons (pv 5) (pa_cons (pv 2) pa_nil))))
      (px_cons (ps_if (pt_val (pe_cd G4 hr passL (pa_cons (pv 4) pa_nil))) (pss_one (L2N.ps_raise rfl (L2N.takes_of rfl rfl rfl rfl) (pmk_xN T hr (pa_cons pe_str (pa_cons pe_non pa_nil))))) pss_nil)
      (px_sup (i := 0) SP SZ G5 (hr.mono (by decide)) passL rfl (pa_cons (pv 1) (pa_cons (pv 4) pa_nil)) (px_of pss_nil))))))), ?_⟩
    refine ⟨_, rfl, N, mc, _, u1, rfl, cr, c1, _, _, _, rfl, nv _, _, rfl, ?_⟩
    rw [btw_st hn]
    exact iteT (x_use rfl (by decide) (ErrX.new k))
  · obtain ⟨x, dx, n, ws, rfl, hx, hn, hl, k⟩ := h
    exact ⟨[.ref x, .int n], ws, rfl, rfl, line_of (by omega), fun p hp2 => ⟨x, dx, p, n, ws, rfl, Same.new hp2 _ _ hx, hn, upd_same, ErrX.on k (Same.new hp2)⟩⟩
theorem ok_Ring_st_N {f cc C N CI g : Addr} {kV lr : Value} (F : SFun P K "__init__" "Ring.__init__" s_Ring_init f cc C kV) (B : Blt mg) (Z : NetK K mg N) (hL : mg "LEAST_RING" = some lr) (hL3 : RelV (.int 3) lr)
    (G2 : StaR P w K mg base N "is_capacity" 2 (spCap K)) (T : ExcR P w K mg base "InvalidNet" CI 1 2 flI) (SP : SupTxt P K mg C C g "__init__") (G5 : FnR P w K mg base (L2.CX P w) 2 g (spNetInit C)) : FnR P w K mg base (L2N.CX P w) 4 f (spRingSt C CI) := by
  refine FnR.imp (F.starN (k := 3) (ps := ["self"]) (ks := []) (pv := "capacities") (kv := []) (kvV := []) (sp := spRingStB C CI) sc_Ring_init .nil rfl (fun doc pm an cdv ct => .of_eq fun u1 u2 hl => ?_) ⟨_, rfl, rfl⟩ rfl rfl (fun cdv A outer s H vs Q E hr SZ h => ?_)) (fun vs H Q E h => ?_)
  · match u1, u2, hl with
    | [a], [], _ => rfl
    | [a], r :: rs, _ => rfl
  · obtain ⟨x, dx, t, us, rfl, hx, ht, hl, k⟩ := h
    obtain ⟨mc, cr, ⟨u1, c1⟩, _, _, _⟩ := Z.cr
    refine ⟨_, px_cons (ps_set (i := 2) sc_Ring_init.nod rfl (Or.inr rfl) (pe_callB call_len_seq (by rfl) B.len bt_len (pa_cons (pv 1) pa_nil)))
      (px_cons (ps_if (PW.pt (pw_or (pt_cmpR op_lt (pv 2) (pe_glob (v := .int 3) (by rfl) hL hL3) (nomark _)) (pw_or1 (pt_cmpR op_gt (pv 2) (ClX.pe_cval (pe_glob (v := .ref N) (by rfl) Z.gN rfl)) (nomark _))))) (pss_one (L2N.ps_raise rfl (L2N.takes_of rfl rfl rfl rfl) (pmk_xN T hr (pa_cons pe_str (pa_cons pe_non pa_nil))))) pss_nil)
      (px_cons (ps_for (passes_of rfl) rfl (pi_et B.enum (pa_cons (pv 1) pa_nil)) (pg_tup rfl (pgs_cons (pg_name (i := 3) sc_Ring_init.nod rfl (Or.inl rfl)) (pgs_cons (pg_name (i := 4) sc_Ring_init.nod rfl (Or.inl rfl)) pgs_nil)))
        (pss_one (ps_if (pt_not (pt_val (pe_sta G2 (pe_glob (v := .ref N) (by rfl) Z.gN rfl) hr passL (pa_cons (pv 4) pa_nil)))) (pss_one (L2N.ps_raise rfl (L2N.takes_of rfl rfl rfl rfl) (pmk_xN T hr (pa_cons pe_str (pa_cons (pv 3) pa_nil))))) pss_nil)))
      (px_cons (ps_setLc (i := 5) (own := [("stage", 6), ("capacity", 4)]) rfl sc_Ring_init.nod rfl rfl (sw_true rfl rfl rfl (by decide +kernel)) (pi_et B.enum (pa_cons (pv 1) pa_nil)) (blkOk_by (N := nn_Ring_init) (sc := defScope s_Ring_init) (own := [("stage", 6), ("capacity", 4)]) (by decide +kernel))
          (fun _ _ _ _ _ => pg_tupK (K := K) (n := 2) rfl (pgs_cons (pg_name (i := 6) sc_Ring_init.nod rfl (Or.inl rfl)) (pgs_cons (pg_name (i := 4) sc_Ring_init.nod rfl (Or.inl rfl)) pgs_nil))) (fun _ _ _ _ _ => pts_nil) (fun _ _ _ _ _ => pe_tup (pa_cons (pv 6) (pa_cons (pe_op op_modN (pe_op op_add (pv 6) pe_int) (pv 2)) (pa_cons (pv 4) pa_nil)))))
      (px_sup (i := 0) SP SZ G5 (hr.mono (by decide)) passL rfl (pa_cons (pv 2) (pa_cons (pv 5) pa_nil)) (px_of pss_nil))))), ?_⟩
    refine ⟨_, rfl, t, _, rfl, .inr (SqT.of ht), _, rfl, _, _, rfl, rfl, _, rfl, ?_⟩
    by_cases h3 : us.length < 3
    · have q1 : decide ((us.length : Int) < 3) = true := by apply decide_eq_true; omega
      rw [q1]
      exact iteT (x_use rfl (by decide) (ErrX.new k))
    · have q1 : decide ((us.length : Int) < 3) = false := by apply decide_eq_false; omega
      rw [q1]
      refine iteF ⟨_, rfl, N, mc, _, u1, rfl, cr, c1, _, _, rfl, rfl, _, rfl, ?_⟩
      have q2 : decide ((40 : Int) < (us.length : Int)) = true := by apply decide_eq_true; omega
      rw [q2]
      exact iteT (x_use rfl (by decide) (ErrX.new k))
  · obtain ⟨x, dx, us, rfl, hx, hl, hm, k⟩ := h
    exact ⟨[.ref x], us, rfl, rfl, line_of (by omega), fun p hp2 => ⟨x, dx, p, us, rfl, Same.new hp2 _ _ hx, upd_same, hl, ErrX.on k (Same.new hp2)⟩⟩
theorem ok_row_N {f C CI : Addr} {oc : Value} {od : Option Addr} {kV doc pm : Value} {an : Option Addr} {cdv ct : Value} {osl : Array (Option Value)} (lk : K.lookup f = some ⟨oc, od, .func (PySem.W.fnOf "row" "Pipeline.row" (defArgs s_Pipeline_row) (defBody s_Pipeline_row) (defScope s_Pipeline_row) .none kV doc pm an cdv ct), osl⟩)
    (hcd : PySem.W.codeIn K cdv "Pipeline.row" = true) (B : Blt mg) (G : ClsN P w K mg base C 4 (spPX K C CI)) : FnR P w K mg base (L2N.CX P w) 6 f (spRowX K C CI) := by
  refine FnR.imp (fn_starP (k := 5) (ps := ["cls"]) (ks := []) (kv := []) (kvV := []) (pv := "capacities") (sp := spRowXB K C CI) lk hcd sc_Pipeline_row cxUpN (.of_eq fun u1 u2 hl => ?_) .nil rfl (fun A outer s H vs Q E hr h => ?_)) (fun vs H Q E h => ?_)
  · match u1, u2, hl with
    | [a], [], _ => rfl
    | [a], r :: rs, _ => rfl
  · obtain ⟨us, t, rfl, ht, R⟩ := h
    have hlen := R.len
    refine ⟨_, pss_cons (ps_set (i := 2) sc_Pipeline_row.nd rfl (Or.inl rfl) (pe_op op_add (pe_callB call_len_seq (by rfl) B.len bt_len (pa_cons (pv 1) pa_nil)) pe_int))
      (pss_cons (ps_setLc (i := 3) (own := [("stage", 4), ("capacity", 5)]) rfl sc_Pipeline_row.nd rfl rfl (sw_true rfl rfl rfl (by decide +kernel)) (pi_et B.enum (pa_cons (pv 1) pa_nil)) (blkOk_by (N := nn_Pipeline_row) (sc := defScope s_Pipeline_row) (own := [("stage", 4), ("capacity", 5)]) (by decide +kernel))
          (fun _ _ _ _ _ => pg_tupK (K := K) (n := 2) rfl (pgs_cons (pg_name (i := 4) sc_Pipeline_row.nd rfl (Or.inl rfl)) (pgs_cons (pg_name (i := 5) sc_Pipeline_row.nd rfl (Or.inl rfl)) pgs_nil))) (fun _ _ _ _ _ => pts_nil) (fun _ _ _ _ _ => pe_tup (pa_cons (pv 4) (pa_cons (pe_op op_add (pv 4) pe_int) (pa_cons (pv 5) pa_nil)))))
      (pss_one (ps_ret (pe_clsn (i := 0) G rfl (Or.inl rfl) hr psEn (pa_cons (pv 2) (StX.pa_star (pv 3) pa_nil)))))), ?_⟩
    refine ⟨_, rfl, t, _, rfl, .inr (SqT.of ht), _, _, rfl, rfl, _, rfl, t, _, rfl, SqT.of ht, fun D hD => lc_it (walk_et (xs := us)) (fun i H2 => Same H H2 ∧ ∃ ks, H2 D = some (.lst ks) ∧ Paired (TriXA H2) ((rowX us).take i) ks) ⟨Same.new hD, [], upd_same, .nil⟩ (fun i H2 _ q => SqT.of (q.1 _ _ ht)) ?_ ?_⟩
    · rintro i x H2 H3 hi ⟨s2, ks, k1, k2⟩ ⟨T1, x1, y1, rfl, hT, rfl, e1, e2⟩
      cases e1
      have q : us[i]? = some y1 := e2
      refine ⟨T1, _, rfl, SqT.of upd_same, rfl, _, _, rfl, _, _, rfl, rfl, rfl, yes ⟨_, rfl, _, rfl, _, _, rfl, rfl, _, rfl, by show 3 ≤ sizeLine; decide, fun p hp => ⟨ks, ?_, ?_, ?_, ks ++ [.ref p], upd_same, ?_⟩⟩⟩
      · rw [upd_ne (ne_of_none (Same.new hT _ _ k1) hp), upd_ne (ne_of_none k1 hT)]
        exact k1
      · rw [← k2.length, List.length_take, rowX_len]
        exact line_lt (by omega)
      · exact Same.newer (Same.newer (Same.newer s2 (Same.free s2 hT)) (Same.free (Same.newer s2 (Same.free s2 hT)) hp)) hD
      · have pD : p ≠ D := (ne_of_none (Same.new hT _ _ k1) hp).symm
        rw [take_snoc (rowX_at q)]
        refine pr_snoc (Paired.mapP k2 fun c2 v2 ⟨t2, e1, e2⟩ => ⟨t2, e1, ?_⟩) ⟨p, rfl, by rw [upd_ne pD, upd_same]⟩
        rw [upd_ne (ne_of e2 k1 (by intro z; cases z)), upd_ne (ne_of_none (Same.new hT _ _ e2) hp), upd_ne (ne_of_none e2 hT)]
        exact e2
    · rintro H2 ⟨s2, ks, k1, k2⟩
      have el : us.length = (rowX us).length := (rowX_len us).symm
      rw [el, List.take_length] at k2
      have hkl : ks.length = us.length := by rw [← k2.length, rowX_len]
      refine ⟨rfl, _, rfl, _, rfl, D, _, rfl, .inr (SqL.of k1), fun x dx hx hdx hne => ?_⟩
      rw [List.append_nil]
      have s3 : Same H2 (upd (upd H2 dx (.own x)) x (.ins C dx [])) := mk_up hx hdx
      have R2 := R.new (s2.trans s3)
      by_cases h40 : us.length = 40
      · exact .inr (.inr ⟨x, dx, us.length + 1, ks, rfl, upd_same, by omega, by omega, R2.st h40⟩)
      have h39 : us.length ≤ 39 := by omega
      rcases good_or us with g | ⟨m, fb⟩
      · obtain ⟨ns, e, z⟩ := good_ints g
        subst e
        rw [List.length_map] at h39
        have k3 := row_tri k2
        have hok := rowOf_ok (ns := ns) z
        refine .inl ⟨x, dx, ns.length + 1, rowOf ns, ks, ?_, upd_same, by omega, by omega, tris_same s3 k3, hok, nodup_of_inc (f := fun c : Tri => c.1) (fun _ => rfl) (rowOf_inc ns), ⟨Int.toNat, fun c hc2 => ?_⟩, by rw [rowOf_len]; omega, fun H3 cs2 a b c d => ⟨rfl, ?_⟩⟩
        · rw [List.length_map]
          rfl
        · obtain ⟨i, q, _, rfl⟩ := rowOf_mem hc2
          show (i : Int).toNat < ((i : Int) + 1).toNat
          omega
        · have e := sorted_one a b (keys_inc (by omega) hok (rowOf_inc ns))
          subst e
          exact R.ok (by rw [List.length_map]; exact h39) ns rfl z H3 x (fun b2 o e => c b2 o (s3 _ _ (s2 _ _ e)) (ne_of_none (s2 _ _ e) hx)) (Same.free s2 hx) d
      · refine .inr (.inl ⟨x, dx, us.length + 1, rowX us, ks, m, rfl, upd_same, by omega, by omega, trix_same s3 k2, fun c hc => ?_, nodup_of_inc (f := fun c : TriX => c.1) (fun _ => rfl) (rowX_inc us), by rw [rowX_len]; omega, by rw [rowX_cap]; exact fb, R2.bad h39 m fb⟩)
        obtain ⟨i, u, hi, rfl⟩ := rowX_mem hc
        have hl := (List.getElem?_eq_some_iff.mp hi).1
        refine ⟨⟨⟨?_, ?_⟩, ⟨?_, ?_⟩, ?_⟩, R2.kn u (List.mem_of_getElem? hi)⟩ <;> dsimp only <;> omega
  · obtain ⟨us, rfl, R⟩ := h
    have := R.len
    exact ⟨[.ref C], us, rfl, rfl, line_of (by omega), fun p hp => ⟨us, p, rfl, upd_same, R.new (Same.new hp)⟩⟩
end
end WC

set_option maxHeartbeats 8000000
namespace WC
open PySem PySem.Spec PyProof.Rows L2 L2H

/-- the classmethod row, its errors without a context -/
structure RowN (P : Program) (w : World) (K : PySem.W.Frag) (mg : Str → Option Value) (base : Heap) (C CI : Addr) : Prop where
  ex : ∃ mc p g, ClX.CRead K C mc ∧ ClX.CMet K C mc "row" p g ∧ FnR P w K mg base (L2N.CX P w) 6 g (spRowX K C CI)
def spRingN (K : PySem.W.Frag) (C CI : Addr) (n : Nat) : Sp := fun vs H Q E => ∃ (l : Addr) (us : List V), vs = [.ref l] ∧ H l = some (.lst us) ∧ us.length = n ∧ RingQ K C CI us H Q E
def spRowN (K : PySem.W.Frag) (C CI : Addr) (n : Nat) : Sp := fun vs H Q E => ∃ (l : Addr) (us : List V), vs = [.ref l] ∧ H l = some (.lst us) ∧ us.length = n ∧ RowQ K C CI us H Q E
/-- how many are given -/
def spLRing (K : PySem.W.Frag) (C CI : Addr) : Sp := fun vs H Q E => ∃ (l : Addr) (us : List V), vs = [.ref l] ∧ H l = some (.lst us) ∧ (us.length ≤ 6 ∨ us.length = 40 ∨ us.length = 41) ∧ RingQ K C CI us H Q E
def spLRow (K : PySem.W.Frag) (C CI : Addr) : Sp := fun vs H Q E => ∃ (l : Addr) (us : List V), vs = [.ref l] ∧ H l = some (.lst us) ∧ (us.length ≤ 6 ∨ us.length = 39 ∨ us.length = 40) ∧ RowQ K C CI us H Q E
section
variable {P : Program} {w : World} {K : PySem.W.Frag} {mg : Str → Option Value} {base : Heap}
theorem ok_ring_of_40 {f C CI : Addr} {fd : FuncData} (F : Fun K "_law_ring_of_40" "_law_ring_of_40" s_law_ring_of_40 f fd) (gR : mg "Ring" = some (.ref C)) (D : ClsN P w K mg base C 4 (spRX K C CI)) : FnOk P w K mg base (L2N.CX P w) 6 f fd ["c"] (spRingN K C CI 40) := by
  refine okN F sc_law_ring_of_40 (fun vs H Q E h => ?_) (fun cdv A outer s H vs Q E hr h => ?_)
  · obtain ⟨l, us, rfl, _⟩ := h
    rfl
  · obtain ⟨l, us, rfl, hl, hn, R⟩ := h
    obtain ⟨u0, us0, e0, z0⟩ := len_succ hn
    subst e0
    obtain ⟨u1, us1, e1, z1⟩ := len_succ z0
    subst e1
    obtain ⟨u2, us2, e2, z2⟩ := len_succ z1
    subst e2
    obtain ⟨u3, us3, e3, z3⟩ := len_succ z2
    subst e3
    obtain ⟨u4, us4, e4, z4⟩ := len_succ z3
    subst e4
    obtain ⟨u5, us5, e5, z5⟩ := len_succ z4
    subst e5
    obtain ⟨u6, us6, e6, z6⟩ := len_succ z5
    subst e6
    obtain ⟨u7, us7, e7, z7⟩ := len_succ z6
    subst e7
    obtain ⟨u8, us8, e8, z8⟩ := len_succ z7
    subst e8
    obtain ⟨u9, us9, e9, z9⟩ := len_succ z8
    subst e9
    obtain ⟨u10, us10, e10, z10⟩ := len_succ z9
    subst e10
    obtain ⟨u11, us11, e11, z11⟩ := len_succ z10
    subst e11
    obtain ⟨u12, us12, e12, z12⟩ := len_succ z11
    subst e12
    obtain ⟨u13, us13, e13, z13⟩ := len_succ z12
    subst e13
    obtain ⟨u14, us14, e14, z14⟩ := len_succ z13
    subst e14
    obtain ⟨u15, us15, e15, z15⟩ := len_succ z14
    subst e15
    obtain ⟨u16, us16, e16, z16⟩ := len_succ z15
    subst e16
    obtain ⟨u17, us17, e17, z17⟩ := len_succ z16
    subst e17
    obtain ⟨u18, us18, e18, z18⟩ := len_succ z17
    subst e18
    obtain ⟨u19, us19, e19, z19⟩ := len_succ z18
    subst e19
    obtain ⟨u20, us20, e20, z20⟩ := len_succ z19
    subst e20
    obtain ⟨u21, us21, e21, z21⟩ := len_succ z20
    subst e21
    obtain ⟨u22, us22, e22, z22⟩ := len_succ z21
    subst e22
    obtain ⟨u23, us23, e23, z23⟩ := len_succ z22
    subst e23
    obtain ⟨u24, us24, e24, z24⟩ := len_succ z23
    subst e24
    obtain ⟨u25, us25, e25, z25⟩ := len_succ z24
    subst e25
    obtain ⟨u26, us26, e26, z26⟩ := len_succ z25
    subst e26
    obtain ⟨u27, us27, e27, z27⟩ := len_succ z26
    subst e27
    obtain ⟨u28, us28, e28, z28⟩ := len_succ z27
    subst e28
    obtain ⟨u29, us29, e29, z29⟩ := len_succ z28
    subst e29
    obtain ⟨u30, us30, e30, z30⟩ := len_succ z29
    subst e30
    obtain ⟨u31, us31, e31, z31⟩ := len_succ z30
    subst e31
    obtain ⟨u32, us32, e32, z32⟩ := len_succ z31
    subst e32
    obtain ⟨u33, us33, e33, z33⟩ := len_succ z32
    subst e33
    obtain ⟨u34, us34, e34, z34⟩ := len_succ z33
    subst e34
    obtain ⟨u35, us35, e35, z35⟩ := len_succ z34
    subst e35
    obtain ⟨u36, us36, e36, z36⟩ := len_succ z35
    subst e36
    obtain ⟨u37, us37, e37, z37⟩ := len_succ z36
    subst e37
    obtain ⟨u38, us38, e38, z38⟩ := len_succ z37
    subst e38
    obtain ⟨u39, us39, e39, z39⟩ := len_succ z38
    subst e39
    obtain rfl := List.length_eq_zero_iff.mp z39
    refine ⟨_, pss_one (ps_ret (pe_ccn D gR hr psEn (pa_cons (pe_ix ix_list (pv 0) pe_int (fun _ _ => rfl)) (pa_cons (pe_ix ix_list (pv 0) pe_int (fun _ _ => rfl)) (pa_cons (pe_ix ix_list (pv 0) pe_int (fun _ _ => rfl)) (pa_cons (pe_ix ix_list (pv 0) pe_int (fun _ _ => rfl)) (pa_cons (pe_ix ix_list (pv 0) pe_int (fun _ _ => rfl)) (pa_cons (pe_ix ix_list (pv 0) pe_int (fun _ _ => rfl)) (pa_cons (pe_ix ix_list (pv 0) pe_int (fun _ _ => rfl)) (pa_cons (pe_ix ix_list (pv 0) pe_int (fun _ _ => rfl)) (pa_cons (pe_ix ix_list (pv 0) pe_int (fun _ _ => rfl)) (pa_cons (pe_ix ix_list (pv 0) pe_int (fun _ _ => rfl)) (pa_cons (pe_ix ix_list (pv 0) pe_int (fun _ _ => rfl)) (pa_cons (pe_ix ix_list (pv 0) pe_int (fun _ _ => rfl)) (pa_cons (pe_ix ix_list (pv 0) pe_int (fun _ _ => rfl)) (pa_cons (pe_ix ix_list (pv 0) pe_int (fun _ _ => rfl)) (pa_cons (pe_ix ix_list (pv 0) pe_int (fun _ _ => rfl)) (pa_cons (pe_ix ix_list (pv 0) pe_int (fun _ _ => rfl)) (pa_cons (pe_ix ix_list (pv 0) pe_int (fun _ _ => rfl)) (pa_cons (pe_ix ix_list (pv 0) pe_int (fun _ _ => rfl)) (pa_cons (pe_ix ix_list (pv 0) pe_int (fun _ _ => rfl)) (pa_cons (pe_ix ix_list (pv 0) pe_int (fun _ _ => rfl)) (pa_cons (pe_ix ix_list (pv 0) pe_int (fun _ _ => rfl)) (pa_cons (pe_ix ix_list (pv 0) pe_int (fun _ _ => rfl)) (pa_cons (pe_ix ix_list (pv 0) pe_int (fun _ _ => rfl)) (pa_cons (pe_ix ix_list (pv 0) pe_int (fun _ _ => rfl)) (pa_cons (pe_ix ix_list (pv 0) pe_int (fun _ _ => rfl)) (pa_cons (pe_ix ix_list (pv 0) pe_int (fun _ _ => rfl)) (pa_cons (pe_ix ix_list (pv 0) pe_int (fun _ _ => rfl)) (pa_cons (pe_ix ix_list (pv 0) pe_int (fun _ _ => rfl)) (pa_cons (pe_ix ix_list (pv 0) pe_int (fun _ _ => rfl)) (pa_cons (pe_ix ix_list (pv 0) pe_int (fun _ _ => rfl)) (pa_cons (pe_ix ix_list (pv 0) pe_int (fun _ _ => rfl)) (pa_cons (pe_ix ix_list (pv 0) pe_int (fun _ _ => rfl)) (pa_cons (pe_ix ix_list (pv 0) pe_int (fun _ _ => rfl)) (pa_cons (pe_ix ix_list (pv 0) pe_int (fun _ _ => rfl)) (pa_cons (pe_ix ix_list (pv 0) pe_int (fun _ _ => rfl)) (pa_cons (pe_ix ix_list (pv 0) pe_int (fun _ _ => rfl)) (pa_cons (pe_ix ix_list (pv 0) pe_int (fun _ _ => rfl)) (pa_cons (pe_ix ix_list (pv 0) pe_int (fun _ _ => rfl)) (pa_cons (pe_ix ix_list (pv 0) pe_int (fun _ _ => rfl)) (pa_cons (pe_ix ix_list (pv 0) pe_int (fun _ _ => rfl)) pa_nil)))))))))))))))))))))))))))))))))))))))))), ?_⟩
    exact ⟨_, rfl, l, _, _, _, rfl, rfl, SqL.of hl, atI_nat (j := 0) rfl, _, rfl, l, _, _, _, rfl, rfl, SqL.of hl, atI_nat (j := 1) rfl, _, rfl, l, _, _, _, rfl, rfl, SqL.of hl, atI_nat (j := 2) rfl, _, rfl, l, _, _, _, rfl, rfl, SqL.of hl, atI_nat (j := 3) rfl, _, rfl, l, _, _, _, rfl, rfl, SqL.of hl, atI_nat (j := 4) rfl, _, rfl, l, _, _, _, rfl, rfl, SqL.of hl, atI_nat (j := 5) rfl, _, rfl, l, _, _, _, rfl, rfl, SqL.of hl, atI_nat (j := 6) rfl, _, rfl, l, _, _, _, rfl, rfl, SqL.of hl, atI_nat (j := 7) rfl, _, rfl, l, _, _, _, rfl, rfl, SqL.of hl, atI_nat (j := 8) rfl, _, rfl, l, _, _, _, rfl, rfl, SqL.of hl, atI_nat (j := 9) rfl, _, rfl, l, _, _, _, rfl, rfl, SqL.of hl, atI_nat (j := 10) rfl, _, rfl, l, _, _, _, rfl, rfl, SqL.of hl, atI_nat (j := 11) rfl, _, rfl, l, _, _, _, rfl, rfl, SqL.of hl, atI_nat (j := 12) rfl, _, rfl, l, _, _, _, rfl, rfl, SqL.of hl, atI_nat (j := 13) rfl, _, rfl, l, _, _, _, rfl, rfl, SqL.of hl, atI_nat (j := 14) rfl, _, rfl, l, _, _, _, rfl, rfl, SqL.of hl, atI_nat (j := 15) rfl, _, rfl, l, _, _, _, rfl, rfl, SqL.of hl, atI_nat (j := 16) rfl, _, rfl, l, _, _, _, rfl, rfl, SqL.of hl, atI_nat (j := 17) rfl, _, rfl, l, _, _, _, rfl, rfl, SqL.of hl, atI_nat (j := 18) rfl, _, rfl, l, _, _, _, rfl, rfl, SqL.of hl, atI_nat (j := 19) rfl, _, rfl, l, _, _, _, rfl, rfl, SqL.of hl, atI_nat (j := 20) rfl, _, rfl, l, _, _, _, rfl, rfl, SqL.of hl, atI_nat (j := 21) rfl, _, rfl, l, _, _, _, rfl, rfl, SqL.of hl, atI_nat (j := 22) rfl, _, rfl, l, _, _, _, rfl, rfl, SqL.of hl, atI_nat (j := 23) rfl, _, rfl, l, _, _, _, rfl, rfl, SqL.of hl, atI_nat (j := 24) rfl, _, rfl, l, _, _, _, rfl, rfl, SqL.of hl, atI_nat (j := 25) rfl, _, rfl, l, _, _, _, rfl, rfl, SqL.of hl, atI_nat (j := 26) rfl, _, rfl, l, _, _, _, rfl, rfl, SqL.of hl, atI_nat (j := 27) rfl, _, rfl, l, _, _, _, rfl, rfl, SqL.of hl, atI_nat (j := 28) rfl, _, rfl, l, _, _, _, rfl, rfl, SqL.of hl, atI_nat (j := 29) rfl, _, rfl, l, _, _, _, rfl, rfl, SqL.of hl, atI_nat (j := 30) rfl, _, rfl, l, _, _, _, rfl, rfl, SqL.of hl, atI_nat (j := 31) rfl, _, rfl, l, _, _, _, rfl, rfl, SqL.of hl, atI_nat (j := 32) rfl, _, rfl, l, _, _, _, rfl, rfl, SqL.of hl, atI_nat (j := 33) rfl, _, rfl, l, _, _, _, rfl, rfl, SqL.of hl, atI_nat (j := 34) rfl, _, rfl, l, _, _, _, rfl, rfl, SqL.of hl, atI_nat (j := 35) rfl, _, rfl, l, _, _, _, rfl, rfl, SqL.of hl, atI_nat (j := 36) rfl, _, rfl, l, _, _, _, rfl, rfl, SqL.of hl, atI_nat (j := 37) rfl, _, rfl, l, _, _, _, rfl, rfl, SqL.of hl, atI_nat (j := 38) rfl, _, rfl, l, _, _, _, rfl, rfl, SqL.of hl, atI_nat (j := 39) rfl, R.use⟩
theorem ok_ring_of_41 {f C CI : Addr} {fd : FuncData} (F : Fun K "_law_ring_of_41" "_law_ring_of_41" s_law_ring_of_41 f fd) (gR : mg "Ring" = some (.ref C)) (D : ClsN P w K mg base C 4 (spRX K C CI)) : FnOk P w K mg base (L2N.CX P w) 6 f fd ["c"] (spRingN K C CI 41) := by
  refine okN F sc_law_ring_of_41 (fun vs H Q E h => ?_) (fun cdv A outer s H vs Q E hr h => ?_)
  · obtain ⟨l, us, rfl, _⟩ := h
    rfl
  · obtain ⟨l, us, rfl, hl, hn, R⟩ := h
    obtain ⟨u0, us0, e0, z0⟩ := len_succ hn
    subst e0
    obtain ⟨u1, us1, e1, z1⟩ := len_succ z0
    subst e1
    obtain ⟨u2, us2, e2, z2⟩ := len_succ z1
    subst e2
    obtain ⟨u3, us3, e3, z3⟩ := len_succ z2
    subst e3
    obtain ⟨u4, us4, e4, z4⟩ := len_succ z3
    subst e4
    obtain ⟨u5, us5, e5, z5⟩ := len_succ z4
    subst e5
    obtain ⟨u6, us6, e6, z6⟩ := len_succ z5
    subst e6
    obtain ⟨u7, us7, e7, z7⟩ := len_succ z6
    subst e7
    obtain ⟨u8, us8, e8, z8⟩ := len_succ z7
    subst e8
    obtain ⟨u9, us9, e9, z9⟩ := len_succ z8
    subst e9
    obtain ⟨u10, us10, e10, z10⟩ := len_succ z9
    subst e10
    obtain ⟨u11, us11, e11, z11⟩ := len_succ z10
    subst e11
    obtain ⟨u12, us12, e12, z12⟩ := len_succ z11
    subst e12
    obtain ⟨u13, us13, e13, z13⟩ := len_succ z12
    subst e13
    obtain ⟨u14, us14, e14, z14⟩ := len_succ z13
    subst e14
    obtain ⟨u15, us15, e15, z15⟩ := len_succ z14
    subst e15
    obtain ⟨u16, us16, e16, z16⟩ := len_succ z15
    subst e16
    obtain ⟨u17, us17, e17, z17⟩ := len_succ z16
    subst e17
    obtain ⟨u18, us18, e18, z18⟩ := len_succ z17
    subst e18
    obtain ⟨u19, us19, e19, z19⟩ := len_succ z18
    subst e19
    obtain ⟨u20, us20, e20, z20⟩ := len_succ z19
    subst e20
    obtain ⟨u21, us21, e21, z21⟩ := len_succ z20
    subst e21
    obtain ⟨u22, us22, e22, z22⟩ := len_succ z21
    subst e22
    obtain ⟨u23, us23, e23, z23⟩ := len_succ z22
    subst e23
    obtain ⟨u24, us24, e24, z24⟩ := len_succ z23
    subst e24
    obtain ⟨u25, us25, e25, z25⟩ := len_succ z24
    subst e25
    obtain ⟨u26, us26, e26, z26⟩ := len_succ z25
    subst e26
    obtain ⟨u27, us27, e27, z27⟩ := len_succ z26
    subst e27
    obtain ⟨u28, us28, e28, z28⟩ := len_succ z27
    subst e28
    obtain ⟨u29, us29, e29, z29⟩ := len_succ z28
    subst e29
    obtain ⟨u30, us30, e30, z30⟩ := len_succ z29
    subst e30
    obtain ⟨u31, us31, e31, z31⟩ := len_succ z30
    subst e31
    obtain ⟨u32, us32, e32, z32⟩ := len_succ z31
    subst e32
    obtain ⟨u33, us33, e33, z33⟩ := len_succ z32
    subst e33
    obtain ⟨u34, us34, e34, z34⟩ := len_succ z33
    subst e34
    obtain ⟨u35, us35, e35, z35⟩ := len_succ z34
    subst e35
    obtain ⟨u36, us36, e36, z36⟩ := len_succ z35
    subst e36
    obtain ⟨u37, us37, e37, z37⟩ := len_succ z36
    subst e37
    obtain ⟨u38, us38, e38, z38⟩ := len_succ z37
    subst e38
    obtain ⟨u39, us39, e39, z39⟩ := len_succ z38
    subst e39
    obtain ⟨u40, us40, e40, z40⟩ := len_succ z39
    subst e40
    obtain rfl := List.length_eq_zero_iff.mp z40
    refine ⟨_, pss_one (ps_ret (pe_ccn D gR hr psEn (pa_cons (pe_ix ix_list (pv 0) pe_int (fun _ _ => rfl)) (pa_cons (pe_ix ix_list (pv 0) pe_int (fun _ _ => rfl)) (pa_cons (pe_ix ix_list (pv 0) pe_int (fun _ _ => rfl)) (pa_cons (pe_ix ix_list (pv 0) pe_int (fun _ _ => rfl)) (pa_cons (pe_ix ix_list (pv 0) pe_int (fun _ _ => rfl)) (pa_cons (pe_ix ix_list (pv 0) pe_int (fun _ _ => rfl)) (pa_cons (pe_ix ix_list (pv 0) pe_int (fun _ _ => rfl)) (pa_cons (pe_ix ix_list (pv 0) pe_int (fun _ _ => rfl)) (pa_cons (pe_ix ix_list (pv 0) pe_int (fun _ _ => rfl)) (pa_cons (pe_ix ix_list (pv 0) pe_int (fun _ _ => rfl)) (pa_cons (pe_ix ix_list (pv 0) pe_int (fun _ _ => rfl)) (pa_cons (pe_ix ix_list (pv 0) pe_int (fun _ _ => rfl)) (pa_cons (pe_ix ix_list (pv 0) pe_int (fun _ _ => rfl)) (pa_cons (pe_ix ix_list (pv 0) pe_int (fun _ _ => rfl)) (pa_cons (pe_ix ix_list (pv 0) pe_int (fun _ _ => rfl)) (pa_cons (pe_ix ix_list (pv 0) pe_int (fun _ _ => rfl)) (pa_cons (pe_ix ix_list (pv 0) pe_int (fun _ _ => rfl)) (pa_cons (pe_ix ix_list (pv 0) pe_int (fun _ _ => rfl)) (pa_cons (pe_ix ix_list (pv 0) pe_int (fun _ _ => rfl)) (pa_cons (pe_ix ix_list (pv 0) pe_int (fun _ _ => rfl)) (pa_cons (pe_ix ix_list (pv 0) pe_int (fun _ _ => rfl)) (pa_cons (pe_ix ix_list (pv 0) pe_int (fun _ _ => rfl)) (pa_cons (pe_ix ix_list (pv 0) pe_int (fun _ _ => rfl)) (pa_cons (pe_ix ix_list (pv 0) pe_int (fun _ _ => rfl)) (pa_cons (pe_ix ix_list (pv 0) pe_int (fun _ _ => rfl)) (pa_cons (pe_ix ix_list (pv 0) pe_int (fun _ _ => rfl)) (pa_cons (pe_ix ix_list (pv 0) pe_int (fun _ _ => rfl)) (pa_cons (pe_ix ix_list (pv 0) pe_int (fun _ _ => rfl)) (pa_cons (pe_ix ix_list (pv 0) pe_int (fun _ _ => rfl)) (pa_cons (pe_ix ix_list (pv 0) pe_int (fun _ _ => rfl)) (pa_cons (pe_ix ix_list (pv 0) pe_int (fun _ _ => rfl)) (pa_cons (pe_ix ix_list (pv 0) pe_int (fun _ _ => rfl)) (pa_cons (pe_ix ix_list (pv 0) pe_int (fun _ _ => rfl)) (pa_cons (pe_ix ix_list (pv 0) pe_int (fun _ _ => rfl)) (pa_cons (pe_ix ix_list (pv 0) pe_int (fun _ _ => rfl)) (pa_cons (pe_ix ix_list (pv 0) pe_int (fun _ _ => rfl)) (pa_cons (pe_ix ix_list (pv 0) pe_int (fun _ _ => rfl)) (pa_cons (pe_ix ix_list (pv 0) pe_int (fun _ _ => rfl)) (pa_cons (pe_ix ix_list (pv 0) pe_int (fun _ _ => rfl)) (pa_cons (pe_ix ix_list (pv 0) pe_int (fun _ _ => rfl)) (pa_cons (pe_ix ix_list (pv 0) pe_int (fun _ _ => rfl)) pa_nil))))))))))))))))))))))))))))))))))))))))))), ?_⟩
    exact ⟨_, rfl, l, _, _, _, rfl, rfl, SqL.of hl, atI_nat (j := 0) rfl, _, rfl, l, _, _, _, rfl, rfl, SqL.of hl, atI_nat (j := 1) rfl, _, rfl, l, _, _, _, rfl, rfl, SqL.of hl, atI_nat (j := 2) rfl, _, rfl, l, _, _, _, rfl, rfl, SqL.of hl, atI_nat (j := 3) rfl, _, rfl, l, _, _, _, rfl, rfl, SqL.of hl, atI_nat (j := 4) rfl, _, rfl, l, _, _, _, rfl, rfl, SqL.of hl, atI_nat (j := 5) rfl, _, rfl, l, _, _, _, rfl, rfl, SqL.of hl, atI_nat (j := 6) rfl, _, rfl, l, _, _, _, rfl, rfl, SqL.of hl, atI_nat (j := 7) rfl, _, rfl, l, _, _, _, rfl, rfl, SqL.of hl, atI_nat (j := 8) rfl, _, rfl, l, _, _, _, rfl, rfl, SqL.of hl, atI_nat (j := 9) rfl, _, rfl, l, _, _, _, rfl, rfl, SqL.of hl, atI_nat (j := 10) rfl, _, rfl, l, _, _, _, rfl, rfl, SqL.of hl, atI_nat (j := 11) rfl, _, rfl, l, _, _, _, rfl, rfl, SqL.of hl, atI_nat (j := 12) rfl, _, rfl, l, _, _, _, rfl, rfl, SqL.of hl, atI_nat (j := 13) rfl, _, rfl, l, _, _, _, rfl, rfl, SqL.of hl, atI_nat (j := 14) rfl, _, rfl, l, _, _, _, rfl, rfl, SqL.of hl, atI_nat (j := 15) rfl, _, rfl, l, _, _, _, rfl, rfl, SqL.of hl, atI_nat (j := 16) rfl, _, rfl, l, _, _, _, rfl, rfl, SqL.of hl, atI_nat (j := 17) rfl, _, rfl, l, _, _, _, rfl, rfl, SqL.of hl, atI_nat (j := 18) rfl, _, rfl, l, _, _, _, rfl, rfl, SqL.of hl, atI_nat (j := 19) rfl, _, rfl, l, _, _, _, rfl, rfl, SqL.of hl, atI_nat (j := 20) rfl, _, rfl, l, _, _, _, rfl, rfl, SqL.of hl, atI_nat (j := 21) rfl, _, rfl, l, _, _, _, rfl, rfl, SqL.of hl, atI_nat (j := 22) rfl, _, rfl, l, _, _, _, rfl, rfl, SqL.of hl, atI_nat (j := 23) rfl, _, rfl, l, _, _, _, rfl, rfl, SqL.of hl, atI_nat (j := 24) rfl, _, rfl, l, _, _, _, rfl, rfl, SqL.of hl, atI_nat (j := 25) rfl, _, rfl, l, _, _, _, rfl, rfl, SqL.of hl, atI_nat (j := 26) rfl, _, rfl, l, _, _, _, rfl, rfl, SqL.of hl, atI_nat (j := 27) rfl, _, rfl, l, _, _, _, rfl, rfl, SqL.of hl, atI_nat (j := 28) rfl, _, rfl, l, _, _, _, rfl, rfl, SqL.of hl, atI_nat (j := 29) rfl, _, rfl, l, _, _, _, rfl, rfl, SqL.of hl, atI_nat (j := 30) rfl, _, rfl, l, _, _, _, rfl, rfl, SqL.of hl, atI_nat (j := 31) rfl, _, rfl, l, _, _, _, rfl, rfl, SqL.of hl, atI_nat (j := 32) rfl, _, rfl, l, _, _, _, rfl, rfl, SqL.of hl, atI_nat (j := 33) rfl, _, rfl, l, _, _, _, rfl, rfl, SqL.of hl, atI_nat (j := 34) rfl, _, rfl, l, _, _, _, rfl, rfl, SqL.of hl, atI_nat (j := 35) rfl, _, rfl, l, _, _, _, rfl, rfl, SqL.of hl, atI_nat (j := 36) rfl, _, rfl, l, _, _, _, rfl, rfl, SqL.of hl, atI_nat (j := 37) rfl, _, rfl, l, _, _, _, rfl, rfl, SqL.of hl, atI_nat (j := 38) rfl, _, rfl, l, _, _, _, rfl, rfl, SqL.of hl, atI_nat (j := 39) rfl, _, rfl, l, _, _, _, rfl, rfl, SqL.of hl, atI_nat (j := 40) rfl, R.use⟩
theorem ok_row_of_39 {f C CI : Addr} {fd : FuncData} (F : Fun K "_law_row_of_39" "_law_row_of_39" s_law_row_of_39 f fd) (gP : mg "Pipeline" = some (.ref C)) (D : RowN P w K mg base C CI) : FnOk P w K mg base (L2N.CX P w) 7 f fd ["c"] (spRowN K C CI 39) := by
  refine okN F sc_law_row_of_39 (fun vs H Q E h => ?_) (fun cdv A outer s H vs Q E hr h => ?_)
  · obtain ⟨l, us, rfl, _⟩ := h
    rfl
  · obtain ⟨l, us, rfl, hl, hn, R⟩ := h
    obtain ⟨mc, p, g, r, c, FR⟩ := D.ex
    obtain ⟨u0, us0, e0, z0⟩ := len_succ hn
    subst e0
    obtain ⟨u1, us1, e1, z1⟩ := len_succ z0
    subst e1
    obtain ⟨u2, us2, e2, z2⟩ := len_succ z1
    subst e2
    obtain ⟨u3, us3, e3, z3⟩ := len_succ z2
    subst e3
    obtain ⟨u4, us4, e4, z4⟩ := len_succ z3
    subst e4
    obtain ⟨u5, us5, e5, z5⟩ := len_succ z4
    subst e5
    obtain ⟨u6, us6, e6, z6⟩ := len_succ z5
    subst e6
    obtain ⟨u7, us7, e7, z7⟩ := len_succ z6
    subst e7
    obtain ⟨u8, us8, e8, z8⟩ := len_succ z7
    subst e8
    obtain ⟨u9, us9, e9, z9⟩ := len_succ z8
    subst e9
    obtain ⟨u10, us10, e10, z10⟩ := len_succ z9
    subst e10
    obtain ⟨u11, us11, e11, z11⟩ := len_succ z10
    subst e11
    obtain ⟨u12, us12, e12, z12⟩ := len_succ z11
    subst e12
    obtain ⟨u13, us13, e13, z13⟩ := len_succ z12
    subst e13
    obtain ⟨u14, us14, e14, z14⟩ := len_succ z13
    subst e14
    obtain ⟨u15, us15, e15, z15⟩ := len_succ z14
    subst e15
    obtain ⟨u16, us16, e16, z16⟩ := len_succ z15
    subst e16
    obtain ⟨u17, us17, e17, z17⟩ := len_succ z16
    subst e17
    obtain ⟨u18, us18, e18, z18⟩ := len_succ z17
    subst e18
    obtain ⟨u19, us19, e19, z19⟩ := len_succ z18
    subst e19
    obtain ⟨u20, us20, e20, z20⟩ := len_succ z19
    subst e20
    obtain ⟨u21, us21, e21, z21⟩ := len_succ z20
    subst e21
    obtain ⟨u22, us22, e22, z22⟩ := len_succ z21
    subst e22
    obtain ⟨u23, us23, e23, z23⟩ := len_succ z22
    subst e23
    obtain ⟨u24, us24, e24, z24⟩ := len_succ z23
    subst e24
    obtain ⟨u25, us25, e25, z25⟩ := len_succ z24
    subst e25
    obtain ⟨u26, us26, e26, z26⟩ := len_succ z25
    subst e26
    obtain ⟨u27, us27, e27, z27⟩ := len_succ z26
    subst e27
    obtain ⟨u28, us28, e28, z28⟩ := len_succ z27
    subst e28
    obtain ⟨u29, us29, e29, z29⟩ := len_succ z28
    subst e29
    obtain ⟨u30, us30, e30, z30⟩ := len_succ z29
    subst e30
    obtain ⟨u31, us31, e31, z31⟩ := len_succ z30
    subst e31
    obtain ⟨u32, us32, e32, z32⟩ := len_succ z31
    subst e32
    obtain ⟨u33, us33, e33, z33⟩ := len_succ z32
    subst e33
    obtain ⟨u34, us34, e34, z34⟩ := len_succ z33
    subst e34
    obtain ⟨u35, us35, e35, z35⟩ := len_succ z34
    subst e35
    obtain ⟨u36, us36, e36, z36⟩ := len_succ z35
    subst e36
    obtain ⟨u37, us37, e37, z37⟩ := len_succ z36
    subst e37
    obtain ⟨u38, us38, e38, z38⟩ := len_succ z37
    subst e38
    obtain rfl := List.length_eq_zero_iff.mp z38
    refine ⟨_, pss_one (ps_ret (pe_cmethL (pe_glob (v := .ref C) (by rfl) gP rfl) r c FR hr psEn (pa_cons (pe_ix ix_list (pv 0) pe_int (fun _ _ => rfl)) (pa_cons (pe_ix ix_list (pv 0) pe_int (fun _ _ => rfl)) (pa_cons (pe_ix ix_list (pv 0) pe_int (fun _ _ => rfl)) (pa_cons (pe_ix ix_list (pv 0) pe_int (fun _ _ => rfl)) (pa_cons (pe_ix ix_list (pv 0) pe_int (fun _ _ => rfl)) (pa_cons (pe_ix ix_list (pv 0) pe_int (fun _ _ => rfl)) (pa_cons (pe_ix ix_list (pv 0) pe_int (fun _ _ => rfl)) (pa_cons (pe_ix ix_list (pv 0) pe_int (fun _ _ => rfl)) (pa_cons (pe_ix ix_list (pv 0) pe_int (fun _ _ => rfl)) (pa_cons (pe_ix ix_list (pv 0) pe_int (fun _ _ => rfl)) (pa_cons (pe_ix ix_list (pv 0) pe_int (fun _ _ => rfl)) (pa_cons (pe_ix ix_list (pv 0) pe_int (fun _ _ => rfl)) (pa_cons (pe_ix ix_list (pv 0) pe_int (fun _ _ => rfl)) (pa_cons (pe_ix ix_list (pv 0) pe_int (fun _ _ => rfl)) (pa_cons (pe_ix ix_list (pv 0) pe_int (fun _ _ => rfl)) (pa_cons (pe_ix ix_list (pv 0) pe_int (fun _ _ => rfl)) (pa_cons (pe_ix ix_list (pv 0) pe_int (fun _ _ => rfl)) (pa_cons (pe_ix ix_list (pv 0) pe_int (fun _ _ => rfl)) (pa_cons (pe_ix ix_list (pv 0) pe_int (fun _ _ => rfl)) (pa_cons (pe_ix ix_list (pv 0) pe_int (fun _ _ => rfl)) (pa_cons (pe_ix ix_list (pv 0) pe_int (fun _ _ => rfl)) (pa_cons (pe_ix ix_list (pv 0) pe_int (fun _ _ => rfl)) (pa_cons (pe_ix ix_list (pv 0) pe_int (fun _ _ => rfl)) (pa_cons (pe_ix ix_list (pv 0) pe_int (fun _ _ => rfl)) (pa_cons (pe_ix ix_list (pv 0) pe_int (fun _ _ => rfl)) (pa_cons (pe_ix ix_list (pv 0) pe_int (fun _ _ => rfl)) (pa_cons (pe_ix ix_list (pv 0) pe_int (fun _ _ => rfl)) (pa_cons (pe_ix ix_list (pv 0) pe_int (fun _ _ => rfl)) (pa_cons (pe_ix ix_list (pv 0) pe_int (fun _ _ => rfl)) (pa_cons (pe_ix ix_list (pv 0) pe_int (fun _ _ => rfl)) (pa_cons (pe_ix ix_list (pv 0) pe_int (fun _ _ => rfl)) (pa_cons (pe_ix ix_list (pv 0) pe_int (fun _ _ => rfl)) (pa_cons (pe_ix ix_list (pv 0) pe_int (fun _ _ => rfl)) (pa_cons (pe_ix ix_list (pv 0) pe_int (fun _ _ => rfl)) (pa_cons (pe_ix ix_list (pv 0) pe_int (fun _ _ => rfl)) (pa_cons (pe_ix ix_list (pv 0) pe_int (fun _ _ => rfl)) (pa_cons (pe_ix ix_list (pv 0) pe_int (fun _ _ => rfl)) (pa_cons (pe_ix ix_list (pv 0) pe_int (fun _ _ => rfl)) (pa_cons (pe_ix ix_list (pv 0) pe_int (fun _ _ => rfl)) pa_nil))))))))))))))))))))))))))))))))))))))))), ?_⟩
    exact ⟨rfl, _, rfl, l, _, _, _, rfl, rfl, SqL.of hl, atI_nat (j := 0) rfl, _, rfl, l, _, _, _, rfl, rfl, SqL.of hl, atI_nat (j := 1) rfl, _, rfl, l, _, _, _, rfl, rfl, SqL.of hl, atI_nat (j := 2) rfl, _, rfl, l, _, _, _, rfl, rfl, SqL.of hl, atI_nat (j := 3) rfl, _, rfl, l, _, _, _, rfl, rfl, SqL.of hl, atI_nat (j := 4) rfl, _, rfl, l, _, _, _, rfl, rfl, SqL.of hl, atI_nat (j := 5) rfl, _, rfl, l, _, _, _, rfl, rfl, SqL.of hl, atI_nat (j := 6) rfl, _, rfl, l, _, _, _, rfl, rfl, SqL.of hl, atI_nat (j := 7) rfl, _, rfl, l, _, _, _, rfl, rfl, SqL.of hl, atI_nat (j := 8) rfl, _, rfl, l, _, _, _, rfl, rfl, SqL.of hl, atI_nat (j := 9) rfl, _, rfl, l, _, _, _, rfl, rfl, SqL.of hl, atI_nat (j := 10) rfl, _, rfl, l, _, _, _, rfl, rfl, SqL.of hl, atI_nat (j := 11) rfl, _, rfl, l, _, _, _, rfl, rfl, SqL.of hl, atI_nat (j := 12) rfl, _, rfl, l, _, _, _, rfl, rfl, SqL.of hl, atI_nat (j := 13) rfl, _, rfl, l, _, _, _, rfl, rfl, SqL.of hl, atI_nat (j := 14) rfl, _, rfl, l, _, _, _, rfl, rfl, SqL.of hl, atI_nat (j := 15) rfl, _, rfl, l, _, _, _, rfl, rfl, SqL.of hl, atI_nat (j := 16) rfl, _, rfl, l, _, _, _, rfl, rfl, SqL.of hl, atI_nat (j := 17) rfl, _, rfl, l, _, _, _, rfl, rfl, SqL.of hl, atI_nat (j := 18) rfl, _, rfl, l, _, _, _, rfl, rfl, SqL.of hl, atI_nat (j := 19) rfl, _, rfl, l, _, _, _, rfl, rfl, SqL.of hl, atI_nat (j := 20) rfl, _, rfl, l, _, _, _, rfl, rfl, SqL.of hl, atI_nat (j := 21) rfl, _, rfl, l, _, _, _, rfl, rfl, SqL.of hl, atI_nat (j := 22) rfl, _, rfl, l, _, _, _, rfl, rfl, SqL.of hl, atI_nat (j := 23) rfl, _, rfl, l, _, _, _, rfl, rfl, SqL.of hl, atI_nat (j := 24) rfl, _, rfl, l, _, _, _, rfl, rfl, SqL.of hl, atI_nat (j := 25) rfl, _, rfl, l, _, _, _, rfl, rfl, SqL.of hl, atI_nat (j := 26) rfl, _, rfl, l, _, _, _, rfl, rfl, SqL.of hl, atI_nat (j := 27) rfl, _, rfl, l, _, _, _, rfl, rfl, SqL.of hl, atI_nat (j := 28) rfl, _, rfl, l, _, _, _, rfl, rfl, SqL.of hl, atI_nat (j := 29) rfl, _, rfl, l, _, _, _, rfl, rfl, SqL.of hl, atI_nat (j := 30) rfl, _, rfl, l, _, _, _, rfl, rfl, SqL.of hl, atI_nat (j := 31) rfl, _, rfl, l, _, _, _, rfl, rfl, SqL.of hl, atI_nat (j := 32) rfl, _, rfl, l, _, _, _, rfl, rfl, SqL.of hl, atI_nat (j := 33) rfl, _, rfl, l, _, _, _, rfl, rfl, SqL.of hl, atI_nat (j := 34) rfl, _, rfl, l, _, _, _, rfl, rfl, SqL.of hl, atI_nat (j := 35) rfl, _, rfl, l, _, _, _, rfl, rfl, SqL.of hl, atI_nat (j := 36) rfl, _, rfl, l, _, _, _, rfl, rfl, SqL.of hl, atI_nat (j := 37) rfl, _, rfl, l, _, _, _, rfl, rfl, SqL.of hl, atI_nat (j := 38) rfl, _, rfl, R⟩
theorem ok_row_of_40 {f C CI : Addr} {fd : FuncData} (F : Fun K "_law_row_of_40" "_law_row_of_40" s_law_row_of_40 f fd) (gP : mg "Pipeline" = some (.ref C)) (D : RowN P w K mg base C CI) : FnOk P w K mg base (L2N.CX P w) 7 f fd ["c"] (spRowN K C CI 40) := by
  refine okN F sc_law_row_of_40 (fun vs H Q E h => ?_) (fun cdv A outer s H vs Q E hr h => ?_)
  · obtain ⟨l, us, rfl, _⟩ := h
    rfl
  · obtain ⟨l, us, rfl, hl, hn, R⟩ := h
    obtain ⟨mc, p, g, r, c, FR⟩ := D.ex
    obtain ⟨u0, us0, e0, z0⟩ := len_succ hn
    subst e0
    obtain ⟨u1, us1, e1, z1⟩ := len_succ z0
    subst e1
    obtain ⟨u2, us2, e2, z2⟩ := len_succ z1
    subst e2
    obtain ⟨u3, us3, e3, z3⟩ := len_succ z2
    subst e3
    obtain ⟨u4, us4, e4, z4⟩ := len_succ z3
    subst e4
    obtain ⟨u5, us5, e5, z5⟩ := len_succ z4
    subst e5
    obtain ⟨u6, us6, e6, z6⟩ := len_succ z5
    subst e6
    obtain ⟨u7, us7, e7, z7⟩ := len_succ z6
    subst e7
    obtain ⟨u8, us8, e8, z8⟩ := len_succ z7
    subst e8
    obtain ⟨u9, us9, e9, z9⟩ := len_succ z8
    subst e9
    obtain ⟨u10, us10, e10, z10⟩ := len_succ z9
    subst e10
    obtain ⟨u11, us11, e11, z11⟩ := len_succ z10
    subst e11
    obtain ⟨u12, us12, e12, z12⟩ := len_succ z11
    subst e12
    obtain ⟨u13, us13, e13, z13⟩ := len_succ z12
    subst e13
    obtain ⟨u14, us14, e14, z14⟩ := len_succ z13
    subst e14
    obtain ⟨u15, us15, e15, z15⟩ := len_succ z14
    subst e15
    obtain ⟨u16, us16, e16, z16⟩ := len_succ z15
    subst e16
    obtain ⟨u17, us17, e17, z17⟩ := len_succ z16
    subst e17
    obtain ⟨u18, us18, e18, z18⟩ := len_succ z17
    subst e18
    obtain ⟨u19, us19, e19, z19⟩ := len_succ z18
    subst e19
    obtain ⟨u20, us20, e20, z20⟩ := len_succ z19
    subst e20
    obtain ⟨u21, us21, e21, z21⟩ := len_succ z20
    subst e21
    obtain ⟨u22, us22, e22, z22⟩ := len_succ z21
    subst e22
    obtain ⟨u23, us23, e23, z23⟩ := len_succ z22
    subst e23
    obtain ⟨u24, us24, e24, z24⟩ := len_succ z23
    subst e24
    obtain ⟨u25, us25, e25, z25⟩ := len_succ z24
    subst e25
    obtain ⟨u26, us26, e26, z26⟩ := len_succ z25
    subst e26
    obtain ⟨u27, us27, e27, z27⟩ := len_succ z26
    subst e27
    obtain ⟨u28, us28, e28, z28⟩ := len_succ z27
    subst e28
    obtain ⟨u29, us29, e29, z29⟩ := len_succ z28
    subst e29
    obtain ⟨u30, us30, e30, z30⟩ := len_succ z29
    subst e30
    obtain ⟨u31, us31, e31, z31⟩ := len_succ z30
    subst e31
    obtain ⟨u32, us32, e32, z32⟩ := len_succ z31
    subst e32
    obtain ⟨u33, us33, e33, z33⟩ := len_succ z32
    subst e33
    obtain ⟨u34, us34, e34, z34⟩ := len_succ z33
    subst e34
    obtain ⟨u35, us35, e35, z35⟩ := len_succ z34
    subst e35
    obtain ⟨u36, us36, e36, z36⟩ := len_succ z35
    subst e36
    obtain ⟨u37, us37, e37, z37⟩ := len_succ z36
    subst e37
    obtain ⟨u38, us38, e38, z38⟩ := len_succ z37
    subst e38
    obtain ⟨u39, us39, e39, z39⟩ := len_succ z38
    subst e39
    obtain rfl := List.length_eq_zero_iff.mp z39
    refine ⟨_, pss_one (ps_ret (pe_cmethL (pe_glob (v := .ref C) (by rfl) gP rfl) r c FR hr psEn (pa_cons (pe_ix ix_list (pv 0) pe_int (fun _ _ => rfl)) (pa_cons (pe_ix ix_list (pv 0) pe_int (fun _ _ => rfl)) (pa_cons (pe_ix ix_list (pv 0) pe_int (fun _ _ => rfl)) (pa_cons (pe_ix ix_list (pv 0) pe_int (fun _ _ => rfl)) (pa_cons (pe_ix ix_list (pv 0) pe_int (fun _ _ => rfl)) (pa_cons (pe_ix ix_list (pv 0) pe_int (fun _ _ => rfl)) (pa_cons (pe_ix ix_list (pv 0) pe_int (fun _ _ => rfl)) (pa_cons (pe_ix ix_list (pv 0) pe_int (fun _ _ => rfl)) (pa_cons (pe_ix ix_list (pv 0) pe_int (fun _ _ => rfl)) (pa_cons (pe_ix ix_list (pv 0) pe_int (fun _ _ => rfl)) (pa_cons (pe_ix ix_list (pv 0) pe_int (fun _ _ => rfl)) (pa_cons (pe_ix ix_list (pv 0) pe_int (fun _ _ => rfl)) (pa_cons (pe_ix ix_list (pv 0) pe_int (fun _ _ => rfl)) (pa_cons (pe_ix ix_list (pv 0) pe_int (fun _ _ => rfl)) (pa_cons (pe_ix ix_list (pv 0) pe_int (fun _ _ => rfl)) (pa_cons (pe_ix ix_list (pv 0) pe_int (fun _ _ => rfl)) (pa_cons (pe_ix ix_list (pv 0) pe_int (fun _ _ => rfl)) (pa_cons (pe_ix ix_list (pv 0) pe_int (fun _ _ => rfl)) (pa_cons (pe_ix ix_list (pv 0) pe_int (fun _ _ => rfl)) (pa_cons (pe_ix ix_list (pv 0) pe_int (fun _ _ => rfl)) (pa_cons (pe_ix ix_list (pv 0) pe_int (fun _ _ => rfl)) (pa_cons (pe_ix ix_list (pv 0) pe_int (fun _ _ => rfl)) (pa_cons (pe_ix ix_list (pv 0) pe_int (fun _ _ => rfl)) (pa_cons (pe_ix ix_list (pv 0) pe_int (fun _ _ => rfl)) (pa_cons (pe_ix ix_list (pv 0) pe_int (fun _ _ => rfl)) (pa_cons (pe_ix ix_list (pv 0) pe_int (fun _ _ => rfl)) (pa_cons (pe_ix ix_list (pv 0) pe_int (fun _ _ => rfl)) (pa_cons (pe_ix ix_list (pv 0) pe_int (fun _ _ => rfl)) (pa_cons (pe_ix ix_list (pv 0) pe_int (fun _ _ => rfl)) (pa_cons (pe_ix ix_list (pv 0) pe_int (fun _ _ => rfl)) (pa_cons (pe_ix ix_list (pv 0) pe_int (fun _ _ => rfl)) (pa_cons (pe_ix ix_list (pv 0) pe_int (fun _ _ => rfl)) (pa_cons (pe_ix ix_list (pv 0) pe_int (fun _ _ => rfl)) (pa_cons (pe_ix ix_list (pv 0) pe_int (fun _ _ => rfl)) (pa_cons (pe_ix ix_list (pv 0) pe_int (fun _ _ => rfl)) (pa_cons (pe_ix ix_list (pv 0) pe_int (fun _ _ => rfl)) (pa_cons (pe_ix ix_list (pv 0) pe_int (fun _ _ => rfl)) (pa_cons (pe_ix ix_list (pv 0) pe_int (fun _ _ => rfl)) (pa_cons (pe_ix ix_list (pv 0) pe_int (fun _ _ => rfl)) (pa_cons (pe_ix ix_list (pv 0) pe_int (fun _ _ => rfl)) pa_nil)))))))))))))))))))))))))))))))))))))))))), ?_⟩
    exact ⟨rfl, _, rfl, l, _, _, _, rfl, rfl, SqL.of hl, atI_nat (j := 0) rfl, _, rfl, l, _, _, _, rfl, rfl, SqL.of hl, atI_nat (j := 1) rfl, _, rfl, l, _, _, _, rfl, rfl, SqL.of hl, atI_nat (j := 2) rfl, _, rfl, l, _, _, _, rfl, rfl, SqL.of hl, atI_nat (j := 3) rfl, _, rfl, l, _, _, _, rfl, rfl, SqL.of hl, atI_nat (j := 4) rfl, _, rfl, l, _, _, _, rfl, rfl, SqL.of hl, atI_nat (j := 5) rfl, _, rfl, l, _, _, _, rfl, rfl, SqL.of hl, atI_nat (j := 6) rfl, _, rfl, l, _, _, _, rfl, rfl, SqL.of hl, atI_nat (j := 7) rfl, _, rfl, l, _, _, _, rfl, rfl, SqL.of hl, atI_nat (j := 8) rfl, _, rfl, l, _, _, _, rfl, rfl, SqL.of hl, atI_nat (j := 9) rfl, _, rfl, l, _, _, _, rfl, rfl, SqL.of hl, atI_nat (j := 10) rfl, _, rfl, l, _, _, _, rfl, rfl, SqL.of hl, atI_nat (j := 11) rfl, _, rfl, l, _, _, _, rfl, rfl, SqL.of hl, atI_nat (j := 12) rfl, _, rfl, l, _, _, _, rfl, rfl, SqL.of hl, atI_nat (j := 13) rfl, _, rfl, l, _, _, _, rfl, rfl, SqL.of hl, atI_nat (j := 14) rfl, _, rfl, l, _, _, _, rfl, rfl, SqL.of hl, atI_nat (j := 15) rfl, _, rfl, l, _, _, _, rfl, rfl, SqL.of hl, atI_nat (j := 16) rfl, _, rfl, l, _, _, _, rfl, rfl, SqL.of hl, atI_nat (j := 17) rfl, _, rfl, l, _, _, _, rfl, rfl, SqL.of hl, atI_nat (j := 18) rfl, _, rfl, l, _, _, _, rfl, rfl, SqL.of hl, atI_nat (j := 19) rfl, _, rfl, l, _, _, _, rfl, rfl, SqL.of hl, atI_nat (j := 20) rfl, _, rfl, l, _, _, _, rfl, rfl, SqL.of hl, atI_nat (j := 21) rfl, _, rfl, l, _, _, _, rfl, rfl, SqL.of hl, atI_nat (j := 22) rfl, _, rfl, l, _, _, _, rfl, rfl, SqL.of hl, atI_nat (j := 23) rfl, _, rfl, l, _, _, _, rfl, rfl, SqL.of hl, atI_nat (j := 24) rfl, _, rfl, l, _, _, _, rfl, rfl, SqL.of hl, atI_nat (j := 25) rfl, _, rfl, l, _, _, _, rfl, rfl, SqL.of hl, atI_nat (j := 26) rfl, _, rfl, l, _, _, _, rfl, rfl, SqL.of hl, atI_nat (j := 27) rfl, _, rfl, l, _, _, _, rfl, rfl, SqL.of hl, atI_nat (j := 28) rfl, _, rfl, l, _, _, _, rfl, rfl, SqL.of hl, atI_nat (j := 29) rfl, _, rfl, l, _, _, _, rfl, rfl, SqL.of hl, atI_nat (j := 30) rfl, _, rfl, l, _, _, _, rfl, rfl, SqL.of hl, atI_nat (j := 31) rfl, _, rfl, l, _, _, _, rfl, rfl, SqL.of hl, atI_nat (j := 32) rfl, _, rfl, l, _, _, _, rfl, rfl, SqL.of hl, atI_nat (j := 33) rfl, _, rfl, l, _, _, _, rfl, rfl, SqL.of hl, atI_nat (j := 34) rfl, _, rfl, l, _, _, _, rfl, rfl, SqL.of hl, atI_nat (j := 35) rfl, _, rfl, l, _, _, _, rfl, rfl, SqL.of hl, atI_nat (j := 36) rfl, _, rfl, l, _, _, _, rfl, rfl, SqL.of hl, atI_nat (j := 37) rfl, _, rfl, l, _, _, _, rfl, rfl, SqL.of hl, atI_nat (j := 38) rfl, _, rfl, l, _, _, _, rfl, rfl, SqL.of hl, atI_nat (j := 39) rfl, _, rfl, R⟩
theorem ok_law_ring {f C CI : Addr} {fd : FuncData} (F : Fun K "_law_ring" "_law_ring" s_law_ring f fd) (B : Blt mg) (gR : mg "Ring" = some (.ref C)) (D : ClsN P w K mg base C 4 (spRX K C CI)) (g_law_ring_of_40 : DefN P w K mg base "_law_ring_of_40" 6 (spRingN K C CI 40)) (g_law_ring_of_41 : DefN P w K mg base "_law_ring_of_41" 6 (spRingN K C CI 41)) : FnOk P w K mg base (L2N.CX P w) 7 f fd ["c"] (spLRing K C CI) := by
  refine okN F sc_law_ring (fun vs H Q E h => ?_) (fun cdv A outer s H vs Q E hr h => ?_)
  · obtain ⟨l, us, rfl, _⟩ := h
    rfl
  · obtain ⟨l, us, rfl, hl, hn, R⟩ := h
    refine ⟨_, (pss_cons (ps_if (pt_cmpR op_eq (pe_callB call_len_seq (by rfl) B.len bt_len (pa_cons (pv 0) pa_nil)) pe_int (nomark _)) (pss_one (ps_ret (pe_cc0n D gR hr psEn))) pss_nil)
      (pss_cons (ps_if (pt_cmpR op_eq (pe_callB call_len_seq (by rfl) B.len bt_len (pa_cons (pv 0) pa_nil)) pe_int (nomark _)) (pss_one (ps_ret (pe_ccn D gR hr psEn (pa_cons (pe_ix ix_list (pv 0) pe_int (fun _ _ => rfl)) pa_nil)))) pss_nil)
      (pss_cons (ps_if (pt_cmpR op_eq (pe_callB call_len_seq (by rfl) B.len bt_len (pa_cons (pv 0) pa_nil)) pe_int (nomark _)) (pss_one (ps_ret (pe_ccn D gR hr psEn (pa_cons (pe_ix ix_list (pv 0) pe_int (fun _ _ => rfl)) (pa_cons (pe_ix ix_list (pv 0) pe_int (fun _ _ => rfl)) pa_nil))))) pss_nil)
      (pss_cons (ps_if (pt_cmpR op_eq (pe_callB call_len_seq (by rfl) B.len bt_len (pa_cons (pv 0) pa_nil)) pe_int (nomark _)) (pss_one (ps_ret (pe_ccn D gR hr psEn (pa_cons (pe_ix ix_list (pv 0) pe_int (fun _ _ => rfl)) (pa_cons (pe_ix ix_list (pv 0) pe_int (fun _ _ => rfl)) (pa_cons (pe_ix ix_list (pv 0) pe_int (fun _ _ => rfl)) pa_nil)))))) pss_nil)
      (pss_cons (ps_if (pt_cmpR op_eq (pe_callB call_len_seq (by rfl) B.len bt_len (pa_cons (pv 0) pa_nil)) pe_int (nomark _)) (pss_one (ps_ret (pe_ccn D gR hr psEn (pa_cons (pe_ix ix_list (pv 0) pe_int (fun _ _ => rfl)) (pa_cons (pe_ix ix_list (pv 0) pe_int (fun _ _ => rfl)) (pa_cons (pe_ix ix_list (pv 0) pe_int (fun _ _ => rfl)) (pa_cons (pe_ix ix_list (pv 0) pe_int (fun _ _ => rfl)) pa_nil))))))) pss_nil)
      (pss_cons (ps_if (pt_cmpR op_eq (pe_callB call_len_seq (by rfl) B.len bt_len (pa_cons (pv 0) pa_nil)) pe_int (nomark _)) (pss_one (ps_ret (pe_ccn D gR hr psEn (pa_cons (pe_ix ix_list (pv 0) pe_int (fun _ _ => rfl)) (pa_cons (pe_ix ix_list (pv 0) pe_int (fun _ _ => rfl)) (pa_cons (pe_ix ix_list (pv 0) pe_int (fun _ _ => rfl)) (pa_cons (pe_ix ix_list (pv 0) pe_int (fun _ _ => rfl)) (pa_cons (pe_ix ix_list (pv 0) pe_int (fun _ _ => rfl)) pa_nil)))))))) pss_nil)
      (pss_cons (ps_if (pt_cmpR op_eq (pe_callB call_len_seq (by rfl) B.len bt_len (pa_cons (pv 0) pa_nil)) pe_int (nomark _)) (pss_one (ps_ret (pe_ccn D gR hr psEn (pa_cons (pe_ix ix_list (pv 0) pe_int (fun _ _ => rfl)) (pa_cons (pe_ix ix_list (pv 0) pe_int (fun _ _ => rfl)) (pa_cons (pe_ix ix_list (pv 0) pe_int (fun _ _ => rfl)) (pa_cons (pe_ix ix_list (pv 0) pe_int (fun _ _ => rfl)) (pa_cons (pe_ix ix_list (pv 0) pe_int (fun _ _ => rfl)) (pa_cons (pe_ix ix_list (pv 0) pe_int (fun _ _ => rfl)) pa_nil))))))))) pss_nil)
      (pss_cons (ps_if (pt_cmpR op_eq (pe_callB call_len_seq (by rfl) B.len bt_len (pa_cons (pv 0) pa_nil)) pe_int (nomark _)) (pss_one (ps_ret (pe_cdn g_law_ring_of_40 hr psEn (pa_cons (pv 0) pa_nil)))) pss_nil)
      (pss_one (ps_ret (pe_cdn g_law_ring_of_41 hr psEn (pa_cons (pv 0) pa_nil)))))))))))), ?_⟩
    obtain ⟨m, hm⟩ : ∃ m, us.length = m := ⟨_, rfl⟩
    rcases (by omega : m = 0 ∨ m = 1 ∨ m = 2 ∨ m = 3 ∨ m = 4 ∨ m = 5 ∨ m = 6 ∨ m = 40 ∨ m = 41) with rfl | rfl | rfl | rfl | rfl | rfl | rfl | rfl | rfl
    · obtain rfl := List.length_eq_zero_iff.mp hm
      refine ⟨_, rfl, l, _, rfl, .inl (SqL.of hl), rfl, _, rfl, len_eq rfl ?_⟩
      exact R.use
    · obtain ⟨u0, us0, e0, z0⟩ := len_succ hm
      subst e0
      obtain rfl := List.length_eq_zero_iff.mp z0
      refine ⟨_, rfl, l, _, rfl, .inl (SqL.of hl), rfl, _, rfl, len_ne (show ((1 : Nat) : Int) ≠ 0 by decide) ?_⟩
      refine ⟨_, rfl, l, _, rfl, .inl (SqL.of hl), rfl, _, rfl, len_eq rfl ?_⟩
      exact ⟨_, rfl, l, _, _, _, rfl, rfl, SqL.of hl, atI_nat (j := 0) rfl, R.use⟩
    · obtain ⟨u0, us0, e0, z0⟩ := len_succ hm
      subst e0
      obtain ⟨u1, us1, e1, z1⟩ := len_succ z0
      subst e1
      obtain rfl := List.length_eq_zero_iff.mp z1
      refine ⟨_, rfl, l, _, rfl, .inl (SqL.of hl), rfl, _, rfl, len_ne (show ((2 : Nat) : Int) ≠ 0 by decide) ?_⟩
      refine ⟨_, rfl, l, _, rfl, .inl (SqL.of hl), rfl, _, rfl, len_ne (show ((2 : Nat) : Int) ≠ 1 by decide) ?_⟩
      refine ⟨_, rfl, l, _, rfl, .inl (SqL.of hl), rfl, _, rfl, len_eq rfl ?_⟩
      exact ⟨_, rfl, l, _, _, _, rfl, rfl, SqL.of hl, atI_nat (j := 0) rfl, _, rfl, l, _, _, _, rfl, rfl, SqL.of hl, atI_nat (j := 1) rfl, R.use⟩
    · obtain ⟨u0, us0, e0, z0⟩ := len_succ hm
      subst e0
      obtain ⟨u1, us1, e1, z1⟩ := len_succ z0
      subst e1
      obtain ⟨u2, us2, e2, z2⟩ := len_succ z1
      subst e2
      obtain rfl := List.length_eq_zero_iff.mp z2
      refine ⟨_, rfl, l, _, rfl, .inl (SqL.of hl), rfl, _, rfl, len_ne (show ((3 : Nat) : Int) ≠ 0 by decide) ?_⟩
      refine ⟨_, rfl, l, _, rfl, .inl (SqL.of hl), rfl, _, rfl, len_ne (show ((3 : Nat) : Int) ≠ 1 by decide) ?_⟩
      refine ⟨_, rfl, l, _, rfl, .inl (SqL.of hl), rfl, _, rfl, len_ne (show ((3 : Nat) : Int) ≠ 2 by decide) ?_⟩
      refine ⟨_, rfl, l, _, rfl, .inl (SqL.of hl), rfl, _, rfl, len_eq rfl ?_⟩
      exact ⟨_, rfl, l, _, _, _, rfl, rfl, SqL.of hl, atI_nat (j := 0) rfl, _, rfl, l, _, _, _, rfl, rfl, SqL.of hl, atI_nat (j := 1) rfl, _, rfl, l, _, _, _, rfl, rfl, SqL.of hl, atI_nat (j := 2) rfl, R.use⟩
    · obtain ⟨u0, us0, e0, z0⟩ := len_succ hm
      subst e0
      obtain ⟨u1, us1, e1, z1⟩ := len_succ z0
      subst e1
      obtain ⟨u2, us2, e2, z2⟩ := len_succ z1
      subst e2
      obtain ⟨u3, us3, e3, z3⟩ := len_succ z2
      subst e3
      obtain rfl := List.length_eq_zero_iff.mp z3
      refine ⟨_, rfl, l, _, rfl, .inl (SqL.of hl), rfl, _, rfl, len_ne (show ((4 : Nat) : Int) ≠ 0 by decide) ?_⟩
      refine ⟨_, rfl, l, _, rfl, .inl (SqL.of hl), rfl, _, rfl, len_ne (show ((4 : Nat) : Int) ≠ 1 by decide) ?_⟩
      refine ⟨_, rfl, l, _, rfl, .inl (SqL.of hl), rfl, _, rfl, len_ne (show ((4 : Nat) : Int) ≠ 2 by decide) ?_⟩
      refine ⟨_, rfl, l, _, rfl, .inl (SqL.of hl), rfl, _, rfl, len_ne (show ((4 : Nat) : Int) ≠ 3 by decide) ?_⟩
      refine ⟨_, rfl, l, _, rfl, .inl (SqL.of hl), rfl, _, rfl, len_eq rfl ?_⟩
      exact ⟨_, rfl, l, _, _, _, rfl, rfl, SqL.of hl, atI_nat (j := 0) rfl, _, rfl, l, _, _, _, rfl, rfl, SqL.of hl, atI_nat (j := 1) rfl, _, rfl, l, _, _, _, rfl, rfl, SqL.of hl, atI_nat (j := 2) rfl, _, rfl, l, _, _, _, rfl, rfl, SqL.of hl, atI_nat (j := 3) rfl, R.use⟩
    · obtain ⟨u0, us0, e0, z0⟩ := len_succ hm
      subst e0
      obtain ⟨u1, us1, e1, z1⟩ := len_succ z0
      subst e1
      obtain ⟨u2, us2, e2, z2⟩ := len_succ z1
      subst e2
      obtain ⟨u3, us3, e3, z3⟩ := len_succ z2
      subst e3
      obtain ⟨u4, us4, e4, z4⟩ := len_succ z3
      subst e4
      obtain rfl := List.length_eq_zero_iff.mp z4
      refine ⟨_, rfl, l, _, rfl, .inl (SqL.of hl), rfl, _, rfl, len_ne (show ((5 : Nat) : Int) ≠ 0 by decide) ?_⟩
      refine ⟨_, rfl, l, _, rfl, .inl (SqL.of hl), rfl, _, rfl, len_ne (show ((5 : Nat) : Int) ≠ 1 by decide) ?_⟩
      refine ⟨_, rfl, l, _, rfl, .inl (SqL.of hl), rfl, _, rfl, len_ne (show ((5 : Nat) : Int) ≠ 2 by decide) ?_⟩
      refine ⟨_, rfl, l, _, rfl, .inl (SqL.of hl), rfl, _, rfl, len_ne (show ((5 : Nat) : Int) ≠ 3 by decide) ?_⟩
      refine ⟨_, rfl, l, _, rfl, .inl (SqL.of hl), rfl, _, rfl, len_ne (show ((5 : Nat) : Int) ≠ 4 by decide) ?_⟩
      refine ⟨_, rfl, l, _, rfl, .inl (SqL.of hl), rfl, _, rfl, len_eq rfl ?_⟩
      exact ⟨_, rfl, l, _, _, _, rfl, rfl, SqL.of hl, atI_nat (j := 0) rfl, _, rfl, l, _, _, _, rfl, rfl, SqL.of hl, atI_nat (j := 1) rfl, _, rfl, l, _, _, _, rfl, rfl, SqL.of hl, atI_nat (j := 2) rfl, _, rfl, l, _, _, _, rfl, rfl, SqL.of hl, atI_nat (j := 3) rfl, _, rfl, l, _, _, _, rfl, rfl, SqL.of hl, atI_nat (j := 4) rfl, R.use⟩
    · obtain ⟨u0, us0, e0, z0⟩ := len_succ hm
      subst e0
      obtain ⟨u1, us1, e1, z1⟩ := len_succ z0
      subst e1
      obtain ⟨u2, us2, e2, z2⟩ := len_succ z1
      subst e2
      obtain ⟨u3, us3, e3, z3⟩ := len_succ z2
      subst e3
      obtain ⟨u4, us4, e4, z4⟩ := len_succ z3
      subst e4
      obtain ⟨u5, us5, e5, z5⟩ := len_succ z4
      subst e5
      obtain rfl := List.length_eq_zero_iff.mp z5
      refine ⟨_, rfl, l, _, rfl, .inl (SqL.of hl), rfl, _, rfl, len_ne (show ((6 : Nat) : Int) ≠ 0 by decide) ?_⟩
      refine ⟨_, rfl, l, _, rfl, .inl (SqL.of hl), rfl, _, rfl, len_ne (show ((6 : Nat) : Int) ≠ 1 by decide) ?_⟩
      refine ⟨_, rfl, l, _, rfl, .inl (SqL.of hl), rfl, _, rfl, len_ne (show ((6 : Nat) : Int) ≠ 2 by decide) ?_⟩
      refine ⟨_, rfl, l, _, rfl, .inl (SqL.of hl), rfl, _, rfl, len_ne (show ((6 : Nat) : Int) ≠ 3 by decide) ?_⟩
      refine ⟨_, rfl, l, _, rfl, .inl (SqL.of hl), rfl, _, rfl, len_ne (show ((6 : Nat) : Int) ≠ 4 by decide) ?_⟩
      refine ⟨_, rfl, l, _, rfl, .inl (SqL.of hl), rfl, _, rfl, len_ne (show ((6 : Nat) : Int) ≠ 5 by decide) ?_⟩
      refine ⟨_, rfl, l, _, rfl, .inl (SqL.of hl), rfl, _, rfl, len_eq rfl ?_⟩
      exact ⟨_, rfl, l, _, _, _, rfl, rfl, SqL.of hl, atI_nat (j := 0) rfl, _, rfl, l, _, _, _, rfl, rfl, SqL.of hl, atI_nat (j := 1) rfl, _, rfl, l, _, _, _, rfl, rfl, SqL.of hl, atI_nat (j := 2) rfl, _, rfl, l, _, _, _, rfl, rfl, SqL.of hl, atI_nat (j := 3) rfl, _, rfl, l, _, _, _, rfl, rfl, SqL.of hl, atI_nat (j := 4) rfl, _, rfl, l, _, _, _, rfl, rfl, SqL.of hl, atI_nat (j := 5) rfl, R.use⟩
    · refine ⟨_, rfl, l, _, rfl, .inl (SqL.of hl), rfl, _, rfl, len_ne (show (us.length : Int) ≠ 0 by omega) ?_⟩
      refine ⟨_, rfl, l, _, rfl, .inl (SqL.of hl), rfl, _, rfl, len_ne (show (us.length : Int) ≠ 1 by omega) ?_⟩
      refine ⟨_, rfl, l, _, rfl, .inl (SqL.of hl), rfl, _, rfl, len_ne (show (us.length : Int) ≠ 2 by omega) ?_⟩
      refine ⟨_, rfl, l, _, rfl, .inl (SqL.of hl), rfl, _, rfl, len_ne (show (us.length : Int) ≠ 3 by omega) ?_⟩
      refine ⟨_, rfl, l, _, rfl, .inl (SqL.of hl), rfl, _, rfl, len_ne (show (us.length : Int) ≠ 4 by omega) ?_⟩
      refine ⟨_, rfl, l, _, rfl, .inl (SqL.of hl), rfl, _, rfl, len_ne (show (us.length : Int) ≠ 5 by omega) ?_⟩
      refine ⟨_, rfl, l, _, rfl, .inl (SqL.of hl), rfl, _, rfl, len_ne (show (us.length : Int) ≠ 6 by omega) ?_⟩
      refine ⟨_, rfl, l, _, rfl, .inl (SqL.of hl), rfl, _, rfl, len_eq (by omega) ?_⟩
      exact ⟨_, rfl, l, us, rfl, hl, hm, R⟩
    · refine ⟨_, rfl, l, _, rfl, .inl (SqL.of hl), rfl, _, rfl, len_ne (show (us.length : Int) ≠ 0 by omega) ?_⟩
      refine ⟨_, rfl, l, _, rfl, .inl (SqL.of hl), rfl, _, rfl, len_ne (show (us.length : Int) ≠ 1 by omega) ?_⟩
      refine ⟨_, rfl, l, _, rfl, .inl (SqL.of hl), rfl, _, rfl, len_ne (show (us.length : Int) ≠ 2 by omega) ?_⟩
      refine ⟨_, rfl, l, _, rfl, .inl (SqL.of hl), rfl, _, rfl, len_ne (show (us.length : Int) ≠ 3 by omega) ?_⟩
      refine ⟨_, rfl, l, _, rfl, .inl (SqL.of hl), rfl, _, rfl, len_ne (show (us.length : Int) ≠ 4 by omega) ?_⟩
      refine ⟨_, rfl, l, _, rfl, .inl (SqL.of hl), rfl, _, rfl, len_ne (show (us.length : Int) ≠ 5 by omega) ?_⟩
      refine ⟨_, rfl, l, _, rfl, .inl (SqL.of hl), rfl, _, rfl, len_ne (show (us.length : Int) ≠ 6 by omega) ?_⟩
      refine ⟨_, rfl, l, _, rfl, .inl (SqL.of hl), rfl, _, rfl, len_ne (show (us.length : Int) ≠ 40 by omega) ?_⟩
      exact ⟨_, rfl, l, us, rfl, hl, hm, R⟩
theorem ok_law_row {f C CI : Addr} {fd : FuncData} (F : Fun K "_law_row" "_law_row" s_law_row f fd) (B : Blt mg) (gP : mg "Pipeline" = some (.ref C)) (D : RowN P w K mg base C CI) (g_law_row_of_39 : DefN P w K mg base "_law_row_of_39" 7 (spRowN K C CI 39)) (g_law_row_of_40 : DefN P w K mg base "_law_row_of_40" 7 (spRowN K C CI 40)) : FnOk P w K mg base (L2N.CX P w) 8 f fd ["c"] (spLRow K C CI) := by
  refine okN F sc_law_row (fun vs H Q E h => ?_) (fun cdv A outer s H vs Q E hr h => ?_)
  · obtain ⟨l, us, rfl, _⟩ := h
    rfl
  · obtain ⟨l, us, rfl, hl, hn, R⟩ := h
    obtain ⟨mc, p, g, r, c, FR⟩ := D.ex
    refine ⟨_, (pss_cons (ps_if (pt_cmpR op_eq (pe_callB call_len_seq (by rfl) B.len bt_len (pa_cons (pv 0) pa_nil)) pe_int (nomark _)) (pss_one (ps_ret (pe_cmeth0 (pe_glob (v := .ref C) (by rfl) gP rfl) r c FR (hr.mono (by decide)) psEn))) pss_nil)
      (pss_cons (ps_if (pt_cmpR op_eq (pe_callB call_len_seq (by rfl) B.len bt_len (pa_cons (pv 0) pa_nil)) pe_int (nomark _)) (pss_one (ps_ret (ClX.pe_cmeth (pe_glob (v := .ref C) (by rfl) gP rfl) r c FR (hr.mono (by decide)) psEn (pa_cons (pe_ix ix_list (pv 0) pe_int (fun _ _ => rfl)) pa_nil)))) pss_nil)
      (pss_cons (ps_if (pt_cmpR op_eq (pe_callB call_len_seq (by rfl) B.len bt_len (pa_cons (pv 0) pa_nil)) pe_int (nomark _)) (pss_one (ps_ret (ClX.pe_cmeth (pe_glob (v := .ref C) (by rfl) gP rfl) r c FR (hr.mono (by decide)) psEn (pa_cons (pe_ix ix_list (pv 0) pe_int (fun _ _ => rfl)) (pa_cons (pe_ix ix_list (pv 0) pe_int (fun _ _ => rfl)) pa_nil))))) pss_nil)
      (pss_cons (ps_if (pt_cmpR op_eq (pe_callB call_len_seq (by rfl) B.len bt_len (pa_cons (pv 0) pa_nil)) pe_int (nomark _)) (pss_one (ps_ret (ClX.pe_cmeth (pe_glob (v := .ref C) (by rfl) gP rfl) r c FR (hr.mono (by decide)) psEn (pa_cons (pe_ix ix_list (pv 0) pe_int (fun _ _ => rfl)) (pa_cons (pe_ix ix_list (pv 0) pe_int (fun _ _ => rfl)) (pa_cons (pe_ix ix_list (pv 0) pe_int (fun _ _ => rfl)) pa_nil)))))) pss_nil)
      (pss_cons (ps_if (pt_cmpR op_eq (pe_callB call_len_seq (by rfl) B.len bt_len (pa_cons (pv 0) pa_nil)) pe_int (nomark _)) (pss_one (ps_ret (ClX.pe_cmeth (pe_glob (v := .ref C) (by rfl) gP rfl) r c FR (hr.mono (by decide)) psEn (pa_cons (pe_ix ix_list (pv 0) pe_int (fun _ _ => rfl)) (pa_cons (pe_ix ix_list (pv 0) pe_int (fun _ _ => rfl)) (pa_cons (pe_ix ix_list (pv 0) pe_int (fun _ _ => rfl)) (pa_cons (pe_ix ix_list (pv 0) pe_int (fun _ _ => rfl)) pa_nil))))))) pss_nil)
      (pss_cons (ps_if (pt_cmpR op_eq (pe_callB call_len_seq (by rfl) B.len bt_len (pa_cons (pv 0) pa_nil)) pe_int (nomark _)) (pss_one (ps_ret (ClX.pe_cmeth (pe_glob (v := .ref C) (by rfl) gP rfl) r c FR (hr.mono (by decide)) psEn (pa_cons (pe_ix ix_list (pv 0) pe_int (fun _ _ => rfl)) (pa_cons (pe_ix ix_list (pv 0) pe_int (fun _ _ => rfl)) (pa_cons (pe_ix ix_list (pv 0) pe_int (fun _ _ => rfl)) (pa_cons (pe_ix ix_list (pv 0) pe_int (fun _ _ => rfl)) (pa_cons (pe_ix ix_list (pv 0) pe_int (fun _ _ => rfl)) pa_nil)))))))) pss_nil)
      (pss_cons (ps_if (pt_cmpR op_eq (pe_callB call_len_seq (by rfl) B.len bt_len (pa_cons (pv 0) pa_nil)) pe_int (nomark _)) (pss_one (ps_ret (ClX.pe_cmeth (pe_glob (v := .ref C) (by rfl) gP rfl) r c FR (hr.mono (by decide)) psEn (pa_cons (pe_ix ix_list (pv 0) pe_int (fun _ _ => rfl)) (pa_cons (pe_ix ix_list (pv 0) pe_int (fun _ _ => rfl)) (pa_cons (pe_ix ix_list (pv 0) pe_int (fun _ _ => rfl)) (pa_cons (pe_ix ix_list (pv 0) pe_int (fun _ _ => rfl)) (pa_cons (pe_ix ix_list (pv 0) pe_int (fun _ _ => rfl)) (pa_cons (pe_ix ix_list (pv 0) pe_int (fun _ _ => rfl)) pa_nil))))))))) pss_nil)
      (pss_cons (ps_if (pt_cmpR op_eq (pe_callB call_len_seq (by rfl) B.len bt_len (pa_cons (pv 0) pa_nil)) pe_int (nomark _)) (pss_one (ps_ret (pe_cdn g_law_row_of_39 hr psEn (pa_cons (pv 0) pa_nil)))) pss_nil)
      (pss_one (ps_ret (pe_cdn g_law_row_of_40 hr psEn (pa_cons (pv 0) pa_nil)))))))))))), ?_⟩
    obtain ⟨m, hm⟩ : ∃ m, us.length = m := ⟨_, rfl⟩
    rcases (by omega : m = 0 ∨ m = 1 ∨ m = 2 ∨ m = 3 ∨ m = 4 ∨ m = 5 ∨ m = 6 ∨ m = 39 ∨ m = 40) with rfl | rfl | rfl | rfl | rfl | rfl | rfl | rfl | rfl
    · obtain rfl := List.length_eq_zero_iff.mp hm
      refine ⟨_, rfl, l, _, rfl, .inl (SqL.of hl), rfl, _, rfl, len_eq rfl ?_⟩
      exact ⟨rfl, _, rfl, R⟩
    · obtain ⟨u0, us0, e0, z0⟩ := len_succ hm
      subst e0
      obtain rfl := List.length_eq_zero_iff.mp z0
      refine ⟨_, rfl, l, _, rfl, .inl (SqL.of hl), rfl, _, rfl, len_ne (show ((1 : Nat) : Int) ≠ 0 by decide) ?_⟩
      refine ⟨_, rfl, l, _, rfl, .inl (SqL.of hl), rfl, _, rfl, len_eq rfl ?_⟩
      exact ⟨rfl, _, rfl, l, _, _, _, rfl, rfl, SqL.of hl, atI_nat (j := 0) rfl, _, rfl, R⟩
    · obtain ⟨u0, us0, e0, z0⟩ := len_succ hm
      subst e0
      obtain ⟨u1, us1, e1, z1⟩ := len_succ z0
      subst e1
      obtain rfl := List.length_eq_zero_iff.mp z1
      refine ⟨_, rfl, l, _, rfl, .inl (SqL.of hl), rfl, _, rfl, len_ne (show ((2 : Nat) : Int) ≠ 0 by decide) ?_⟩
      refine ⟨_, rfl, l, _, rfl, .inl (SqL.of hl), rfl, _, rfl, len_ne (show ((2 : Nat) : Int) ≠ 1 by decide) ?_⟩
      refine ⟨_, rfl, l, _, rfl, .inl (SqL.of hl), rfl, _, rfl, len_eq rfl ?_⟩
      exact ⟨rfl, _, rfl, l, _, _, _, rfl, rfl, SqL.of hl, atI_nat (j := 0) rfl, _, rfl, l, _, _, _, rfl, rfl, SqL.of hl, atI_nat (j := 1) rfl, _, rfl, R⟩
    · obtain ⟨u0, us0, e0, z0⟩ := len_succ hm
      subst e0
      obtain ⟨u1, us1, e1, z1⟩ := len_succ z0
      subst e1
      obtain ⟨u2, us2, e2, z2⟩ := len_succ z1
      subst e2
      obtain rfl := List.length_eq_zero_iff.mp z2
      refine ⟨_, rfl, l, _, rfl, .inl (SqL.of hl), rfl, _, rfl, len_ne (show ((3 : Nat) : Int) ≠ 0 by decide) ?_⟩
      refine ⟨_, rfl, l, _, rfl, .inl (SqL.of hl), rfl, _, rfl, len_ne (show ((3 : Nat) : Int) ≠ 1 by decide) ?_⟩
      refine ⟨_, rfl, l, _, rfl, .inl (SqL.of hl), rfl, _, rfl, len_ne (show ((3 : Nat) : Int) ≠ 2 by decide) ?_⟩
      refine ⟨_, rfl, l, _, rfl, .inl (SqL.of hl), rfl, _, rfl, len_eq rfl ?_⟩
      exact ⟨rfl, _, rfl, l, _, _, _, rfl, rfl, SqL.of hl, atI_nat (j := 0) rfl, _, rfl, l, _, _, _, rfl, rfl, SqL.of hl, atI_nat (j := 1) rfl, _, rfl, l, _, _, _, rfl, rfl, SqL.of hl, atI_nat (j := 2) rfl, _, rfl, R⟩
    · obtain ⟨u0, us0, e0, z0⟩ := len_succ hm
      subst e0
      obtain ⟨u1, us1, e1, z1⟩ := len_succ z0
      subst e1
      obtain ⟨u2, us2, e2, z2⟩ := len_succ z1
      subst e2
      obtain ⟨u3, us3, e3, z3⟩ := len_succ z2
      subst e3
      obtain rfl := List.length_eq_zero_iff.mp z3
      refine ⟨_, rfl, l, _, rfl, .inl (SqL.of hl), rfl, _, rfl, len_ne (show ((4 : Nat) : Int) ≠ 0 by decide) ?_⟩
      refine ⟨_, rfl, l, _, rfl, .inl (SqL.of hl), rfl, _, rfl, len_ne (show ((4 : Nat) : Int) ≠ 1 by decide) ?_⟩
      refine ⟨_, rfl, l, _, rfl, .inl (SqL.of hl), rfl, _, rfl, len_ne (show ((4 : Nat) : Int) ≠ 2 by decide) ?_⟩
      refine ⟨_, rfl, l, _, rfl, .inl (SqL.of hl), rfl, _, rfl, len_ne (show ((4 : Nat) : Int) ≠ 3 by decide) ?_⟩
      refine ⟨_, rfl, l, _, rfl, .inl (SqL.of hl), rfl, _, rfl, len_eq rfl ?_⟩
      exact ⟨rfl, _, rfl, l, _, _, _, rfl, rfl, SqL.of hl, atI_nat (j := 0) rfl, _, rfl, l, _, _, _, rfl, rfl, SqL.of hl, atI_nat (j := 1) rfl, _, rfl, l, _, _, _, rfl, rfl, SqL.of hl, atI_nat (j := 2) rfl, _, rfl, l, _, _, _, rfl, rfl, SqL.of hl, atI_nat (j := 3) rfl, _, rfl, R⟩
    · obtain ⟨u0, us0, e0, z0⟩ := len_succ hm
      subst e0
      obtain ⟨u1, us1, e1, z1⟩ := len_succ z0
      subst e1
      obtain ⟨u2, us2, e2, z2⟩ := len_succ z1
      subst e2
      obtain ⟨u3, us3, e3, z3⟩ := len_succ z2
      subst e3
      obtain ⟨u4, us4, e4, z4⟩ := len_succ z3
      subst e4
      obtain rfl := List.length_eq_zero_iff.mp z4
      refine ⟨_, rfl, l, _, rfl, .inl (SqL.of hl), rfl, _, rfl, len_ne (show ((5 : Nat) : Int) ≠ 0 by decide) ?_⟩
      refine ⟨_, rfl, l, _, rfl, .inl (SqL.of hl), rfl, _, rfl, len_ne (show ((5 : Nat) : Int) ≠ 1 by decide) ?_⟩
      refine ⟨_, rfl, l, _, rfl, .inl (SqL.of hl), rfl, _, rfl, len_ne (show ((5 : Nat) : Int) ≠ 2 by decide) ?_⟩
      refine ⟨_, rfl, l, _, rfl, .inl (SqL.of hl), rfl, _, rfl, len_ne (show ((5 : Nat) : Int) ≠ 3 by decide) ?_⟩
      refine ⟨_, rfl, l, _, rfl, .inl (SqL.of hl), rfl, _, rfl, len_ne (show ((5 : Nat) : Int) ≠ 4 by decide) ?_⟩
      refine ⟨_, rfl, l, _, rfl, .inl (SqL.of hl), rfl, _, rfl, len_eq rfl ?_⟩
      exact ⟨rfl, _, rfl, l, _, _, _, rfl, rfl, SqL.of hl, atI_nat (j := 0) rfl, _, rfl, l, _, _, _, rfl, rfl, SqL.of hl, atI_nat (j := 1) rfl, _, rfl, l, _, _, _, rfl, rfl, SqL.of hl, atI_nat (j := 2) rfl, _, rfl, l, _, _, _, rfl, rfl, SqL.of hl, atI_nat (j := 3) rfl, _, rfl, l, _, _, _, rfl, rfl, SqL.of hl, atI_nat (j := 4) rfl, _, rfl, R⟩
    · obtain ⟨u0, us0, e0, z0⟩ := len_succ hm
      subst e0
      obtain ⟨u1, us1, e1, z1⟩ := len_succ z0
      subst e1
      obtain ⟨u2, us2, e2, z2⟩ := len_succ z1
      subst e2
      obtain ⟨u3, us3, e3, z3⟩ := len_succ z2
      subst e3
      obtain ⟨u4, us4, e4, z4⟩ := len_succ z3
      subst e4
      obtain ⟨u5, us5, e5, z5⟩ := len_succ z4
      subst e5
      obtain rfl := List.length_eq_zero_iff.mp z5
      refine ⟨_, rfl, l, _, rfl, .inl (SqL.of hl), rfl, _, rfl, len_ne (show ((6 : Nat) : Int) ≠ 0 by decide) ?_⟩
      refine ⟨_, rfl, l, _, rfl, .inl (SqL.of hl), rfl, _, rfl, len_ne (show ((6 : Nat) : Int) ≠ 1 by decide) ?_⟩
      refine ⟨_, rfl, l, _, rfl, .inl (SqL.of hl), rfl, _, rfl, len_ne (show ((6 : Nat) : Int) ≠ 2 by decide) ?_⟩
      refine ⟨_, rfl, l, _, rfl, .inl (SqL.of hl), rfl, _, rfl, len_ne (show ((6 : Nat) : Int) ≠ 3 by decide) ?_⟩
      refine ⟨_, rfl, l, _, rfl, .inl (SqL.of hl), rfl, _, rfl, len_ne (show ((6 : Nat) : Int) ≠ 4 by decide) ?_⟩
      refine ⟨_, rfl, l, _, rfl, .inl (SqL.of hl), rfl, _, rfl, len_ne (show ((6 : Nat) : Int) ≠ 5 by decide) ?_⟩
      refine ⟨_, rfl, l, _, rfl, .inl (SqL.of hl), rfl, _, rfl, len_eq rfl ?_⟩
      exact ⟨rfl, _, rfl, l, _, _, _, rfl, rfl, SqL.of hl, atI_nat (j := 0) rfl, _, rfl, l, _, _, _, rfl, rfl, SqL.of hl, atI_nat (j := 1) rfl, _, rfl, l, _, _, _, rfl, rfl, SqL.of hl, atI_nat (j := 2) rfl, _, rfl, l, _, _, _, rfl, rfl, SqL.of hl, atI_nat (j := 3) rfl, _, rfl, l, _, _, _, rfl, rfl, SqL.of hl, atI_nat (j := 4) rfl, _, rfl, l, _, _, _, rfl, rfl, SqL.of hl, atI_nat (j := 5) rfl, _, rfl, R⟩
    · refine ⟨_, rfl, l, _, rfl, .inl (SqL.of hl), rfl, _, rfl, len_ne (show (us.length : Int) ≠ 0 by omega) ?_⟩
      refine ⟨_, rfl, l, _, rfl, .inl (SqL.of hl), rfl, _, rfl, len_ne (show (us.length : Int) ≠ 1 by omega) ?_⟩
      refine ⟨_, rfl, l, _, rfl, .inl (SqL.of hl), rfl, _, rfl, len_ne (show (us.length : Int) ≠ 2 by omega) ?_⟩
      refine ⟨_, rfl, l, _, rfl, .inl (SqL.of hl), rfl, _, rfl, len_ne (show (us.length : Int) ≠ 3 by omega) ?_⟩
      refine ⟨_, rfl, l, _, rfl, .inl (SqL.of hl), rfl, _, rfl, len_ne (show (us.length : Int) ≠ 4 by omega) ?_⟩
      refine ⟨_, rfl, l, _, rfl, .inl (SqL.of hl), rfl, _, rfl, len_ne (show (us.length : Int) ≠ 5 by omega) ?_⟩
      refine ⟨_, rfl, l, _, rfl, .inl (SqL.of hl), rfl, _, rfl, len_ne (show (us.length : Int) ≠ 6 by omega) ?_⟩
      refine ⟨_, rfl, l, _, rfl, .inl (SqL.of hl), rfl, _, rfl, len_eq (by omega) ?_⟩
      exact ⟨_, rfl, l, us, rfl, hl, hm, R⟩
    · refine ⟨_, rfl, l, _, rfl, .inl (SqL.of hl), rfl, _, rfl, len_ne (show (us.length : Int) ≠ 0 by omega) ?_⟩
      refine ⟨_, rfl, l, _, rfl, .inl (SqL.of hl), rfl, _, rfl, len_ne (show (us.length : Int) ≠ 1 by omega) ?_⟩
      refine ⟨_, rfl, l, _, rfl, .inl (SqL.of hl), rfl, _, rfl, len_ne (show (us.length : Int) ≠ 2 by omega) ?_⟩
      refine ⟨_, rfl, l, _, rfl, .inl (SqL.of hl), rfl, _, rfl, len_ne (show (us.length : Int) ≠ 3 by omega) ?_⟩
      refine ⟨_, rfl, l, _, rfl, .inl (SqL.of hl), rfl, _, rfl, len_ne (show (us.length : Int) ≠ 4 by omega) ?_⟩
      refine ⟨_, rfl, l, _, rfl, .inl (SqL.of hl), rfl, _, rfl, len_ne (show (us.length : Int) ≠ 5 by omega) ?_⟩
      refine ⟨_, rfl, l, _, rfl, .inl (SqL.of hl), rfl, _, rfl, len_ne (show (us.length : Int) ≠ 6 by omega) ?_⟩
      refine ⟨_, rfl, l, _, rfl, .inl (SqL.of hl), rfl, _, rfl, len_ne (show (us.length : Int) ≠ 39 by omega) ?_⟩
      exact ⟨_, rfl, l, us, rfl, hl, hm, R⟩
end
end WC

set_option maxHeartbeats 4000000
namespace WC
open PySem PySem.Spec PyProof.Rows L2
section
variable {P : Program} {w : World} {K : PySem.W.Frag} {mg : Str → Option Value} {base : Heap} {k : Nat} {f cc D : Addr} {x qual : Str} {st : Stmt} {kV : Value} {N ps : List Str} {sp : Sp}
/-- a def that says super(), with plain parameters -/
theorem SFun.plain (F : SFun P K x qual st f cc D kV) (S : CScope N ps (defScope st)) (hb : ∀ (doc pm : Value) (an : Option Addr) (cdv ct : Value) (us : List Value), us.length = ps.length → bindArgs (PySem.W.fnX x qual (defArgs st) (defBody st) (defScope st) [(cls_, cc)] .none kV doc pm an cdv ct) ⟨us, []⟩ = pure (ps.zip us))
    (hp : ∃ ar : Arg, ((defArgs st).posonlyargs ++ (defArgs st).args).head? = some ar ∧ ar.arg = ("self" : Str)) (h1 : (defScope st).names.lookup ("super" : Str) = some .globalImplicit) (h2 : (defScope st).names.lookup ("self" : Str) = some .local)
    (len : ∀ vs H Q E, sp vs H Q E → vs.length = ps.length)
    (hbody : ∀ (cdv : Value) (A : Around) (outer : List Env) (s : Shared) (H : Hp) (vs : List V) (Q : VK) (E : XK), Room k (A.deeper (envS qual (defScope st) s.heap.objs.size f cdv cc)) → SelfTxt P K (envS qual (defScope st) s.heap.objs.size f cdv cc) D "self" → sp vs H Q E →
      ∃ t, PX (cxS (L2.CX P w) P w K mg base N qual (defScope st) f cdv cc A outer s H E) (.func (defBody st) (envS qual (defScope st) s.heap.objs.size f cdv cc)) (defBody st) t ∧ t { nx := fun _ H' => Q .non H', rt := Q } (L2.start N vs) H) :
    FnR P w K mg base (L2.CX P w) (k + 1) f sp := by
  obtain ⟨oc, od, doc, pm, an, cda, ct, osl, kc, dc, lc, oc1, oc2, cvs, oc3, file, tf, lk, hcd, hcc, hca, hvs, hfile⟩ := F.ex
  obtain ⟨ar, har, hs⟩ := hp
  intro A outer s H us vs Q E hr e0 r hsp
  have hl : us.length = ps.length := by rw [← r.length]; exact len _ _ _ _ hsp
  refine run_bndS lk hcd hcc S hr e0 (G := fun xs H2 => xs = vs ∧ H2 = H) (fun A2 Ex Q2 h => ?_) fun s2 H2 xs ⟨ex, eH⟩ hr2 => ?_
  · rw [hb _ _ _ _ _ us hl]
    exact wpAny_pure (h s H vs us e0 Un.refl rfl (fun _ _ z => z) r (len _ _ _ _ hsp) ⟨rfl, rfl⟩)
  · subst ex eH
    exact hbody (.ref cda) A outer s2 _ _ Q E hr2 ⟨h1, S.frc, h2, ⟨cc, kc, dc, lc, look_cls S _ _, hcc⟩, ⟨f, oc, od, _, osl, ar, rfl, lk, har, hs⟩, ⟨cda, oc1, oc2, cvs, oc3, file, tf, rfl, hca, hvs, hfile⟩⟩ hsp
end
section
variable {X : Cx} {C : Addr} {m : Str} {j k : Nat} {sp : Sp} {E : XK} {o : Expr} {ta : TE} {pos apos : Pos} {pl : Sem Bool}
theorem pe_mtv0 (D : MetV X.prog X.w X.K X.mg X.base C m k sp) (ho : PE X o ta) (hr : Room j X.A) (hx : Passes (L2.CX X.prog X.w) X E) (hle : k ≤ j := by decide)
    (ht : eval (.Call (.Attribute o m apos) [] [] pos) X.env = (do
      let ov ← eval o X.env
      standAt apos.atName
      let (f, first) ← holding [ov] (getMethod ov m pl)
      callWith pos f first (backTo pos (starEach [] X.env)) (backToKw pos (keywordEach [] X.env))) := by rfl) : PE X (.Call (.Attribute o m apos) [] [] pos) (tMeth C m sp [] E ta tNil) := by
  obtain ⟨f, c, hm, F⟩ := D.ex
  refine ⟨fun pins s σ H Q I h => ?_⟩
  refine PySem.W.methodCall_KW (pl := pl) (thn (ho.run pins s σ H _ I h) fun u s1 ⟨x, H1, I1, rx, a, dx, fs, ex, ea, l, q⟩ => ?_) ht
  subst ex
  obtain rfl : u = Value.ref a := rx
  refine getmeth_ok I1 ea c hm l ?_
  have q : sp (.ref a :: ([] ++ [])) H1 Q E := q
  exact PySem.W.callWith_K0 (first := [.ref a]) I1.kIn hm.kp (wpAny_call (run_fnR (us := [.ref a]) (vs := [.ref a]) F (hr.mono hle) hx I1 (.cons rfl .nil) q))
end
theorem sumT_len {n : Nat} {cs : List Tri} (G : NOk n cs) : (sumT n cs).length ≤ 60 := by
  have hlen := G.len
  have n40 := G.n40
  obtain ⟨m0, m1⟩ := slots_rng G
  have l1 := num_len (a := (n : Int)) (by omega) (by omega)
  have l2 := num_len (a := (cs.length : Int)) (by omega) (by omega)
  have l3 := num_len (a := slotsM cs) m0 (by omega)
  unfold sumT
  rw [Str.empty_append, Str.length_append, Str.length_append, Str.length_append, Str.length_append, Str.length_append]
  show _ + 9 + _ + 11 + _ + 6 ≤ 60
  omega
theorem pr_erase {α β : Type} {F : α → β → Prop} : ∀ {l : List α} {r : List β} (i : Nat), Paired F l r → Paired F (l.eraseIdx i) (r.eraseIdx i)
  | _, _, _, .nil => .nil
  | _, _, 0, .cons _ q => q
  | _, _, i + 1, .cons p q => .cons p (pr_erase i q)
theorem cut_lo {xs : List V} {s : Nat} (h : s < xs.length) : cutV xs none (some (s : Int)) = xs.take s ∧ ¬ (HT.sIx xs.length 0 none = 0 ∧ HT.sIx xs.length xs.length (some (s : Int)) = xs.length) := by
  unfold cutV
  rw [HT.sIx_nat, HT.sIx_none, Nat.min_eq_left (by omega), List.drop_zero, Nat.sub_zero]
  exact ⟨rfl, by omega⟩
theorem cut_hi {xs : List V} {s : Nat} (h : s < xs.length) : cutV xs (some ((s : Int) + 1)) none = xs.drop (s + 1) ∧ ¬ (HT.sIx xs.length 0 (some ((s : Int) + 1)) = 0 ∧ HT.sIx xs.length xs.length none = xs.length) := by
  have e : ((s : Int) + 1) = ((s + 1 : Nat) : Int) := by omega
  unfold cutV
  rw [e, HT.sIx_nat, HT.sIx_none, Nat.min_eq_left (by omega), List.take_of_length_le (by rw [List.length_drop]; omega)]
  exact ⟨rfl, by omega⟩
theorem btw_cases2 (v : V) (n : Nat) : (∃ i : Int, v = .int i ∧ 0 ≤ i ∧ i < n) ∨ btw v 0 ((n : Int) - 1) = false := by
  cases v with
  | int i =>
    by_cases h : 0 ≤ i ∧ i ≤ (n : Int) - 1
    · exact .inl ⟨i, rfl, h.1, by omega⟩
    · refine .inr ?_
      simp only [btw, Bool.and_eq_false_iff, decide_eq_false_iff_not]
      omega
  | _ => exact .inr rfl
section
variable {P : Program} {w : World} {K : PySem.W.Frag} {mg : Str → Option Value} {base : Heap}
theorem ok_P_summary {f cc CP g : Addr} {kV : Value} (F : SFun P K "summary" "Pipeline.summary" s_Pipeline_summary f cc CP kV) (SP : SupTxt P K mg CP CP g "summary") (G : FnR P w K mg base (L2.CX P w) 3 g (spSum0 [CP])) : FnR P w K mg base (L2.CX P w) 4 f (spSum [CP] "pipeline of ") := by
  refine F.plain (k := 3) (ps := ["self"]) sc_Pipeline_summary (fun doc pm an cdv ct us hl => ?_) ⟨_, rfl, rfl⟩ rfl rfl (fun vs H Q E h => ?_) (fun cdv A outer s H vs Q E hr SZ h => ?_)
  · match us, hl with
    | [a], _ => rfl
  · obtain ⟨C, x, n, cs, _, rfl, _⟩ := h
    rfl
  · obtain ⟨C, x, n, cs, hC, rfl, NA, G2, q⟩ := h
    obtain rfl := List.mem_singleton.mp hC
    obtain ⟨dx, tc, ti, to, ws, hx, _⟩ := NA.ex
    refine ⟨_, px_retSup (i := 0) SP SZ G hr psS rfl pe_str op_add_str, ?_⟩
    have hl := sumT_len G2
    refine ⟨x, dx, _, rfl, hx, C, x, n, cs, List.mem_singleton.mpr rfl, rfl, NA, G2, fun H2 s2 => ⟨_, _, rfl, rfl, ?_, q H2 s2⟩⟩
    exact line_of (by show 12 + _ ≤ _; omega)
theorem ok_R_summary {f cc CR g : Addr} {kV : Value} (F : SFun P K "summary" "Ring.summary" s_Ring_summary f cc CR kV) (SP : SupTxt P K mg CR CR g "summary") (G : FnR P w K mg base (L2.CX P w) 3 g (spSum0 [CR])) : FnR P w K mg base (L2.CX P w) 4 f (spSum [CR] "ring of ") := by
  refine F.plain (k := 3) (ps := ["self"]) sc_Ring_summary (fun doc pm an cdv ct us hl => ?_) ⟨_, rfl, rfl⟩ rfl rfl (fun vs H Q E h => ?_) (fun cdv A outer s H vs Q E hr SZ h => ?_)
  · match us, hl with
    | [a], _ => rfl
  · obtain ⟨C, x, n, cs, _, rfl, _⟩ := h
    rfl
  · obtain ⟨C, x, n, cs, hC, rfl, NA, G2, q⟩ := h
    obtain rfl := List.mem_singleton.mp hC
    obtain ⟨dx, tc, ti, to, ws, hx, _⟩ := NA.ex
    refine ⟨_, px_retSup (i := 0) SP SZ G hr psS rfl pe_str op_add_str, ?_⟩
    have hl := sumT_len G2
    refine ⟨x, dx, _, rfl, hx, C, x, n, cs, List.mem_singleton.mpr rfl, rfl, NA, G2, fun H2 s2 => ⟨_, _, rfl, rfl, ?_, q H2 s2⟩⟩
    exact line_of (by show 8 + _ ≤ _; omega)
end
end WC

set_option maxHeartbeats 8000000
namespace WC
open PySem PySem.Spec PyProof.Rows L2 L2H
theorem sizes_row (ns : List Int) : (rowOf ns).map (fun c => c.2.2) = ns := by
  apply List.ext_getElem?
  intro i
  rw [List.getElem?_map]
  cases e : ns[i]? with
  | none =>
    rw [List.getElem?_eq_none_iff] at e
    rw [List.getElem?_eq_none (by rw [rowOf_len]; exact e)]
    rfl
  | some c => rw [rowOf_at e]; rfl
theorem sizes_ring (ns : List Int) : (ringOf ns).map (fun c => c.2.2) = ns := by
  apply List.ext_getElem?
  intro i
  rw [List.getElem?_map]
  cases e : ns[i]? with
  | none =>
    rw [List.getElem?_eq_none_iff] at e
    rw [List.getElem?_eq_none (by rw [ringOf_len]; exact e)]
    rfl
  | some c => rw [ringOf_at e]; rfl
/-- what is wrong with some capacities, if anything, as the law says it -/
def DueX (H : Hp) (us : List V) (lo hi : Int) (v : V) : Prop := (¬ (lo ≤ us.length ∧ us.length ≤ hi) ∧ ∃ t, v = .ref t ∧ H t = some (.tup [.str "stages", .non])) ∨ (∃ k : Nat, (lo ≤ us.length ∧ us.length ≤ hi) ∧ FirstBad us k ∧ ∃ t, v = .ref t ∧ H t = some (.tup [.str "capacity", .int k])) ∨ ((lo ≤ us.length ∧ us.length ≤ hi) ∧ (∀ u ∈ us, btw u 1 999 = true) ∧ v = .non)
def spFault1 (K : PySem.W.Frag) : Sp := fun vs H Q _ => ∃ (L : Addr) (us : List V) (lo hi : Int), vs = [.ref L, .int lo, .int hi] ∧ H L = some (.lst us) ∧ us.length ≤ 1000 ∧ (∀ u ∈ us, Known K H u) ∧ ∀ H2 v, Same H H2 → DueX H2 us lo hi v → Q v H2
def cntOf (ring : Bool) (ns : List Int) : Nat := if ring then ns.length else ns.length + 1
def linksOf (ring : Bool) (ns : List Int) : List Tri := if ring then ringOf ns else rowOf ns
theorem linksOf_len (ring : Bool) (ns : List Int) : (linksOf ring ns).length = ns.length := by
  cases ring
  · exact rowOf_len ns
  · exact ringOf_len ns
theorem linksOf_sz (ring : Bool) (ns : List Int) : (linksOf ring ns).map (fun c => c.2.2) = ns := by
  cases ring
  · exact sizes_row ns
  · exact sizes_ring ns
theorem linksOf_at {ring : Bool} {ns : List Int} {i : Nat} {c : Int} (h : ns[i]? = some c) : (linksOf ring ns)[i]? = some ((i : Int), ((i : Int) + 1) % (cntOf ring ns : Int), c) := by
  have hl := (List.getElem?_eq_some_iff.mp h).1
  cases ring
  · show (rowOf ns)[i]? = _
    rw [rowOf_at h]
    have e : ((i : Int) + 1) % (cntOf false ns : Int) = (i : Int) + 1 := Int.emod_eq_of_lt (by omega) (by show (i : Int) + 1 < ((ns.length + 1 : Nat) : Int); omega)
    rw [e]
  · exact ringOf_at h
def spLinks1 : Sp := fun vs H Q _ => ∃ (Z : Addr) (ns : List Int) (ring : Bool), vs = [.ref Z, .bl ring] ∧ H Z = some (.lst (ns.map V.int)) ∧ ns.length ≤ 100 ∧ ∀ H2 L ws, Same H H2 → H L = none → H2 L = some (.lst ws) → Paired (TriA H2) (linksOf ring ns) ws → Q (.ref L) H2
section
variable {P : Program} {w : World} {K : PySem.W.Frag} {mg : Str → Option Value} {base : Heap}
theorem ok_same_row_H {f : Addr} {fd : FuncData} (F : Fun K "_law_same_row" "_law_same_row" s_law_same_row f fd) (B : Blt mg) (g_law_same : DefQ P w K mg base "_law_same" 1 spSame) : FnH P w K mg base (L2.CX P w) 2 f fd ["told", "due"] (spSR K) := by
  refine okH F sc_law_same_row (fun vs H Q E h => ?_) (fun cdv A outer s H vs Q E p hr hc h => ?_)
  · obtain ⟨t, d, k, xs, rfl, _⟩ := h
    rfl
  · obtain ⟨t, d, k, xs, rfl, ht, hd, hlen, pl, q⟩ := h
    -- slots: 0 told, 1 due, 2 k
    refine ⟨_, (pss_cons (ps_if (PW.pt (pw_or (pt_not (pt_val (pe_callB call_isi (by rfl) B.isi bt_isi (pa_cons (pv 0) (pa_cons (pe_bltn (v := .ty "tuple") (by rfl) B.tuple bt_tuple rfl) pa_nil))))) (pw_or1 (pt_cmpR op_ne (pe_callB call_len_seq (by rfl) B.len bt_len (pa_cons (pv 0) pa_nil)) (pe_callB call_len_seq (by rfl) B.len bt_len (pa_cons (pv 1) pa_nil)) (nomark _))))) (pss_one (ps_ret pe_bl)) pss_nil)
      (pss_cons (ps_forH (passes_of rfl) hc (pi_range1H (by rfl) B.range (pa_cons (pe_callB call_len_seq (by rfl) B.len bt_len (pa_cons (pv 1) pa_nil)) pa_nil)) (pg_name (i := 2) sc_law_same_row.nd rfl (Or.inl rfl))
        (pss_one (ps_if (pt_not (pt_val (pe_cq g_law_same hr (pa_cons (pe_ix ix_tup (pv 0) (pv 2) (fun _ _ => rfl)) (pa_cons (pe_ix ix_seq (pv 1) (pv 2) (fun _ _ => rfl)) pa_nil))))) (pss_one (ps_ret pe_bl)) pss_nil)))
      (pss_one (ps_ret pe_bl)))), ?_⟩
    refine ⟨_, rfl, _, _, _, _, _, rfl, .ty _, .base (.tup ht), kit_ty (r := true) (by decide +kernel), _, rfl, ?_⟩
    refine iteF ⟨_, rfl, t, _, rfl, .inr (SqT.of ht), _, rfl, d, _, rfl, sqx_or hd, rfl, _, rfl, ?_⟩
    have e0 : (!decide (V.int (xs.length : Nat) = V.int (xs.length : Nat))) = false := by simp
    rw [e0]
    refine iteF ⟨_, rfl, d, _, rfl, sqx_or hd, _, rfl, by omega, by omega, for_range (lo := 0) (n := xs.length) (fun i σ H2 => ∃ v2, σ = [some (.ref t), some (.ref d), v2] ∧ Same H H2) ⟨_, rfl, Same.refl H⟩ ?_ ?_⟩
    · rintro i σ H2 hi ⟨v2, rfl, s2⟩
      have e1 : xs[i]? = some xs[i] := by simp [hi]
      have e2 : atI xs ((0 : Int) + i) = some xs[i] := by rw [Int.zero_add]; exact atI_nat e1
      refine ⟨_, rfl, _, rfl, t, _, _, _, rfl, rfl, SqT.of (s2 _ _ ht), e2, _, rfl, _, rfl, sqx_ix (sqx_same hd s2) e2 ⟨_, rfl, pl _ (List.getElem_mem hi), _, rfl, iteF ⟨_, rfl, s2⟩⟩⟩
    · rintro σ H2 ⟨v2, rfl, s2⟩
      exact q _ s2
theorem ok_law_is_capacity {f : Addr} {fd : FuncData} (F : Fun K "_law_is_capacity" "_law_is_capacity" s_law_is_capacity f fd) (B : Blt mg) : FnOk P w K mg base (L2.CX P w) 1 f fd ["thing"] (spCap K) := by
  refine F.okX sc_law_is_capacity (fun vs H Q E h => ?_) (fun cdv A outer s H vs Q E hr h => ?_)
  · obtain ⟨x, rfl, _⟩ := h
    rfl
  · obtain ⟨x, rfl, hk, k⟩ := h
    refine ⟨_, (pss_one (ps_ret (pe_and (pe_callB call_isi (by rfl) B.isi bt_isi (pa_cons (pv 0) (pa_cons (pe_bltn (v := .ty "int") (by rfl) B.int bt_int rfl) pa_nil))) (pe_and (pe_not (pe_callB call_isi (by rfl) B.isi bt_isi (pa_cons (pv 0) (pa_cons (pe_bltn (v := .ty "bool") (by rfl) B.bool bt_bool rfl) pa_nil)))) (pe_one (pe_chain op_le op_le pe_int (pv 0) pe_int)))))), ?_⟩
    refine ⟨_, rfl, _, _, _, _, _, rfl, .ty _, hk.ty, kit_int hk, _, rfl, ?_⟩
    cases x with
    | int i =>
      refine iteT ⟨_, rfl, _, _, _, _, _, rfl, .ty _, hk.ty, kit_bool hk, _, rfl, _, rfl, ?_⟩
      refine iteT ⟨_, rfl, _, _, rfl, rfl, _, rfl, ?_⟩
      refine ite2 (fun e => ⟨_, _, rfl, rfl, ?_⟩) (fun e => ?_)
      · have q : btw (.int i) 1 999 = decide (i ≤ 999) := by unfold btw; simp [e]
        rw [q] at k
        exact k
      · have q : btw (.int i) 1 999 = false := by unfold btw; simp; intro z; simp [z] at e
        rw [q] at k
        exact k
    | bl b => exact iteT ⟨_, rfl, _, _, _, _, _, rfl, .ty _, hk.ty, kit_bool hk, _, rfl, _, rfl, iteF k⟩
    | non => exact iteF k
    | str z => exact iteF k
    | ref a => exact iteF k
    | byt b => exact hk.elim
    | flt b => exact hk.elim
    | ty n => exact hk.elim
theorem ok_fault {f : Addr} {fd : FuncData} (F : Fun K "_law_fault" "_law_fault" s_law_fault f fd) (B : Blt mg) (g_law_is_capacity : DefR P w K mg base "_law_is_capacity" 1 (spCap K)) : FnOk P w K mg base (L2.CX P w) 2 f fd ["sizes", "least", "most"] (spFault1 K) := by
  refine F.okX sc_law_fault (fun vs H Q E h => ?_) (fun cdv A outer s H vs Q E hr h => ?_)
  · obtain ⟨L, us, lo, hi, rfl, _⟩ := h
    rfl
  · obtain ⟨L, us, lo, hi, rfl, hL, ul, hk, q⟩ := h
    -- slots: 0 sizes, 1 least, 2 most, 3 k
    refine ⟨_, (pss_cons (ps_if (PW.pt (pw_or (pt_cmpR op_lt (pe_callB call_len_seq (by rfl) B.len bt_len (pa_cons (pv 0) pa_nil)) (pv 1) (nomark _)) (pw_or1 (pt_cmpR op_gt (pe_callB call_len_seq (by rfl) B.len bt_len (pa_cons (pv 0) pa_nil)) (pv 2) (nomark _))))) (pss_one (ps_ret (pe_tup (pa_cons pe_str (pa_cons pe_non pa_nil))))) pss_nil)
      (pss_cons (ps_for (passes_of rfl) rfl (pi_range1 (by rfl) B.range (pa_cons (pe_callB call_len_seq (by rfl) B.len bt_len (pa_cons (pv 0) pa_nil)) pa_nil)) (pg_name (i := 3) sc_law_fault.nd rfl (Or.inl rfl))
        (pss_one (ps_if (pt_not (pt_val (pe_cd g_law_is_capacity hr psE (pa_cons (pe_ix ix_list (pv 0) (pv 3) (fun _ _ => rfl)) pa_nil)))) (pss_one (ps_ret (pe_tup (pa_cons pe_str (pa_cons (pv 3) pa_nil))))) pss_nil)))
      (pss_one (ps_ret pe_non)))), ?_⟩
    refine ⟨_, rfl, L, _, rfl, .inl (SqL.of hL), _, rfl, _, _, rfl, rfl, _, rfl, ?_⟩
    by_cases h1 : (us.length : Int) < lo
    · rw [decide_eq_true h1]
      exact iteT ⟨by show 2 ≤ sizeLine; decide, fun t ht => q _ _ (Same.new ht) (.inl ⟨by omega, t, rfl, upd_same⟩)⟩
    rw [decide_eq_false h1]
    refine iteF ⟨_, rfl, L, _, rfl, .inl (SqL.of hL), _, rfl, _, _, rfl, rfl, _, rfl, ?_⟩
    by_cases h2 : hi < (us.length : Int)
    · rw [decide_eq_true h2]
      exact iteT ⟨by show 2 ≤ sizeLine; decide, fun t ht => q _ _ (Same.new ht) (.inl ⟨by omega, t, rfl, upd_same⟩)⟩
    rw [decide_eq_false h2]
    have hin : lo ≤ us.length ∧ us.length ≤ hi := by omega
    refine iteF ⟨_, rfl, L, _, rfl, .inl (SqL.of hL), _, rfl, by omega, by omega, for_range (lo := 0) (n := us.length) (fun i σ H2 => (∀ j v, j < i → us[j]? = some v → btw v 1 999 = true) ∧ ∃ v2, σ = [some (.ref L), some (.int lo), some (.int hi), v2] ∧ Same H H2) ⟨fun j v hj _ => absurd hj (Nat.not_lt_zero _), _, rfl, Same.refl H⟩ ?_ ?_⟩
    · rintro i σ H2 hi2 ⟨hg, v2, rfl, s2⟩
      have e1 : us[i]? = some (us[i]'(by omega)) := by simp
      obtain ⟨y, hy⟩ : ∃ y, us[i]? = some y := ⟨_, e1⟩
      have e2 : atI us ((0 : Int) + i) = some y := by rw [Int.zero_add]; exact atI_nat hy
      refine ⟨_, rfl, _, rfl, L, _, _, _, rfl, rfl, SqL.of (s2 _ _ hL), e2, y, rfl, (hk y (List.mem_of_getElem? hy)).same s2, _, rfl, ?_⟩
      cases eb : btw y 1 999 with
      | true =>
        refine iteF ⟨fun j v hj hv => ?_, _, rfl, s2⟩
        rcases Nat.lt_or_ge j i with z | z
        · exact hg j v z hv
        · have : j = i := by omega
          subst this
          rw [hy] at hv
          cases hv
          exact eb
      | false =>
        refine iteT ⟨_, rfl, by show 2 ≤ sizeLine; decide, fun t ht => ?_⟩
        refine q _ _ (Same.newer s2 (s2.free ht)) (.inr (.inl ⟨i, hin, ⟨⟨y, hy, eb⟩, hg⟩, t, rfl, ?_⟩))
        rw [upd_same, Int.zero_add]
    · rintro σ H2 ⟨hg, v2, rfl, s2⟩
      refine q _ _ s2 (.inr (.inr ⟨hin, fun u hu => ?_, rfl⟩))
      obtain ⟨j, hj⟩ := List.mem_iff_getElem?.mp hu
      exact hg j u (List.getElem?_eq_some_iff.mp hj).1 hj
theorem ok_links1 {f : Addr} {fd : FuncData} (F : Fun K "_law_links" "_law_links" s_law_links f fd) (B : Blt mg) : FnOk P w K mg base (L2.CX P w) 1 f fd ["sizes", "ring"] spLinks1 := by
  refine F.okX sc_law_links (fun vs H Q E h => ?_) (fun cdv A outer s H vs Q E hr h => ?_)
  · obtain ⟨Z, ns, ring, rfl, _⟩ := h
    rfl
  · obtain ⟨Z, ns, ring, rfl, hZ, hl, q⟩ := h
    -- slots: 0 sizes*, 1 ring, 2 count*, 3 k
    refine ⟨_, (pss_cons (ps_set (i := 2) sc_law_links.nd rfl (Or.inr rfl) (pe_ifExp (pt_val (pv 1)) (pe_callB call_len_seq (by rfl) B.len bt_len (pa_cons (pv 0) pa_nil)) (pe_op op_add (pe_callB call_len_seq (by rfl) B.len bt_len (pa_cons (pv 0) pa_nil)) pe_int)))
      (pss_one (ps_ret (pe_lc (own := [("k", 3)]) rfl sc_law_links.nd (pi_range1 (by rfl) B.range (pa_cons (pe_callB call_len_seq (by rfl) B.len bt_len (pa_cons (pv 0) pa_nil)) pa_nil)) (blkOk_by (N := nn_law_links) (sc := defScope s_law_links) (own := [("k", 3)]) (by decide +kernel)) (fun _ _ _ _ _ => (pg_name (i := 3) sc_law_links.nd rfl (Or.inl rfl))) (fun _ _ _ _ _ => pts_nil) (fun _ _ _ _ _ => (pe_tup (pa_cons (pv 3) (pa_cons (pe_op op_modN (pe_callTy (T := "int") call_int1 (by rfl) B.int bt_int (pa_cons (pe_op op_add (pv 3) pe_int) pa_nil)) (pv 2)) (pa_cons (pe_ix (i_lst (K := K)) (pv 0) (pv 3) (fun _ _ => rfl)) pa_nil))))))))), ?_⟩
    refine seq_mid (fun σ H4 => σ = [some (.ref Z), some (.bl ring), some (.int (cntOf ring ns : Nat)), none] ∧ H4 = H) (fun N hN => ?_) ?_
    · refine ⟨_, rfl, ring, rfl, ?_⟩
      cases ring with
      | true =>
        refine iteT ⟨_, rfl, Z, _, rfl, .inl (SqL.of hZ), hN _ _ ⟨?_, rfl⟩⟩
        rw [List.length_map]
        rfl
      | false =>
        refine iteF ⟨_, rfl, Z, _, rfl, .inl (SqL.of hZ), _, _, rfl, rfl, hN _ _ ⟨?_, rfl⟩⟩
        rw [List.length_map]
        rfl
    rintro σ H4 ⟨rfl, rfl⟩
    refine ⟨_, rfl, Z, _, rfl, .inl (SqL.of hZ), ?_⟩
    rw [List.length_map]
    refine ⟨(ns.length : Int), rfl, by omega, by omega, fun D hD => lc_range (lo := 0) (n := ns.length) (fun i H6 => Same H4 H6 ∧ ∃ ks, H6 D = some (.lst ks) ∧ Paired (TriA H6) ((linksOf ring ns).take i) ks) ⟨Same.new hD, [], upd_same, .nil⟩ ?_ ?_⟩
    · rintro i H6 hi ⟨s6, ks, k6, p6⟩
      have en : ns[i]? = some ns[i] := by simp [hi]
      have c1 : 1 ≤ cntOf ring ns := by unfold cntOf; split <;> omega
      refine ⟨rfl, yes ⟨_, rfl, _, rfl, _, _, rfl, rfl, .inl ⟨_, rfl, _, rfl, _, _, rfl, rfl, by omega, _, rfl, _, rfl, Z, _, _, .int ns[i], rfl, rfl, SqL.of (s6 _ _ hZ), by rw [Int.zero_add]; exact atI_nat (by simp [hi]), by show 3 ≤ sizeLine; decide, fun p2 hp2 => ⟨ks, ?_, ?_, ?_, ks ++ [.ref p2], upd_same, ?_⟩⟩⟩⟩
      · rw [upd_ne (ne_of_none k6 hp2)]
        exact k6
      · rw [← p6.length, List.length_take, linksOf_len]
        exact line_lt (by omega)
      · exact Same.newer (Same.newer s6 (Same.free s6 hp2)) hD
      · have pD : p2 ≠ D := (ne_of_none k6 hp2).symm
        rw [take_snoc (linksOf_at en)]
        refine pr_snoc (Paired.mapP p6 fun c2 v2 ⟨t2, e1, e2⟩ => ⟨t2, e1, ?_⟩) ⟨p2, rfl, ?_⟩
        · rw [upd_ne (ne_of e2 k6 (by intro z; cases z)), upd_ne (ne_of_none e2 hp2)]
          exact e2
        · have fe : Int.fmod ((0 : Int) + i + 1) (cntOf ring ns : Nat) = ((i : Int) + 1) % (cntOf ring ns : Int) := by
            rw [Int.zero_add]
            exact Int.fmod_eq_emod_of_nonneg _ (by omega)
          rw [upd_ne pD, upd_same]
          dsimp only
          rw [fe, Int.zero_add]
    · rintro H6 ⟨s6, ks, k6, p6⟩
      have p6 : Paired (TriA H6) (linksOf ring ns) ks := by
        have z := p6
        rw [← linksOf_len ring ns, List.take_length] at z
        exact z
      exact q _ D ks s6 hD k6 p6
end
end WC

set_option maxHeartbeats 8000000
namespace WC
open PySem PySem.Spec PyProof.Rows L2 L2H
def preT (ring : Bool) : Str := if ring then "ring of " else "pipeline of "
theorem words_eq (ring : Bool) (n : Nat) (cs : List Tri) : preT ring ++ Str.ofString (toString (n : Int)) ++ (" stages, " : Str) ++ Str.ofString (toString (cs.length : Int)) ++ (" channels, " : Str) ++ Str.ofString (toString (slotsM cs)) ++ (" slots" : Str) = preT ring ++ sumT n cs := by
  unfold sumT
  simp only [Str.append_assoc, Str.empty_append]
theorem KC.mem {CP CR C : Addr} {ring : Bool} (h : KC CP CR C ring) : C ∈ [CP, CR] := by
  rcases h with ⟨e, _⟩ | ⟨e, _⟩ <;> subst e <;> simp
/-- a net of given sizes -/
structure SzN (ring : Bool) (ns : List Int) : Prop where
  ok : SzOk ns
  r3 : ring = true → 3 ≤ ns.length
  n40 : cntOf ring ns ≤ 40
theorem SzN.nok {ring : Bool} {ns : List Int} (h : SzN ring ns) : NOk (cntOf ring ns) (linksOf ring ns) := by
  obtain ⟨z, r3, n40⟩ := h
  cases ring with
  | true =>
    have h3 := r3 rfl
    have h40 : ns.length ≤ 40 := n40
    exact ⟨ringOf_ok z h3, by rw [linksOf_len]; omega, n40, by show 1 ≤ ns.length; omega⟩
  | false =>
    have h40 : ns.length + 1 ≤ 40 := n40
    exact ⟨rowOf_ok z, by rw [linksOf_len]; omega, n40, by show 1 ≤ ns.length + 1; omega⟩
theorem slots_sum (ring : Bool) (ns : List Int) : slotsM (linksOf ring ns) = ns.sum := by
  unfold slotsM
  rw [linksOf_sz]
def spGood1 (CP CR : Addr) : Sp := fun vs H Q _ => ∃ (C x Z : Addr) (ns : List Int) (ring : Bool), KC CP CR C ring ∧ vs = [.ref x, .ref Z, .bl ring] ∧ NetAt H x C (cntOf ring ns) (linksOf ring ns) ∧ SzN ring ns ∧ H Z = some (.lst (ns.map V.int)) ∧ ∀ H2, Same H H2 → Q (.bl true) H2
section
variable {P : Program} {w : World} {K : PySem.W.Frag} {mg : Str → Option Value} {base : Heap}
theorem ok_law_good {f CP CR : Addr} {fd : FuncData} (F : Fun K "_law_good" "_law_good" s_law_good f fd) (B : Blt mg) (T : ∀ C ∈ [CP, CR], NetCls K C) (SL : SlotR P w K mg base [CP, CR])
    (g_is_ring : ∀ C ring, KC CP CR C ring → MetR P w K mg base C "is_ring" 1 (spRing1 [CP, CR] ring)) (g_summary : ∀ C ring, KC CP CR C ring → MetV P w K mg base C "summary" 4 (spSum [C] (preT ring))) (g_law_same : DefQ P w K mg base "_law_same" 1 spSame) (g_law_same_rows : DefR P w K mg base "_law_same_rows" 3 (spSRs K)) (g_law_links : DefR P w K mg base "_law_links" 1 spLinks1) :
    FnOk P w K mg base (L2.CX P w) 5 f fd ["net", "sizes", "ring"] (spGood1 CP CR) := by
  refine F.okX sc_law_good (fun vs H Q E h => ?_) (fun cdv A outer s H vs Q E hr h => ?_)
  · obtain ⟨C, x, Z, ns, ring, _, rfl, _⟩ := h
    rfl
  · obtain ⟨C, x, Z, ns, ring, hK, rfl, NA, SN, hZ, q⟩ := h
    have hrq := L2H.roomH_of hr
    have hCS := hK.mem
    have TC := T C hCS
    have G := SN.nok
    have hlen := G.len
    have n40 := G.n40
    have hcl := linksOf_len ring ns
    have eS := slots_sum ring ns
    have ew : preT ring ++ Str.ofString (toString ((cntOf ring ns : Nat) : Int)) ++ (" stages, " : Str) ++ Str.ofString (toString (ns.length : Int)) ++ (" channels, " : Str) ++ Str.ofString (toString ns.sum) ++ (" slots" : Str) = preT ring ++ sumT (cntOf ring ns) (linksOf ring ns) := by
      rw [← words_eq, hcl, eS]
    obtain ⟨m0, m1⟩ := slots_rng G
    rw [eS] at m0 m1
    generalize hn : cntOf ring ns = n at *
    generalize hcs : linksOf ring ns = cs at *
    have hml : (ns.map V.int).length = ns.length := List.length_map _
    obtain ⟨dx, tc, ti, to, ws, hx, htc, hp, _⟩ := NA.ex
    have fl : ∀ {m : Str} {a b c d : V}, (m == ("stages" : Str)) = false ∧ (m == ("channels" : Str)) = false ∧ (m == ("_incoming" : Str)) = false ∧ (m == ("_outgoing" : Str)) = false → List.lookup m [(("stages" : Str), a), (("channels" : Str), b), (("_incoming" : Str), c), (("_outgoing" : Str), d)] = none := fun {m a b c d} h => fldm h
    -- slots: 0 net, 1 sizes, 2 ring, 3 links, 4 count, 5 kind, 6 words
    refine ⟨_, (pss_cons (ps_set (i := 3) sc_law_good.nd rfl (Or.inl rfl) (pe_cd g_law_links hr psE (pa_cons (pv 1) (pa_cons (pv 2) pa_nil))))
      (pss_cons (ps_set (i := 4) sc_law_good.nd rfl (Or.inl rfl) (pe_ifExp (pt_val (pv 2)) (pe_callB call_len_seq (by rfl) B.len bt_len (pa_cons (pv 1) pa_nil)) (pe_op op_add (pe_callB call_len_seq (by rfl) B.len bt_len (pa_cons (pv 1) pa_nil)) pe_int)))
      (pss_cons (ps_if (PW.pt (pw_or (pt_not (pt_val (pe_cd g_law_same_rows hr psE (pa_cons (pe_fld (pv 0) rfl) (pa_cons (pe_callTy (T := "tuple") (c_tup (K := K)) (by rfl) B.tuple bt_tuple (pa_cons (pv 3) pa_nil)) pa_nil))))) (pw_or1 (pt_not (pt_val (pe_cq g_law_same hrq (pa_cons (pe_fld (pv 0) rfl) (pa_cons (pv 4) pa_nil)))))))) (pss_one (ps_ret pe_bl)) pss_nil)
      (pss_cons (ps_if (PW.pt (pw_or (pt_not (pt_val (pe_cq g_law_same hrq (pa_cons (pe_mtr0 (g_is_ring C ring hK) (pv 0) hr psE) (pa_cons (pv 2) pa_nil))))) (pw_or1 (pt_not (pt_val (pe_cq g_law_same hrq (pa_cons (pe_slots SL hCS (pv 0) (hr.mono (by decide))) (pa_cons (pe_callB (cr_sum rfl) (by rfl) B.sum bt_sum (pa_cons (pv 1) pa_nil)) pa_nil)))))))) (pss_one (ps_ret pe_bl)) pss_nil)
      (pss_cons (ps_set (i := 5) sc_law_good.nd rfl (Or.inl rfl) (pe_ifExp (pt_val (pv 2)) pe_str pe_str))
      (pss_cons (ps_set (i := 6) sc_law_good.nd rfl (Or.inl rfl) (pe_op op_add_str (pe_op op_add_str (pe_op op_add_str (pe_op op_add_str (pe_op op_add_str (pe_op op_add_str (pv 5) (pe_callTy (T := "str") call_str_int (by rfl) B.str bt_str (pa_cons (pv 4) pa_nil))) pe_str) (pe_callTy (T := "str") call_str_int (by rfl) B.str bt_str (pa_cons (pe_callB call_len_seq (by rfl) B.len bt_len (pa_cons (pv 1) pa_nil)) pa_nil))) pe_str) (pe_callTy (T := "str") call_str_int (by rfl) B.str bt_str (pa_cons (pe_callB (cr_sum rfl) (by rfl) B.sum bt_sum (pa_cons (pv 1) pa_nil)) pa_nil))) pe_str))
      (pss_one (ps_ret (pe_cq g_law_same hrq (pa_cons (pe_mtv0 (g_summary C ring hK) (pv 0) hr psE) (pa_cons (pv 6) pa_nil))))))))))), ?_⟩
    refine ⟨_, rfl, _, rfl, Z, ns, ring, rfl, hZ, by omega, fun H2 L ks s2 nL hL pL => ?_⟩
    rw [hcs] at pL
    dsimp only [gName]
    refine seq_mid (fun σ H4 => σ = [some (.ref x), some (.ref Z), some (.bl ring), some (.ref L), some (.int (n : Nat)), none, none] ∧ H4 = H2) (fun N hN => ?_) ?_
    · refine ⟨_, rfl, ring, rfl, ?_⟩
      cases ring with
      | true =>
        refine iteT ⟨_, rfl, Z, _, rfl, .inl (SqL.of (s2 _ _ hZ)), hN _ _ ⟨?_, rfl⟩⟩
        rw [hml, ← hn]
        rfl
      | false =>
        refine iteF ⟨_, rfl, Z, _, rfl, .inl (SqL.of (s2 _ _ hZ)), _, _, rfl, rfl, hN _ _ ⟨?_, rfl⟩⟩
        rw [hml, ← hn]
        rfl
    rintro σ H4 ⟨rfl, rfl⟩
    refine ⟨_, rfl, x, C, dx, _, _, rfl, s2 _ _ hx, TC.cl, TC.nC, lk_ch, _, rfl, L, ks, rfl, .inl ⟨SqL.of hL, fun t ht => ?_⟩⟩
    have s3 : Same H4 (upd H4 t (.tup ks)) := Same.new ht
    have s03 := s2.trans s3
    refine ⟨tc, t, true, ws, ks, cs.map triV, rfl, s03 _ _ htc, SqT.of upd_same, rows_tris (tris_same s03 hp), rows_tris (tris_same s3 pL), by rw [List.length_map]; omega, rows_plain cs, fun H5 s5 => ⟨_, rfl, iteF ?_⟩⟩
    have s05 := s03.trans s5
    refine ⟨_, rfl, x, C, dx, _, _, rfl, s05 _ _ hx, TC.cl, TC.nS, lk_st, _, rfl, .int n, rfl, rfl, _, rfl, iteF ?_⟩
    refine ⟨_, rfl, x, dx, _, rfl, s05 _ _ hx, fl (by decide +kernel), x, rfl, _, rfl, _, rfl, rfl, _, rfl, iteF ?_⟩
    refine ⟨_, rfl, x, dx, _, rfl, s05 _ _ hx, C, x, n, cs, hCS, rfl, NA.same s05, G, fun H6 s6 => ?_⟩
    have s06 := s05.trans s6
    refine ⟨_, rfl, Z, ns, rfl, SqL.of (s06 _ _ hZ), .int ns.sum, by rw [eS], rfl, _, rfl, iteF ?_⟩
    dsimp only [tNext]
    refine seq_mid (fun σ H7 => σ = [some (.ref x), some (.ref Z), some (.bl ring), some (.ref L), some (.int (n : Nat)), some (.str (preT ring)), none] ∧ H7 = H6) (fun N hN => ?_) ?_
    · refine ⟨_, rfl, ring, rfl, ?_⟩
      cases ring with
      | true => exact iteT (hN _ _ ⟨rfl, rfl⟩)
      | false => exact iteF (hN _ _ ⟨rfl, rfl⟩)
    rintro σ H7 ⟨rfl, rfl⟩
    have l1 := num_len (a := (n : Int)) (by omega) (by omega)
    have l2 := num_len (a := (ns.length : Int)) (by omega) (by omega)
    have l3 := num_len (a := ns.sum) m0 (by omega)
    have lp : (preT ring).length ≤ 12 := by
      cases ring
      · show 12 ≤ 12; omega
      · show 8 ≤ 12; omega
    refine ⟨_, rfl, _, rfl, _, rfl, num_log (by omega) (by omega), _, _, rfl, rfl, ?_, _, _, rfl, rfl, ?_, ?_⟩
    · exact line_of (by omega)
    · rw [Str.length_append]
      exact line_of (by show _ + _ + 9 ≤ _; omega)
    refine ⟨_, rfl, Z, _, rfl, .inl (SqL.of (s06 _ _ hZ)), ?_⟩
    rw [hml]
    refine ⟨_, rfl, num_log (by omega) (by omega), _, _, rfl, rfl, ?_, _, _, rfl, rfl, ?_, ?_⟩
    · rw [Str.length_append, Str.length_append]
      exact line_of (by show _ + _ + 9 + _ ≤ _; omega)
    · rw [Str.length_append, Str.length_append, Str.length_append]
      exact line_of (by show _ + _ + 9 + _ + 11 ≤ _; omega)
    refine ⟨_, rfl, Z, ns, rfl, SqL.of (s06 _ _ hZ), _, rfl, num_log m0 (by omega), _, _, rfl, rfl, ?_, _, _, rfl, rfl, ?_, ?_⟩
    · rw [Str.length_append, Str.length_append, Str.length_append, Str.length_append]
      exact line_of (by show _ + _ + 9 + _ + 11 + _ ≤ _; omega)
    · rw [Str.length_append, Str.length_append, Str.length_append, Str.length_append, Str.length_append]
      exact line_of (by show _ + _ + 9 + _ + 11 + _ + 6 ≤ _; omega)
    rw [ew]
    refine ⟨_, rfl, x, dx, _, rfl, s06 _ _ hx, fl (by decide +kernel), C, x, n, cs, List.mem_singleton.mpr rfl, rfl, NA.same s06, G, fun H8 s8 => ⟨_, rfl, _, rfl, rfl, q _ (s06.trans s8)⟩⟩
end
end WC

set_option maxHeartbeats 8000000
namespace WC
open PySem PySem.Spec PyProof.Rows L2 L2H
theorem first_uniq {us : List V} {k m : Nat} (h : FirstBad us k) (g : FirstBad us m) : k = m := by
  obtain ⟨⟨v, hv, hb⟩, h2⟩ := h
  obtain ⟨⟨u, hu, gb⟩, g2⟩ := g
  rcases Nat.lt_or_ge k m with z | z
  · rw [g2 k v z hv] at hb; cases hb
  · rcases Nat.lt_or_ge m k with y | y
    · rw [h2 m u y hu] at gb; cases gb
    · omega
theorem first_not {us : List V} {k : Nat} (h : FirstBad us k) : ¬ ∀ u ∈ us, btw u 1 999 = true := fun g => by
  obtain ⟨⟨v, hv, hb⟩, _⟩ := h
  rw [g v (List.mem_of_getElem? hv)] at hb
  cases hb
theorem sz_good {ns : List Int} (z : SzOk ns) : ∀ u ∈ ns.map V.int, btw u 1 999 = true := fun u hu => by
  obtain ⟨i, hi, rfl⟩ := List.mem_map.mp hu
  exact btw_in (z i hi).1 (z i hi).2
/-- how many capacities the law asks with -/
def Lens (ring : Bool) (n : Nat) : Prop := n ≤ 6 ∨ (ring = true ∧ (n = 40 ∨ n = 41)) ∨ (ring = false ∧ (n = 39 ∨ n = 40))
def spAns (K : PySem.W.Frag) : Sp := fun vs H Q _ => ∃ (Z : Addr) (us : List V) (ring : Bool), vs = [.ref Z, .bl ring] ∧ H Z = some (.lst us) ∧ (∀ u ∈ us, Known K H u) ∧ Lens ring us.length ∧ ∀ H2, Same H H2 → Q (.bl true) H2
/-- what is asked of the errors' classes -/
structure ErrL (K : PySem.W.Frag) (mg : Str → Option Value) (CW CN CI : Addr) : Prop where
  gW : mg "WithinCallError" = some (.ref CW)
  gN : mg "NotFound" = some (.ref CN)
  gI : mg "InvalidNet" = some (.ref CI)
  iW : PySem.W.exmOne K (.ref CI) (.ref CW) = some true
  ic : ExcC K CI
  ixf : XfC K CI
  kII : PySem.W.kitOne K (.ref CI) (.ref CI) = some true
  kIN : PySem.W.kitOne K (.ref CI) (.ref CN) = some false
  rea : PySem.W.findIn K (.ref CI) "reason" = some none
  pos : PySem.W.findIn K (.ref CI) "position" = some none
section
variable {P : Program} {w : World} {K : PySem.W.Frag} {mg : Str → Option Value} {base : Heap}
theorem ok_answered_N {f CP CR CW CN CI : Addr} {fd : FuncData} (F : Fun K "_law_answered" "_law_answered" s_law_answered f fd) (B : Blt mg) (T : ErrL K mg CW CN CI) (g_law_fault : DefR P w K mg base "_law_fault" 2 (spFault1 K)) (n_law_ring : DefN P w K mg base "_law_ring" 7 (spLRing K CR CI)) (n_law_row : DefN P w K mg base "_law_row" 8 (spLRow K CP CI)) (h_law_same_row : DefH P w K mg base "_law_same_row" 2 (spSR K)) (g_law_good : DefR P w K mg base "_law_good" 5 (spGood1 CP CR)) :
    FnOk P w K mg base (L2N.CX P w) 9 f fd ["sizes", "ring"] (spAns K) := by
  refine okN F sc_law_answered (fun vs H Q E h => ?_) (fun cdv A outer s H vs Q E hr h => ?_)
  · obtain ⟨Z, us, ring, rfl, _⟩ := h
    rfl
  · obtain ⟨Z, us, ring, rfl, hZ, hk, hl, q⟩ := h
    have hrq := L2H.roomH_of hr
    have ul : us.length ≤ 41 := by unfold Lens at hl; omega
    -- slots: 0 sizes, 1 ring, 2 due, 3 net, 4 refusal
    refine ⟨_, (pss_cons (ps_if (pt_val (pv 1)) (pss_one (ps_set (i := 2) sc_law_answered.nd rfl (Or.inl rfl) (pe_cd g_law_fault hr passL (pa_cons (pv 0) (pa_cons pe_int (pa_cons pe_int pa_nil)))))) (pss_one (ps_set (i := 2) sc_law_answered.nd rfl (Or.inl rfl) (pe_cd g_law_fault hr passL (pa_cons (pv 0) (pa_cons pe_int (pa_cons pe_int pa_nil))))))) (pss_cons (L2N.ps_try_as (i := 4) (c := .ref CW) rfl rfl sc_law_answered.nd rfl rfl ⟨rfl, by decide, Or.inl T.gW⟩ (L2N.takes_of rfl rfl rfl rfl) (fun Wt pn xe tk _ => (pss_one (ps_if (pt_val (pv 1)) (pss_one (ps_set (i := 3) sc_law_answered.nd rfl (Or.inl rfl) (pe_cdN (W := Wt) n_law_ring (by exact hr) tk (pa_cons (pe_callTy (T := "list") (c_lst (K := K)) (by rfl) B.list bt_list (pa_cons (pv 0) pa_nil)) pa_nil)))) (pss_one (ps_set (i := 3) sc_law_answered.nd rfl (Or.inl rfl) (pe_cdN (W := Wt) n_law_row (by exact hr) tk (pa_cons (pe_callTy (T := "list") (c_lst (K := K)) (by rfl) B.list bt_list (pa_cons (pv 0) pa_nil)) pa_nil))))))) (fun a oe cls d pn hz hf => (pss_cons (ps_if (PW.pt (pw_or (pt_not (pt_val (pe_callB (call_isX T.ic hz.zc hf) (by rfl) B.isi bt_isi (pa_cons (pv 4) (pa_cons (pe_glob (v := .ref CI) (by rfl) T.gI rfl) pa_nil))))) (pw_or1 (pt_val (pe_callB (call_isX T.ic hz.zc hf) (by rfl) B.isi bt_isi (pa_cons (pv 4) (pa_cons (pe_glob (v := .ref CN) (by rfl) T.gN rfl) pa_nil))))))) (pss_one (ps_ret pe_bl)) pss_nil) (pss_one (ps_ret (pe_and (pe_cmpR op_notN (pv 2) pe_non (nomark _)) (pe_one (pe_cdH (j := 8) h_law_same_row (by exact ⟨hrq.dp, hrq.un⟩) (hot_suite hz hf) (pa_cons (pe_tup (pa_cons (pe_xf T.ixf T.rea hz.zc hf (pv 4)) (pa_cons (pe_xf T.ixf T.pos hz.zc hf (pv 4)) pa_nil))) (pa_cons (pv 2) pa_nil)))))))))) (pss_one (ps_ret (pe_and (pe_cmpR op_isN (pv 2) pe_non (nomark _)) (pe_one (pe_cd g_law_good hr passL (pa_cons (pv 3) (pa_cons (pv 0) (pa_cons (pv 1) pa_nil)))))))))), ?_⟩
    refine ⟨_, rfl, ring, rfl, ?_⟩
    cases ring with
    | true =>
      have hln : us.length ≤ 6 ∨ us.length = 40 ∨ us.length = 41 := by
        unfold Lens at hl
        rcases hl with z | ⟨_, z⟩ | ⟨z, _⟩
        all_goals first | omega | exact Bool.noConfusion z
      refine iteT ⟨_, rfl, Z, us, 3, 40, rfl, hZ, by omega, hk, fun H1 v s1 dv => ?_⟩
      refine ⟨_, rfl, true, rfl, iteT ⟨_, rfl, Z, us, rfl, .inl (SqL.of (s1 _ _ hZ)), fun L hL => ?_⟩⟩
      have s2 : Same H1 (upd H1 L (.lst us)) := Same.new hL
      have s02 := s1.trans s2
      refine ⟨L, us, rfl, upd_same, hln, ⟨by omega, fun u hu => (hk u hu).same s02, fun hst => ?_, fun h3 h40 m fb => ?_, fun h3 h40 ns e z => ?_⟩⟩
      · rcases dv with ⟨ne, t, rfl, ht⟩ | ⟨k, hin, _⟩ | ⟨hin, _⟩
        · intro H3 d s3 nd hd
          have s03 := s02.trans s3
          refine ⟨true, T.iW, fun _ a ha => ?_, fun z => by cases z⟩
          refine ⟨_, rfl, .ref CI, .ref CI, true, d, _, rfl, .own CI, T.kII, rfl, rfl, hd, _, rfl, iteF ?_⟩
          refine ⟨_, rfl, .ref CN, .ref CN, false, d, _, rfl, .own CN, T.kIN, rfl, rfl, hd, _, rfl, iteF ?_⟩
          refine ⟨_, rfl, rfl, _, rfl, iteT ?_⟩
          refine ⟨_, rfl, rfl, rfl, d, _, _, rfl, hd, lk_rea, _, rfl, rfl, rfl, d, _, _, rfl, hd, lk_pos, by show 2 ≤ sizeLine; decide, fun p hp => ?_⟩
          have s4 : Same H3 (upd H3 p (.tup [.str "stages", .non])) := Same.new hp
          refine ⟨_, rfl, p, t, true, _, rfl, upd_same, SqT.of (s4 _ _ (s3 _ _ (s2 _ _ ht))), by show 2 ≤ 1000; decide, fun y hy => ?_, fun H5 s5 => q _ (s03.trans (s4.trans s5))⟩
          simp only [List.mem_cons, List.not_mem_nil, or_false] at hy
          rcases hy with e | e <;> rw [e] <;> rfl
        · exfalso; omega
        · exfalso; omega
      · rcases dv with ⟨ne, _⟩ | ⟨k, hin, fk, t, rfl, ht⟩ | ⟨hin, hg, _⟩
        · exfalso; omega
        · obtain rfl := first_uniq fk fb
          intro H3 d s3 nd hd
          have s03 := s02.trans s3
          refine ⟨true, T.iW, fun _ a ha => ?_, fun z => by cases z⟩
          refine ⟨_, rfl, .ref CI, .ref CI, true, d, _, rfl, .own CI, T.kII, rfl, rfl, hd, _, rfl, iteF ?_⟩
          refine ⟨_, rfl, .ref CN, .ref CN, false, d, _, rfl, .own CN, T.kIN, rfl, rfl, hd, _, rfl, iteF ?_⟩
          refine ⟨_, rfl, rfl, _, rfl, iteT ?_⟩
          refine ⟨_, rfl, rfl, rfl, d, _, _, rfl, hd, lk_rea, _, rfl, rfl, rfl, d, _, _, rfl, hd, lk_pos, by show 2 ≤ sizeLine; decide, fun p hp => ?_⟩
          have s4 : Same H3 (upd H3 p (.tup [.str "capacity", .int k])) := Same.new hp
          refine ⟨_, rfl, p, t, true, _, rfl, upd_same, SqT.of (s4 _ _ (s3 _ _ (s2 _ _ ht))), by show 2 ≤ 1000; decide, fun y hy => ?_, fun H5 s5 => q _ (s03.trans (s4.trans s5))⟩
          simp only [List.mem_cons, List.not_mem_nil, or_false] at hy
          rcases hy with e | e <;> rw [e] <;> rfl
        · exact absurd hg (first_not fb)
      · subst e
        rcases dv with ⟨ne, _⟩ | ⟨k, hin, fk, _⟩ | ⟨hin, hg, rfl⟩
        · exfalso; omega
        · exact absurd (sz_good z) (first_not fk)
        · intro H3 x s3 nx N
          have hml : (ns.map V.int).length = ns.length := List.length_map _
          refine ⟨_, rfl, rfl, _, rfl, iteT ?_⟩
          refine ⟨_, rfl, _, rfl, _, rfl, CR, x, Z, ns, true, .inr ⟨rfl, rfl⟩, rfl, N, ⟨z, (fun z2 => by first | omega | exact Bool.noConfusion z2), by show ns.length ≤ 40; omega⟩, (s02.trans s3) _ _ hZ, fun H4 s4 => q _ (s02.trans (s3.trans s4))⟩
    | false =>
      have hln : us.length ≤ 6 ∨ us.length = 39 ∨ us.length = 40 := by
        unfold Lens at hl
        rcases hl with z | ⟨z, _⟩ | ⟨_, z⟩
        all_goals first | omega | exact Bool.noConfusion z
      refine iteF ⟨_, rfl, Z, us, 0, 39, rfl, hZ, by omega, hk, fun H1 v s1 dv => ?_⟩
      refine ⟨_, rfl, false, rfl, iteF ⟨_, rfl, Z, us, rfl, .inl (SqL.of (s1 _ _ hZ)), fun L hL => ?_⟩⟩
      have s2 : Same H1 (upd H1 L (.lst us)) := Same.new hL
      have s02 := s1.trans s2
      refine ⟨L, us, rfl, upd_same, hln, ⟨by omega, fun u hu => (hk u hu).same s02, fun hst => ?_, fun h39 m fb => ?_, fun h39 ns e z => ?_⟩⟩
      · rcases dv with ⟨ne, t, rfl, ht⟩ | ⟨k, hin, _⟩ | ⟨hin, _⟩
        · intro H3 d s3 nd hd
          have s03 := s02.trans s3
          refine ⟨true, T.iW, fun _ a ha => ?_, fun z => by cases z⟩
          refine ⟨_, rfl, .ref CI, .ref CI, true, d, _, rfl, .own CI, T.kII, rfl, rfl, hd, _, rfl, iteF ?_⟩
          refine ⟨_, rfl, .ref CN, .ref CN, false, d, _, rfl, .own CN, T.kIN, rfl, rfl, hd, _, rfl, iteF ?_⟩
          refine ⟨_, rfl, rfl, _, rfl, iteT ?_⟩
          refine ⟨_, rfl, rfl, rfl, d, _, _, rfl, hd, lk_rea, _, rfl, rfl, rfl, d, _, _, rfl, hd, lk_pos, by show 2 ≤ sizeLine; decide, fun p hp => ?_⟩
          have s4 : Same H3 (upd H3 p (.tup [.str "stages", .non])) := Same.new hp
          refine ⟨_, rfl, p, t, true, _, rfl, upd_same, SqT.of (s4 _ _ (s3 _ _ (s2 _ _ ht))), by show 2 ≤ 1000; decide, fun y hy => ?_, fun H5 s5 => q _ (s03.trans (s4.trans s5))⟩
          simp only [List.mem_cons, List.not_mem_nil, or_false] at hy
          rcases hy with e | e <;> rw [e] <;> rfl
        · exfalso; omega
        · exfalso; omega
      · rcases dv with ⟨ne, _⟩ | ⟨k, hin, fk, t, rfl, ht⟩ | ⟨hin, hg, _⟩
        · exfalso; omega
        · obtain rfl := first_uniq fk fb
          intro H3 d s3 nd hd
          have s03 := s02.trans s3
          refine ⟨true, T.iW, fun _ a ha => ?_, fun z => by cases z⟩
          refine ⟨_, rfl, .ref CI, .ref CI, true, d, _, rfl, .own CI, T.kII, rfl, rfl, hd, _, rfl, iteF ?_⟩
          refine ⟨_, rfl, .ref CN, .ref CN, false, d, _, rfl, .own CN, T.kIN, rfl, rfl, hd, _, rfl, iteF ?_⟩
          refine ⟨_, rfl, rfl, _, rfl, iteT ?_⟩
          refine ⟨_, rfl, rfl, rfl, d, _, _, rfl, hd, lk_rea, _, rfl, rfl, rfl, d, _, _, rfl, hd, lk_pos, by show 2 ≤ sizeLine; decide, fun p hp => ?_⟩
          have s4 : Same H3 (upd H3 p (.tup [.str "capacity", .int k])) := Same.new hp
          refine ⟨_, rfl, p, t, true, _, rfl, upd_same, SqT.of (s4 _ _ (s3 _ _ (s2 _ _ ht))), by show 2 ≤ 1000; decide, fun y hy => ?_, fun H5 s5 => q _ (s03.trans (s4.trans s5))⟩
          simp only [List.mem_cons, List.not_mem_nil, or_false] at hy
          rcases hy with e | e <;> rw [e] <;> rfl
        · exact absurd hg (first_not fb)
      · subst e
        rcases dv with ⟨ne, _⟩ | ⟨k, hin, fk, _⟩ | ⟨hin, hg, rfl⟩
        · exfalso; omega
        · exact absurd (sz_good z) (first_not fk)
        · intro H3 x s3 nx N
          have hml : (ns.map V.int).length = ns.length := List.length_map _
          refine ⟨_, rfl, rfl, _, rfl, iteT ?_⟩
          refine ⟨_, rfl, _, rfl, _, rfl, CP, x, Z, ns, false, .inl ⟨rfl, rfl⟩, rfl, N, ⟨z, (fun z2 => by first | omega | exact Bool.noConfusion z2), by show ns.length + 1 ≤ 40; omega⟩, (s02.trans s3) _ _ hZ, fun H4 s4 => q _ (s02.trans (s3.trans s4))⟩
end
end WC

set_option maxHeartbeats 8000000
namespace WC
open PySem PySem.Spec PyProof.Rows L2 L2H
theorem ixn {n j : Nat} (hj : j < n) : ixN n (j : Int) = some j := by
  unfold ixN
  rw [if_pos (by omega), if_pos (by omega)]
  simp
section
variable {P : Program} {w : World} {K : PySem.W.Frag} {mg : Str → Option Value} {base : Heap}
theorem ok_mended {f : Addr} {fd : FuncData} (F : Fun K "_law_mended" "_law_mended" s_law_mended f fd) (B : Blt mg) (g_law_answered : DefR P w K mg base "_law_answered" 9 (spAns K)) (g_law_is_capacity : DefR P w K mg base "_law_is_capacity" 1 (spCap K)) : FnOk P w K mg base (L2.CX P w) 10 f fd ["sizes", "ring"] (spAns K) := by
  refine F.okX sc_law_mended (fun vs H Q E h => ?_) (fun cdv A outer s H vs Q E hr h => ?_)
  · obtain ⟨Z, us, ring, rfl, _⟩ := h
    rfl
  · obtain ⟨Z, us, ring, rfl, hZ, hk, hl, q⟩ := h
    have ul : us.length ≤ 41 := by unfold Lens at hl; omega
    -- slots: 0 sizes*, 1 ring, 2 turn, 3 odd, 4 k
    refine ⟨_, (pss_cons (ps_set (i := 0) sc_law_mended.nd rfl (Or.inr rfl) (pe_callTy (T := "list") call_list_of (by rfl) B.list bt_list (pa_cons (pv 0) pa_nil)))
      (pss_cons (ps_for (passes_of rfl) rfl (pi_range1 (by rfl) B.range (pa_cons pe_int pa_nil)) (pg_name (i := 2) sc_law_mended.nd rfl (Or.inl rfl))
        (pss_cons (ps_if (pt_not (pt_val (pe_cd g_law_answered hr psE (pa_cons (pv 0) (pa_cons (pv 1) pa_nil))))) (pss_one (ps_ret pe_bl)) pss_nil)
      (pss_cons (ps_setLc (i := 3) (own := [("k", 4)]) rfl sc_law_mended.nd rfl rfl (sw_true rfl rfl rfl (by decide +kernel)) (pi_range1 (by rfl) B.range (pa_cons (pe_callB call_len_seq (by rfl) B.len bt_len (pa_cons (pv 0) pa_nil)) pa_nil)) (blkOk_by (N := nn_law_mended) (sc := defScope s_law_mended) (own := [("k", 4)]) (by decide +kernel)) (fun _ _ _ _ _ => (pg_name (i := 4) sc_law_mended.nd rfl (Or.inl rfl))) (fun _ _ _ _ _ => (pts_one (pt_not (pt_val (pe_cd g_law_is_capacity (by exact hr) passL (pa_cons (pe_ix (i_lst (K := K)) (pv 0) (pv 4) (fun _ _ => rfl)) pa_nil)))))) (fun _ _ _ _ _ => (pv 4)))
      (pss_cons (ps_if (pt_cmpR op_eq (pe_callB call_len_seq (by rfl) B.len bt_len (pa_cons (pv 3) pa_nil)) pe_int (nomark _)) (pss_one (ps_ret pe_bl)) pss_nil)
      (pss_one (ps_asg (pe_op op_add pe_int (pv 2)) (pg_sub (pv 0) (pe_ix ix_list (pv 3) pe_int (fun _ _ => rfl)) set_list)))))))
      (pss_one (ps_ret pe_bl)))), ?_⟩
    refine ⟨_, rfl, Z, us, rfl, .inl (SqL.of hZ), fun L hL => ?_⟩
    have s1 : Same H (upd H L (.lst us)) := Same.new hL
    refine ⟨8, rfl, by decide, by decide, for_range (lo := 0) (n := 8) (fun i σ H2 => ∃ ws v2 v3, σ = [some (.ref L), some (.bl ring), v2, v3, none] ∧ Same H H2 ∧ H2 L = some (.lst ws) ∧ ws.length = us.length ∧ ∀ u ∈ ws, Known K H u) ⟨us, _, _, rfl, s1, upd_same, rfl, hk⟩ ?_ ?_⟩
    · rintro i σ H2 hi ⟨ws, v2, v3, rfl, s2, h2, hwl, hwk⟩
      refine ⟨_, rfl, _, rfl, L, ws, ring, rfl, h2, fun u hu => (hwk u hu).same s2, by rw [hwl]; exact hl, fun H3 s3 => ⟨_, rfl, iteF ?_⟩⟩
      have s03 := s2.trans s3
      have h3 := s3 _ _ h2
      refine ⟨_, rfl, L, _, rfl, .inl (SqL.of h3), ?_⟩
      refine ⟨(ws.length : Int), rfl, by omega, by omega, fun D hD => lc_range (lo := 0) (n := ws.length) (fun k H4 => Same H3 H4 ∧ ∃ ks : List Nat, H4 D = some (.lst (ks.map fun j : Nat => V.int j)) ∧ ks.length ≤ k ∧ ∀ j ∈ ks, j < ws.length) ⟨Same.new hD, [], upd_same, Nat.le_refl _, fun j hj => by cases hj⟩ ?_ ?_⟩
      · rintro k H4 hk4 ⟨s4, ks, hd, l4, b4⟩
        obtain ⟨y, hy⟩ : ∃ y, ws[k]? = some y := ⟨_, by simp [hk4]; rfl⟩
        have ak : atI ws ((0 : Int) + k) = some y := by rw [Int.zero_add]; exact atI_nat hy
        refine ⟨rfl, _, rfl, _, rfl, L, _, _, _, rfl, rfl, SqL.of (s4 _ _ h3), ak, y, rfl, (hwk y (List.mem_of_getElem? hy)).same (s03.trans s4), _, rfl, ?_⟩
        cases eb : btw y 1 999 with
        | true => exact iteF ⟨s4, ks, hd, by omega, b4⟩
        | false =>
          refine iteT ⟨_, rfl, _, hd, ?_, Same.newer s4 hD, ks ++ [k], ?_, ?_, fun j hj => ?_⟩
          · rw [List.length_map]
            exact line_lt (by omega)
          · rw [upd_same, Int.zero_add, List.map_append]
            rfl
          · rw [List.length_append, List.length_singleton]
            omega
          · rcases List.mem_append.mp hj with z | z
            · exact b4 j z
            · rw [List.mem_singleton.mp z]; exact hk4
      · rintro H4 ⟨s4, ks, hd, l4, b4⟩
        have s04 := s03.trans s4
        have h4 := s4 _ _ h3
        refine ⟨_, rfl, D, _, rfl, .inl (SqL.of hd), rfl, _, rfl, ?_⟩
        rw [List.length_map]
        cases ks with
        | nil => exact len_eq rfl (q _ s04)
        | cons j ks =>
          refine len_ne (by show ((ks.length + 1 : Nat) : Int) ≠ 0; omega) ?_
          have hj := b4 j List.mem_cons_self
          refine ⟨_, rfl, _, _, rfl, rfl, _, rfl, _, rfl, D, _, _, _, rfl, rfl, SqL.of hd, atI_nat (j := 0) rfl, L, ws, _, j, rfl, rfl, h4, ixn hj, ?_⟩
          refine ⟨ws.set j (.int (5 + ((0 : Int) + i))), _, _, rfl, Same.newer s04 hL, upd_same, by rw [List.length_set]; exact hwl, fun u hu => ?_⟩
          rcases List.mem_or_eq_of_mem_set hu with z | z
          · exact hwk u z
          · rw [z]; trivial
    · rintro σ H2 ⟨ws, v2, v3, rfl, s2, _⟩
      exact q _ s2
/-- some channels, of which a pipeline is made -/
def spLPipe (CP : Addr) : Sp := fun vs H Q _ => ∃ (L : Addr) (n : Nat) (cs : List Tri) (ws : List V), vs = [.int n, .ref L] ∧ H L = some (.lst ws) ∧ 1 ≤ n ∧ n ≤ 40 ∧ Paired (TriA H) cs ws ∧ (∀ c ∈ cs, ChOk n c) ∧ (cs.map pairOf).Nodup ∧ Acyc cs ∧ cs.length ≤ 6 ∧
  ∀ H2 x cs2, Same H H2 → H x = none → cs2.Perm cs → cs2.Pairwise (fun a b => key a ≤ key b) → NetAt H2 x CP n cs2 → Q (.ref x) H2
theorem pipe_any {H : Hp} {C : Addr} {n : Nat} {cs : List Tri} {ws : List V} {Q : VK} {E : XK} (h1 : 1 ≤ n) (hn : n ≤ 40) (hp : Paired (TriA H) cs ws) (hok : ∀ c ∈ cs, ChOk n c) (nd : (cs.map pairOf).Nodup) (ac : Acyc cs) (l6 : cs.length ≤ 6) (k : ∀ H2 x cs2, Same H H2 → H x = none → cs2.Perm cs → cs2.Pairwise (fun a b => key a ≤ key b) → NetAt H2 x C n cs2 → Q (.ref x) H2) :
    ∀ x dx, H x = none → H dx = none → dx ≠ x → spPipe C (V.ref x :: V.int n :: ws) (upd (upd H dx (.own x)) x (.ins C dx [])) (fun v H2 => v = .non ∧ Q (.ref x) H2) E := fun x dx hx hdx hne =>
  ⟨x, dx, n, cs, ws, rfl, upd_same, h1, hn, mk_tri (Same.refl H) hx hdx hp, hok, nd, ac, by omega, fun H2 cs2 p srt fr N => ⟨rfl, k H2 x cs2 (mk_same (Same.refl H) hx hdx fr) hx p srt N⟩⟩
theorem ok_law_pipeline {f CP : Addr} {fd : FuncData} (F : Fun K "_law_pipeline" "_law_pipeline" s_law_pipeline f fd) (B : Blt mg) (gP : mg "Pipeline" = some (.ref CP)) (DP : ClsR P w K mg base CP 4 (spPipe CP)) : FnOk P w K mg base (L2.CX P w) 6 f fd ["count", "c"] (spLPipe CP) := by
  refine F.okX sc_law_pipeline (fun vs H Q E h => ?_) (fun cdv A outer s H vs Q E hr h => ?_)
  · obtain ⟨L, n, cs, ws, rfl, _⟩ := h
    rfl
  · obtain ⟨l, n, cs, us, rfl, hl, h1, hn, hp, hok, nd, ac, l6, k⟩ := h
    have hul := hp.length
    have use := pipe_any (E := E) h1 hn hp hok nd ac l6 k
    -- slots: 0 count, 1 c
    refine ⟨_, (pss_cons (ps_if (pt_cmpR op_eq (pe_callB call_len_seq (by rfl) B.len bt_len (pa_cons (pv 1) pa_nil)) pe_int (nomark _)) (pss_one (ps_ret (pe_cc DP gP hr psE (pa_cons (pv 0) pa_nil)))) pss_nil)
      (pss_cons (ps_if (pt_cmpR op_eq (pe_callB call_len_seq (by rfl) B.len bt_len (pa_cons (pv 1) pa_nil)) pe_int (nomark _)) (pss_one (ps_ret (pe_cc DP gP hr psE (pa_cons (pv 0) (pa_cons (pe_ix ix_list (pv 1) pe_int (fun _ _ => rfl)) pa_nil))))) pss_nil)
      (pss_cons (ps_if (pt_cmpR op_eq (pe_callB call_len_seq (by rfl) B.len bt_len (pa_cons (pv 1) pa_nil)) pe_int (nomark _)) (pss_one (ps_ret (pe_cc DP gP hr psE (pa_cons (pv 0) (pa_cons (pe_ix ix_list (pv 1) pe_int (fun _ _ => rfl)) (pa_cons (pe_ix ix_list (pv 1) pe_int (fun _ _ => rfl)) pa_nil)))))) pss_nil)
      (pss_cons (ps_if (pt_cmpR op_eq (pe_callB call_len_seq (by rfl) B.len bt_len (pa_cons (pv 1) pa_nil)) pe_int (nomark _)) (pss_one (ps_ret (pe_cc DP gP hr psE (pa_cons (pv 0) (pa_cons (pe_ix ix_list (pv 1) pe_int (fun _ _ => rfl)) (pa_cons (pe_ix ix_list (pv 1) pe_int (fun _ _ => rfl)) (pa_cons (pe_ix ix_list (pv 1) pe_int (fun _ _ => rfl)) pa_nil))))))) pss_nil)
      (pss_cons (ps_if (pt_cmpR op_eq (pe_callB call_len_seq (by rfl) B.len bt_len (pa_cons (pv 1) pa_nil)) pe_int (nomark _)) (pss_one (ps_ret (pe_cc DP gP hr psE (pa_cons (pv 0) (pa_cons (pe_ix ix_list (pv 1) pe_int (fun _ _ => rfl)) (pa_cons (pe_ix ix_list (pv 1) pe_int (fun _ _ => rfl)) (pa_cons (pe_ix ix_list (pv 1) pe_int (fun _ _ => rfl)) (pa_cons (pe_ix ix_list (pv 1) pe_int (fun _ _ => rfl)) pa_nil)))))))) pss_nil)
      (pss_cons (ps_if (pt_cmpR op_eq (pe_callB call_len_seq (by rfl) B.len bt_len (pa_cons (pv 1) pa_nil)) pe_int (nomark _)) (pss_one (ps_ret (pe_cc DP gP hr psE (pa_cons (pv 0) (pa_cons (pe_ix ix_list (pv 1) pe_int (fun _ _ => rfl)) (pa_cons (pe_ix ix_list (pv 1) pe_int (fun _ _ => rfl)) (pa_cons (pe_ix ix_list (pv 1) pe_int (fun _ _ => rfl)) (pa_cons (pe_ix ix_list (pv 1) pe_int (fun _ _ => rfl)) (pa_cons (pe_ix ix_list (pv 1) pe_int (fun _ _ => rfl)) pa_nil))))))))) pss_nil)
      (pss_one (ps_ret (pe_cc DP gP hr psE (pa_cons (pv 0) (pa_cons (pe_ix ix_list (pv 1) pe_int (fun _ _ => rfl)) (pa_cons (pe_ix ix_list (pv 1) pe_int (fun _ _ => rfl)) (pa_cons (pe_ix ix_list (pv 1) pe_int (fun _ _ => rfl)) (pa_cons (pe_ix ix_list (pv 1) pe_int (fun _ _ => rfl)) (pa_cons (pe_ix ix_list (pv 1) pe_int (fun _ _ => rfl)) (pa_cons (pe_ix ix_list (pv 1) pe_int (fun _ _ => rfl)) pa_nil)))))))))))))))), ?_⟩
    obtain ⟨m, hm⟩ : ∃ m, us.length = m := ⟨_, rfl⟩
    clear hp
    rcases (by omega : m = 0 ∨ m = 1 ∨ m = 2 ∨ m = 3 ∨ m = 4 ∨ m = 5 ∨ m = 6) with rfl | rfl | rfl | rfl | rfl | rfl | rfl
    · obtain rfl := List.length_eq_zero_iff.mp hm
      refine ⟨_, rfl, l, _, rfl, .inl (SqL.of hl), rfl, _, rfl, len_eq rfl ?_⟩
      exact ⟨_, rfl, use⟩
    · obtain ⟨u0, us0, e0, z0⟩ := len_succ hm
      subst e0
      obtain rfl := List.length_eq_zero_iff.mp z0
      refine ⟨_, rfl, l, _, rfl, .inl (SqL.of hl), rfl, _, rfl, len_ne (show ((1 : Nat) : Int) ≠ 0 by decide) ?_⟩
      refine ⟨_, rfl, l, _, rfl, .inl (SqL.of hl), rfl, _, rfl, len_eq rfl ?_⟩
      exact ⟨_, rfl, _, rfl, l, _, _, _, rfl, rfl, SqL.of hl, atI_nat (j := 0) rfl, use⟩
    · obtain ⟨u0, us0, e0, z0⟩ := len_succ hm
      subst e0
      obtain ⟨u1, us1, e1, z1⟩ := len_succ z0
      subst e1
      obtain rfl := List.length_eq_zero_iff.mp z1
      refine ⟨_, rfl, l, _, rfl, .inl (SqL.of hl), rfl, _, rfl, len_ne (show ((2 : Nat) : Int) ≠ 0 by decide) ?_⟩
      refine ⟨_, rfl, l, _, rfl, .inl (SqL.of hl), rfl, _, rfl, len_ne (show ((2 : Nat) : Int) ≠ 1 by decide) ?_⟩
      refine ⟨_, rfl, l, _, rfl, .inl (SqL.of hl), rfl, _, rfl, len_eq rfl ?_⟩
      exact ⟨_, rfl, _, rfl, l, _, _, _, rfl, rfl, SqL.of hl, atI_nat (j := 0) rfl, _, rfl, l, _, _, _, rfl, rfl, SqL.of hl, atI_nat (j := 1) rfl, use⟩
    · obtain ⟨u0, us0, e0, z0⟩ := len_succ hm
      subst e0
      obtain ⟨u1, us1, e1, z1⟩ := len_succ z0
      subst e1
      obtain ⟨u2, us2, e2, z2⟩ := len_succ z1
      subst e2
      obtain rfl := List.length_eq_zero_iff.mp z2
      refine ⟨_, rfl, l, _, rfl, .inl (SqL.of hl), rfl, _, rfl, len_ne (show ((3 : Nat) : Int) ≠ 0 by decide) ?_⟩
      refine ⟨_, rfl, l, _, rfl, .inl (SqL.of hl), rfl, _, rfl, len_ne (show ((3 : Nat) : Int) ≠ 1 by decide) ?_⟩
      refine ⟨_, rfl, l, _, rfl, .inl (SqL.of hl), rfl, _, rfl, len_ne (show ((3 : Nat) : Int) ≠ 2 by decide) ?_⟩
      refine ⟨_, rfl, l, _, rfl, .inl (SqL.of hl), rfl, _, rfl, len_eq rfl ?_⟩
      exact ⟨_, rfl, _, rfl, l, _, _, _, rfl, rfl, SqL.of hl, atI_nat (j := 0) rfl, _, rfl, l, _, _, _, rfl, rfl, SqL.of hl, atI_nat (j := 1) rfl, _, rfl, l, _, _, _, rfl, rfl, SqL.of hl, atI_nat (j := 2) rfl, use⟩
    · obtain ⟨u0, us0, e0, z0⟩ := len_succ hm
      subst e0
      obtain ⟨u1, us1, e1, z1⟩ := len_succ z0
      subst e1
      obtain ⟨u2, us2, e2, z2⟩ := len_succ z1
      subst e2
      obtain ⟨u3, us3, e3, z3⟩ := len_succ z2
      subst e3
      obtain rfl := List.length_eq_zero_iff.mp z3
      refine ⟨_, rfl, l, _, rfl, .inl (SqL.of hl), rfl, _, rfl, len_ne (show ((4 : Nat) : Int) ≠ 0 by decide) ?_⟩
      refine ⟨_, rfl, l, _, rfl, .inl (SqL.of hl), rfl, _, rfl, len_ne (show ((4 : Nat) : Int) ≠ 1 by decide) ?_⟩
      refine ⟨_, rfl, l, _, rfl, .inl (SqL.of hl), rfl, _, rfl, len_ne (show ((4 : Nat) : Int) ≠ 2 by decide) ?_⟩
      refine ⟨_, rfl, l, _, rfl, .inl (SqL.of hl), rfl, _, rfl, len_ne (show ((4 : Nat) : Int) ≠ 3 by decide) ?_⟩
      refine ⟨_, rfl, l, _, rfl, .inl (SqL.of hl), rfl, _, rfl, len_eq rfl ?_⟩
      exact ⟨_, rfl, _, rfl, l, _, _, _, rfl, rfl, SqL.of hl, atI_nat (j := 0) rfl, _, rfl, l, _, _, _, rfl, rfl, SqL.of hl, atI_nat (j := 1) rfl, _, rfl, l, _, _, _, rfl, rfl, SqL.of hl, atI_nat (j := 2) rfl, _, rfl, l, _, _, _, rfl, rfl, SqL.of hl, atI_nat (j := 3) rfl, use⟩
    · obtain ⟨u0, us0, e0, z0⟩ := len_succ hm
      subst e0
      obtain ⟨u1, us1, e1, z1⟩ := len_succ z0
      subst e1
      obtain ⟨u2, us2, e2, z2⟩ := len_succ z1
      subst e2
      obtain ⟨u3, us3, e3, z3⟩ := len_succ z2
      subst e3
      obtain ⟨u4, us4, e4, z4⟩ := len_succ z3
      subst e4
      obtain rfl := List.length_eq_zero_iff.mp z4
      refine ⟨_, rfl, l, _, rfl, .inl (SqL.of hl), rfl, _, rfl, len_ne (show ((5 : Nat) : Int) ≠ 0 by decide) ?_⟩
      refine ⟨_, rfl, l, _, rfl, .inl (SqL.of hl), rfl, _, rfl, len_ne (show ((5 : Nat) : Int) ≠ 1 by decide) ?_⟩
      refine ⟨_, rfl, l, _, rfl, .inl (SqL.of hl), rfl, _, rfl, len_ne (show ((5 : Nat) : Int) ≠ 2 by decide) ?_⟩
      refine ⟨_, rfl, l, _, rfl, .inl (SqL.of hl), rfl, _, rfl, len_ne (show ((5 : Nat) : Int) ≠ 3 by decide) ?_⟩
      refine ⟨_, rfl, l, _, rfl, .inl (SqL.of hl), rfl, _, rfl, len_ne (show ((5 : Nat) : Int) ≠ 4 by decide) ?_⟩
      refine ⟨_, rfl, l, _, rfl, .inl (SqL.of hl), rfl, _, rfl, len_eq rfl ?_⟩
      exact ⟨_, rfl, _, rfl, l, _, _, _, rfl, rfl, SqL.of hl, atI_nat (j := 0) rfl, _, rfl, l, _, _, _, rfl, rfl, SqL.of hl, atI_nat (j := 1) rfl, _, rfl, l, _, _, _, rfl, rfl, SqL.of hl, atI_nat (j := 2) rfl, _, rfl, l, _, _, _, rfl, rfl, SqL.of hl, atI_nat (j := 3) rfl, _, rfl, l, _, _, _, rfl, rfl, SqL.of hl, atI_nat (j := 4) rfl, use⟩
    · obtain ⟨u0, us0, e0, z0⟩ := len_succ hm
      subst e0
      obtain ⟨u1, us1, e1, z1⟩ := len_succ z0
      subst e1
      obtain ⟨u2, us2, e2, z2⟩ := len_succ z1
      subst e2
      obtain ⟨u3, us3, e3, z3⟩ := len_succ z2
      subst e3
      obtain ⟨u4, us4, e4, z4⟩ := len_succ z3
      subst e4
      obtain ⟨u5, us5, e5, z5⟩ := len_succ z4
      subst e5
      obtain rfl := List.length_eq_zero_iff.mp z5
      refine ⟨_, rfl, l, _, rfl, .inl (SqL.of hl), rfl, _, rfl, len_ne (show ((6 : Nat) : Int) ≠ 0 by decide) ?_⟩
      refine ⟨_, rfl, l, _, rfl, .inl (SqL.of hl), rfl, _, rfl, len_ne (show ((6 : Nat) : Int) ≠ 1 by decide) ?_⟩
      refine ⟨_, rfl, l, _, rfl, .inl (SqL.of hl), rfl, _, rfl, len_ne (show ((6 : Nat) : Int) ≠ 2 by decide) ?_⟩
      refine ⟨_, rfl, l, _, rfl, .inl (SqL.of hl), rfl, _, rfl, len_ne (show ((6 : Nat) : Int) ≠ 3 by decide) ?_⟩
      refine ⟨_, rfl, l, _, rfl, .inl (SqL.of hl), rfl, _, rfl, len_ne (show ((6 : Nat) : Int) ≠ 4 by decide) ?_⟩
      refine ⟨_, rfl, l, _, rfl, .inl (SqL.of hl), rfl, _, rfl, len_ne (show ((6 : Nat) : Int) ≠ 5 by decide) ?_⟩
      exact ⟨_, rfl, _, rfl, l, _, _, _, rfl, rfl, SqL.of hl, atI_nat (j := 0) rfl, _, rfl, l, _, _, _, rfl, rfl, SqL.of hl, atI_nat (j := 1) rfl, _, rfl, l, _, _, _, rfl, rfl, SqL.of hl, atI_nat (j := 2) rfl, _, rfl, l, _, _, _, rfl, rfl, SqL.of hl, atI_nat (j := 3) rfl, _, rfl, l, _, _, _, rfl, rfl, SqL.of hl, atI_nat (j := 4) rfl, _, rfl, l, _, _, _, rfl, rfl, SqL.of hl, atI_nat (j := 5) rfl, use⟩
end
end WC

set_option maxHeartbeats 8000000
namespace WC
open PySem PySem.Spec PyProof.Rows L2 L2H
/-! == of a net and any value -/
/-- no value of a built-in type is a net -/
structure NonNet (K : PySem.W.Frag) (N : Addr) : Prop where
  i : PySem.W.kitOne K (.type "int") (.ref N) = some false
  b : PySem.W.kitOne K (.type "bool") (.ref N) = some false
  n : PySem.W.kitOne K (.type "NoneType") (.ref N) = some false
  s : PySem.W.kitOne K (.type "str") (.ref N) = some false
  t : PySem.W.kitOne K (.type "tuple") (.ref N) = some false
  l : PySem.W.kitOne K (.type "list") (.ref N) = some false
theorem NonNet.kit {K : PySem.W.Frag} {N : Addr} {H : Hp} {v : V} (F : NonNet K N) (k : Known K H v) : PySem.W.kitOne K (.type (tyN H v)) (.ref N) = some false := by
  cases v with
  | int i => exact F.i
  | bl b => exact F.b
  | non => exact F.n
  | str z => exact F.s
  | ref a =>
    rcases @tyN_ref H a with q | q <;> rw [q]
    · exact F.t
    · exact F.l
  | byt b => exact k.elim
  | flt b => exact k.elim
  | ty n => exact k.elim
/-- nor comes its type first -/
structure NotFst (K : PySem.W.Frag) (C : Addr) : Prop where
  i : PySem.W.notFirst K C (.type "int") = true
  b : PySem.W.notFirst K C (.type "bool") = true
  n : PySem.W.notFirst K C (.type "NoneType") = true
  s : PySem.W.notFirst K C (.type "str") = true
  t : PySem.W.notFirst K C (.type "tuple") = true
  l : PySem.W.notFirst K C (.type "list") = true
theorem NotFst.of {K : PySem.W.Frag} {C : Addr} {H : Hp} {v : V} (F : NotFst K C) (k : Known K H v) : PySem.W.notFirst K C (.type (tyN H v)) = true := by
  cases v with
  | int i => exact F.i
  | bl b => exact F.b
  | non => exact F.n
  | str z => exact F.s
  | ref a =>
    rcases @tyN_ref H a with q | q <;> rw [q]
    · exact F.t
    · exact F.l
  | byt b => exact k.elim
  | flt b => exact k.elim
  | ty n => exact k.elim
theorem looks_known {X : Cx} {pins : List (Addr × Obj)} {σ : L2.St} {H : Hp} {s : Shared} {y : V} {u : Value} (I : Inv X pins σ H s) (r : RelV y u) (k : Known X.K H y) : PySem.W.Looks (model X.prog X.w) s.heap (typeOf u) (.type (tyN H y)) := by
  cases y with
  | non => cases (show u = Value.none from r); exact PySem.W.Looks.of_pure rfl
  | bl b => cases (show u = Value.bool b from r); exact PySem.W.Looks.of_pure rfl
  | int i => obtain ⟨t, q⟩ := (show ∃ t, u = Value.int i t from r); cases q; exact PySem.W.Looks.of_pure rfl
  | str z => obtain ⟨t, q⟩ := (show ∃ t, u = Value.str z t from r); cases q; exact PySem.W.Looks.of_pure rfl
  | ref a =>
    cases (show u = Value.ref a from r)
    rcases k with ⟨xs, e⟩ | ⟨xs, e⟩
    · have q : tyN H (.ref a) = "tuple" := by simp only [tyN, e]
      rw [q]
      obtain ⟨_, _, _, o, h1, h2, _⟩ := (show ObjOk X.prog X.w H s.heap a (.tup xs) from I.hok a _ e)
      exact fun A Q E s' k2 q2 => wpAny_typeOf_ref (k2 _ _ h1) (by rw [h2]; exact q2)
    · have q : tyN H (.ref a) = "list" := by simp only [tyN, e]
      rw [q]
      obtain ⟨_, _, n, _, h1⟩ := (show ObjOk X.prog X.w H s.heap a (.lst xs) from I.hok a _ e)
      exact fun A Q E s' k2 q2 => wpAny_typeOf_ref (k2 _ _ h1) q2
  | byt b => exact k.elim
  | flt b => exact k.elim
  | ty n => exact k.elim
/-- what stands on the right: a net, or a value of a built-in type -/
def RightV (K : PySem.W.Frag) (CS : List Addr) (H : Hp) (y : V) : Prop := (∃ (b D dy : Addr) (gs : List (Str × V)), D ∈ CS ∧ y = .ref b ∧ H b = some (.ins D dy gs)) ∨ Known K H y
def rOwnX (K : PySem.W.Frag) (CS : List Addr) (sp : Sp) : R2 := fun x y H Q => ∃ (a C dx : Addr) (fs : List (Str × V)), C ∈ CS ∧ x = .ref a ∧ H a = some (.ins C dx fs) ∧ RightV K CS H y ∧ sp [.ref a, y] H (fun v H' => ∃ c, v = .bl c ∧ Q (.bl c) H') E0
theorem op_ownX {X : Cx} {n : Nat} {CS : List Addr} {f : Addr} {fd : FuncData} {ps : List Str} {sp : Sp} (T : EqF X.K CS f) (N : ∀ C ∈ CS, NotFst X.K C) (F : FnOk X.prog X.w X.K X.mg X.base (L2.CX X.prog X.w) n f fd ps sp) (hb : Binds X.K fd ps []) (hr : Room n X.A) : OpR X (compareOp .Eq) (rOwnX X.K CS sp) := by
  intro pins s σ H x y u v Q I rx ry ⟨a, C, dx, fs, hC, ex, ha, hy, q⟩
  subst ex
  cases rx
  show wpAny (model X.prog X.w) X.A (richCompare .Eq (.ref a) v) (EP X pins σ Q) X.xe s
  obtain ⟨_, Ja, _⟩ := ins_get I.hok ha
  obtain ⟨oa, Ja, _⟩ := Ja.look
  obtain ⟨m, fr⟩ := I.fr
  obtain ⟨tb, Lb, nf⟩ : ∃ tb, PySem.W.Looks (model X.prog X.w) s.heap (typeOf v) tb ∧ PySem.W.notFirst X.K C tb = true := by
    rcases hy with ⟨b, D, dy, gs, hD, rfl, hb'⟩ | hk
    · cases ry
      obtain ⟨_, Jb, _⟩ := ins_get I.hok hb'
      obtain ⟨ob, Jb, _⟩ := Jb.look
      exact ⟨.ref D, Jb.type, T.nf C hC D hD⟩
    · exact ⟨_, looks_known I ry hk, (N C hC).of hk⟩
  refine PySem.W.cmp_K (op := .Eq) (tb := tb) hr.units0 fr I.ok.mod.kin Ja Lb nf (T.at_ C hC) T.fn ?_
  have z := run_fn (ds := []) (dvs := []) (us := [.ref a, v]) (vs := [.ref a, y]) (E := E0) F hr hb .nil passL I (.cons rfl (.cons ry .nil)) q
  refine wpAny_mono z (fun r s' ⟨w1, H1, I1, r1, c, ec, qc⟩ => ?_) fun _ _ e => e
  subst ec
  cases r1
  exact ⟨.bl c, H1, I1, rfl, qc⟩
def spEqO (K : PySem.W.Frag) (CS : List Addr) : Sp := fun vs H Q _ => ∃ (C a : Addr) (n : Nat) (cs : List Tri) (v : V), C ∈ CS ∧ vs = [.ref a, v] ∧ NetAt H a C n cs ∧ Known K H v ∧ Q (.bl false) H
def spEqX (K : PySem.W.Frag) (CS : List Addr) : Sp := spOr (spEqN CS) (spEqO K CS)
def spEqual (CS : List Addr) : Sp := fun vs H Q _ => ∃ (C D a b : Addr) (n m : Nat) (cs ds : List Tri) (due : Bool), C ∈ CS ∧ D ∈ CS ∧ vs = [.ref a, .ref b, .bl due] ∧ NetAt H a C n cs ∧ NetAt H b D m ds ∧ due = (decide (n = m) && decide (cs = ds)) ∧ Q (.bl true) H
section
variable {P : Program} {w : World} {K : PySem.W.Frag} {mg : Str → Option Value} {base : Heap}
theorem ok_Net_eqO {f N : Addr} {CS : List Addr} {fd : FuncData} (F : Fun K "__eq__" "Net.__eq__" s_Net_eq f fd) (B : Blt mg) (Z : NetK K mg N) (T : ∀ C ∈ CS, NetCls K C) (NN : NonNet K N) : FnOk P w K mg base (L2.CX P w) 2 f fd ["self", "other"] (spEqO K CS) := by
  refine F.okX sc_Net_eq (fun vs H Q E h => ?_) (fun cdv A outer s H vs Q E hr h => ?_)
  · obtain ⟨C, a, n, cs, v, _, rfl, _⟩ := h
    rfl
  · obtain ⟨C, a, n, cs, v, hC, rfl, NA, hk, q⟩ := h
    have hu := hu_of hr
    -- slots: 0 self, 1 other
    refine ⟨_, (pss_one (ps_ret (pe_and (pe_callB call_isi (by rfl) B.isi bt_isi (pa_cons (pv 1) (pa_cons (pe_glob (v := .ref N) (by rfl) Z.gN rfl) pa_nil))) (pe_and (pe_cmpR op_eq (pe_fld (pv 0) rfl) (pe_fld (pv 1) rfl) (nomark _)) (pe_one (pe_cmpR (op_eqD hr.units) (pe_fld (pv 0) rfl) (pe_fld (pv 1) rfl) (nomark _))))))), ?_⟩
    exact ⟨_, rfl, _, _, _, _, _, rfl, .own _, hk.ty, NN.kit hk, _, rfl, iteF q⟩
theorem ok_law_equal {f fe : Addr} {CS : List Addr} {fd fde : FuncData} {pse : List Str} (F : Fun K "_law_equal" "_law_equal" s_law_equal f fd) (TE : EqF K CS fe) (NF : ∀ C ∈ CS, NotFst K C) (FE : FnOk P w K mg base (L2.CX P w) 2 fe fde pse (spEqX K CS)) (bE : Binds K fde pse []) (g_law_same : DefQ P w K mg base "_law_same" 1 spSame) :
    FnOk P w K mg base (L2.CX P w) 4 f fd ["one", "other", "due"] (spEqual CS) := by
  refine F.okX sc_law_equal (fun vs H Q E h => ?_) (fun cdv A outer s H vs Q E hr h => ?_)
  · obtain ⟨C, D, a, b, n, m, cs, ds, due, _, _, rfl, _⟩ := h
    rfl
  · obtain ⟨C, D, a, b, n, m, cs, ds, due, hC, hD, rfl, NA, NB, ed, q⟩ := h
    have hrq := L2H.roomH_of hr
    obtain ⟨dx, tc, ti, to, ws, hx, _⟩ := NA.ex
    obtain ⟨dy, td, tj, tp, us, hy, _⟩ := NB.ex
    -- slots: 0 one, 1 other, 2 due
    refine ⟨_, (pss_one (ps_ret (pe_and (pe_cq g_law_same hrq (pa_cons (pe_cmpR (op_ownX TE NF FE bE (hr.mono (by decide))) (pv 0) (pv 1) (nomark _)) (pa_cons (pv 2) pa_nil))) (pe_one (pe_cq g_law_same hrq (pa_cons (pe_cmpR (op_ownX TE NF FE bE (hr.mono (by decide))) (pv 1) (pv 0) (nomark _)) (pa_cons (pv 2) pa_nil))))))), ?_⟩
    have e2 : (decide (m = n) && decide (ds = cs)) = due := by
      rw [ed]
      have a1 : decide (m = n) = decide (n = m) := decide_eq_decide.mpr eq_comm
      have a2 : decide (ds = cs) = decide (cs = ds) := decide_eq_decide.mpr eq_comm
      rw [a1, a2]
    refine ⟨_, rfl, _, rfl, a, C, dx, _, hC, rfl, hx, .inl ⟨b, D, dy, _, hD, rfl, hy⟩, .inl ⟨C, D, a, b, n, m, cs, ds, hC, hD, rfl, NA, NB, _, rfl, ?_⟩⟩
    rw [← ed]
    refine ⟨_, rfl, _, rfl, rfl, _, rfl, iteT ?_⟩
    refine ⟨_, rfl, _, rfl, b, D, dy, _, hD, rfl, hy, .inl ⟨a, C, dx, _, hC, rfl, hx⟩, .inl ⟨D, C, b, a, m, n, ds, cs, hD, hC, rfl, NB, NA, _, rfl, ?_⟩⟩
    rw [e2]
    exact ⟨_, rfl, _, rfl, rfl, q⟩
end
end WC

set_option maxHeartbeats 8000000
namespace WC
open PySem PySem.Spec PyProof.Rows L2 L2H
theorem cut_take {xs : List V} {s : Nat} (h : s ≤ xs.length) : cutV xs none (some (s : Int)) = xs.take s := by
  unfold cutV
  rw [HT.sIx_nat, HT.sIx_none, Nat.min_eq_left h, List.drop_zero, Nat.sub_zero]
theorem cut_from {xs : List V} {s : Nat} (h : s ≤ xs.length) : cutV xs (some (s : Int)) none = xs.drop s := by
  unfold cutV
  rw [HT.sIx_nat, HT.sIx_none, Nat.min_eq_left h, List.take_of_length_le (by rw [List.length_drop]; omega)]
theorem pr_drop {α β : Type} {F : α → β → Prop} : ∀ {l : List α} {r : List β} (i : Nat), Paired F l r → Paired F (l.drop i) (r.drop i)
  | _, _, 0, h => by rw [List.drop_zero, List.drop_zero]; exact h
  | _, _, i + 1, .nil => by rw [List.drop_nil, List.drop_nil]; exact .nil
  | _, _, i + 1, .cons p q => by rw [List.drop_succ_cons, List.drop_succ_cons]; exact pr_drop i q
theorem pr_take {α β : Type} {F : α → β → Prop} : ∀ {l : List α} {r : List β} (i : Nat), Paired F l r → Paired F (l.take i) (r.take i)
  | _, _, 0, h => by rw [List.take_zero, List.take_zero]; exact .nil
  | _, _, i + 1, .nil => by rw [List.take_nil, List.take_nil]; exact .nil
  | _, _, i + 1, .cons p q => by rw [List.take_succ_cons, List.take_succ_cons]; exact .cons p (pr_take i q)
theorem pr_app {α β : Type} {F : α → β → Prop} : ∀ {l l2 : List α} {r r2 : List β}, Paired F l r → Paired F l2 r2 → Paired F (l ++ l2) (r ++ r2)
  | _, _, _, _, .nil, h => h
  | _, _, _, _, .cons p q, h => .cons p (pr_app q h)
theorem int_inj {ns ms : List Int} (h : ns.map V.int = ms.map V.int) : ns = ms := (List.map_inj_right fun a b e => V.int.inj e).mp h
/-- rows and rings of good sizes -/
def spLRowG (CP : Addr) : Sp := fun vs H Q _ => ∃ (l : Addr) (ns : List Int), vs = [.ref l] ∧ H l = some (.lst (ns.map V.int)) ∧ SzOk ns ∧ ns.length ≤ 6 ∧ Made CP (ns.length + 1) (rowOf ns) H Q
def spLRingG (CR : Addr) : Sp := fun vs H Q _ => ∃ (l : Addr) (ns : List Int), vs = [.ref l] ∧ H l = some (.lst (ns.map V.int)) ∧ SzOk ns ∧ 3 ≤ ns.length ∧ ns.length ≤ 6 ∧ Made CR ns.length (ringOf ns) H Q
theorem rowG_X {K : PySem.W.Frag} {CP CI : Addr} {vs : List V} {H : Hp} {Q : VK} {E : XK} (h : spLRowG CP vs H Q E) : spLRow K CP CI vs H Q E := by
  obtain ⟨l, ns, rfl, hl, z, l6, k⟩ := h
  have hml : (ns.map V.int).length = ns.length := List.length_map _
  refine ⟨l, _, rfl, hl, .inl (by omega), ⟨by omega, fun u hu => ?_, fun e => ?_, fun _ m fb => absurd (sz_good z) (first_not fb), fun _ ms e _ => ?_⟩⟩
  · obtain ⟨i, _, rfl⟩ := List.mem_map.mp hu
    trivial
  · exfalso; omega
  · rw [← int_inj e]
    exact k
theorem ringG_X {K : PySem.W.Frag} {CR CI : Addr} {vs : List V} {H : Hp} {Q : VK} {E : XK} (h : spLRingG CR vs H Q E) : spLRing K CR CI vs H Q E := by
  obtain ⟨l, ns, rfl, hl, z, h3, l6, k⟩ := h
  have hml : (ns.map V.int).length = ns.length := List.length_map _
  refine ⟨l, _, rfl, hl, .inl (by omega), ⟨by omega, fun u hu => ?_, fun e => ?_, fun _ _ m fb => absurd (sz_good z) (first_not fb), fun _ _ ms e _ => ?_⟩⟩
  · obtain ⟨i, _, rfl⟩ := List.mem_map.mp hu
    trivial
  · exfalso; omega
  · rw [← int_inj e]
    exact k
def spComp : Sp := fun vs H Q _ => ∃ (Z : Addr) (ns : List Int) (p : Nat), vs = [.ref Z, .int p] ∧ H Z = some (.lst (ns.map V.int)) ∧ SzOk ns ∧ ns.length ≤ 6 ∧ (p < ns.length ∨ (ns.length = 0 ∧ p = 0)) ∧ ∀ H2, Same H H2 → Q (.bl true) H2
section
variable {P : Program} {w : World} {K : PySem.W.Frag} {mg : Str → Option Value} {base : Heap}
theorem ok_compared {f fe CP CR : Addr} {fd fde : FuncData} {pse : List Str} (F : Fun K "_law_compared" "_law_compared" s_law_compared f fd) (B : Blt mg) (TE : EqF K [CP, CR] fe) (NF : ∀ C ∈ [CP, CR], NotFst K C) (FE : FnOk P w K mg base (L2.CX P w) 2 fe fde pse (spEqX K [CP, CR])) (bE : Binds K fde pse []) (g_law_same : DefQ P w K mg base "_law_same" 1 spSame)
    (g_law_links : DefR P w K mg base "_law_links" 1 spLinks1) (g_law_row : DefR P w K mg base "_law_row" 8 (spLRowG CP)) (g_law_ring : DefR P w K mg base "_law_ring" 7 (spLRingG CR)) (g_law_pipeline : DefR P w K mg base "_law_pipeline" 6 (spLPipe CP)) (g_law_equal : DefR P w K mg base "_law_equal" 4 (spEqual [CP, CR])) (g_law_good : DefR P w K mg base "_law_good" 5 (spGood1 CP CR)) :
    FnOk P w K mg base (L2.CX P w) 9 f fd ["sizes", "place"] spComp := by
  refine F.okX sc_law_compared (fun vs H Q E h => ?_) (fun cdv A outer s H vs Q E hr h => ?_)
  · obtain ⟨Z, ns, p, rfl, _⟩ := h
    rfl
  · obtain ⟨Z, ns, p, rfl, hZ, z, l6, hpl, q⟩ := h
    have hrq := L2H.roomH_of hr
    have iP : CP ∈ [CP, CR] := List.mem_cons_self
    have iR : CR ∈ [CP, CR] := List.mem_cons_of_mem _ List.mem_cons_self
    have hml : (ns.map V.int).length = ns.length := List.length_map _
    have hp6 : p ≤ ns.length := by omega
    have rl := rowOf_len ns
    have okR := rowOf_ok (ns := ns) z
    have ndR : ((rowOf ns).map pairOf).Nodup := nodup_of_inc (f := fun c : Tri => c.1) (fun _ => rfl) (rowOf_inc ns)
    have acR : Acyc (rowOf ns) := ⟨Int.toNat, fun c hc => by
      obtain ⟨i, q, _, rfl⟩ := rowOf_mem hc
      show (i : Int).toNat < ((i : Int) + 1).toNat
      omega⟩
    have stR := keys_inc (by omega) okR (rowOf_inc ns)
    -- slots: 0 sizes, 1 place, 2 count, 3 links, 4 row, 5 thing, 6 changed, 7 ring
    refine ⟨_, (pss_cons (ps_set (i := 2) sc_law_compared.nd rfl (Or.inl rfl) (pe_op op_add (pe_callB call_len_seq (by rfl) B.len bt_len (pa_cons (pv 0) pa_nil)) pe_int))
      (pss_cons (ps_set (i := 3) sc_law_compared.nd rfl (Or.inl rfl) (pe_cd g_law_links hr psE (pa_cons (pv 0) (pa_cons pe_bl pa_nil))))
      (pss_cons (ps_set (i := 4) sc_law_compared.nd rfl (Or.inl rfl) (pe_cd g_law_row hr psE (pa_cons (pe_callTy (T := "list") call_list_of (by rfl) B.list bt_list (pa_cons (pv 0) pa_nil)) pa_nil)))
      (pss_cons (ps_if (pt_not (pt_val (pe_cd g_law_equal hr psE (pa_cons (pv 4) (pa_cons (pe_cd g_law_pipeline hr psE (pa_cons (pv 2) (pa_cons (pe_op op_cat (pe_slice sl_list (pv 3) (po_some (pv 1)) po_none) (pe_slice sl_list (pv 3) po_none (po_some (pv 1)))) pa_nil))) (pa_cons pe_bl pa_nil)))))) (pss_one (ps_ret pe_bl)) pss_nil)
      (pss_cons (ps_if (pt_not (pt_val (pe_cd g_law_equal hr psE (pa_cons (pv 4) (pa_cons (pe_cd g_law_pipeline hr psE (pa_cons (pe_op op_add (pv 2) pe_int) (pa_cons (pv 3) pa_nil))) (pa_cons pe_bl pa_nil)))))) (pss_one (ps_ret pe_bl)) pss_nil)
      (pss_cons (ps_for (passes_of rfl) rfl (pi_list (pe_lst (pa_cons pe_non (pa_cons pe_int (pa_cons pe_str (pa_cons (pe_callTy (T := "tuple") (c_tup (K := K)) (by rfl) B.tuple bt_tuple (pa_cons (pv 3) pa_nil)) (pa_cons (pe_callTy (T := "list") call_list_of (by rfl) B.list bt_list (pa_cons (pv 3) pa_nil)) pa_nil))))))) (pg_name (i := 5) sc_law_compared.nd rfl (Or.inl rfl))
        (pss_one (ps_if (pt_not (pt_val (pe_cq g_law_same hrq (pa_cons (pe_cmpR (op_ownX TE NF FE bE (hr.mono (by decide))) (pv 4) (pv 5) (nomark _)) (pa_cons pe_bl pa_nil))))) (pss_one (ps_ret pe_bl)) pss_nil)))
      (pss_cons (ps_if (pt_cmpR op_eq (pe_callB call_len_seq (by rfl) B.len bt_len (pa_cons (pv 0) pa_nil)) pe_int (nomark _)) (pss_one (ps_ret pe_bl)) pss_nil)
      (pss_cons (ps_set (i := 6) sc_law_compared.nd rfl (Or.inl rfl) (pe_callTy (T := "list") call_list_of (by rfl) B.list bt_list (pa_cons (pv 0) pa_nil)))
      (pss_cons (ps_asg (pe_ifExp (pt_cmpR op_lt (pe_ix ix_list (pv 6) (pv 1) (fun _ _ => rfl)) pe_int (nomark _)) (pe_op op_add pe_int (pe_ix ix_list (pv 6) (pv 1) (fun _ _ => rfl))) pe_int) (pg_sub (pv 6) (pv 1) set_list))
      (pss_cons (ps_if (pt_not (pt_val (pe_cd g_law_equal hr psE (pa_cons (pv 4) (pa_cons (pe_cd g_law_row hr psE (pa_cons (pv 6) pa_nil)) (pa_cons pe_bl pa_nil)))))) (pss_one (ps_ret pe_bl)) pss_nil)
      (pss_cons (ps_if (pt_not (pt_val (pe_cd g_law_equal hr psE (pa_cons (pv 4) (pa_cons (pe_cd g_law_pipeline hr psE (pa_cons (pv 2) (pa_cons (pe_op op_cat (pe_slice sl_list (pv 3) po_none (po_some (pv 1))) (pe_slice sl_list (pv 3) (po_some (pe_op op_add (pv 1) pe_int)) po_none)) pa_nil))) (pa_cons pe_bl pa_nil)))))) (pss_one (ps_ret pe_bl)) pss_nil)
      (pss_cons (ps_if (pt_cmpR op_lt (pe_callB call_len_seq (by rfl) B.len bt_len (pa_cons (pv 0) pa_nil)) pe_int (nomark _)) (pss_one (ps_ret pe_bl)) pss_nil)
      (pss_cons (ps_set (i := 7) sc_law_compared.nd rfl (Or.inl rfl) (pe_cd g_law_ring hr psE (pa_cons (pe_callTy (T := "list") call_list_of (by rfl) B.list bt_list (pa_cons (pv 0) pa_nil)) pa_nil)))
      (pss_cons (ps_if (pt_not (pt_val (pe_cd g_law_equal hr psE (pa_cons (pv 7) (pa_cons (pe_cd g_law_ring hr psE (pa_cons (pe_callTy (T := "list") call_list_of (by rfl) B.list bt_list (pa_cons (pv 0) pa_nil)) pa_nil)) (pa_cons pe_bl pa_nil)))))) (pss_one (ps_ret pe_bl)) pss_nil)
      (pss_cons (ps_if (pt_not (pt_val (pe_cd g_law_equal hr psE (pa_cons (pv 7) (pa_cons (pe_cd g_law_ring hr psE (pa_cons (pv 6) pa_nil)) (pa_cons pe_bl pa_nil)))))) (pss_one (ps_ret pe_bl)) pss_nil)
      (pss_cons (ps_if (PW.pt (pw_or (pt_not (pt_val (pe_cd g_law_equal hr psE (pa_cons (pv 7) (pa_cons (pv 4) (pa_cons pe_bl pa_nil)))))) (pw_or1 (pt_not (pt_val (pe_cq g_law_same hrq (pa_cons (pe_cmpR (op_ownX TE NF FE bE (hr.mono (by decide))) (pv 7) (pe_callTy (T := "tuple") (c_tup (K := K)) (by rfl) B.tuple bt_tuple (pa_cons (pe_cd g_law_links hr psE (pa_cons (pv 0) (pa_cons pe_bl pa_nil))) pa_nil)) (nomark _)) (pa_cons pe_bl pa_nil)))))))) (pss_one (ps_ret pe_bl)) pss_nil)
      (pss_one (ps_ret (pe_and (pe_cd g_law_good hr psE (pa_cons (pv 7) (pa_cons (pv 0) (pa_cons pe_bl pa_nil)))) (pe_one (pe_cd g_law_good hr psE (pa_cons (pv 4) (pa_cons (pv 0) (pa_cons pe_bl pa_nil)))))))))))))))))))))))), ?_⟩
    refine ⟨_, rfl, Z, _, rfl, .inl (SqL.of hZ), _, _, rfl, rfl, ?_⟩
    rw [hml]
    refine ⟨_, rfl, Z, ns, false, rfl, hZ, by omega, fun H1 L ks s1 nL hL pL => ?_⟩
    have pL : Paired (TriA H1) (rowOf ns) ks := pL
    have kl : ks.length = ns.length := by rw [← pL.length, rl]
    refine ⟨_, rfl, Z, _, rfl, .inl (SqL.of (s1 _ _ hZ)), fun A0 nA0 => ⟨A0, ns, rfl, upd_same, z, l6, fun H2 r s2' nr NR => ?_⟩⟩
    have s12 : Same H1 H2 := (Same.new nA0).trans s2'
    have s02 := s1.trans s12
    have hL2 := s12 _ _ hL
    -- the channels in another order
    refine ⟨_, rfl, _, rfl, _, rfl, _, rfl, _, rfl, L, ks, rfl, SqL.of hL2, fun A1 nA1 => ?_⟩
    rw [cut_from (by omega)]
    have t1 : Same H2 (upd H2 A1 (.lst (ks.drop p))) := Same.new nA1
    refine ⟨_, rfl, _, rfl, _, rfl, L, ks, rfl, SqL.of (t1 _ _ hL2), fun A2 nA2 => ?_⟩
    rw [cut_take (by omega)]
    have t2 : Same (upd H2 A1 (.lst (ks.drop p))) (upd (upd H2 A1 (.lst (ks.drop p))) A2 (.lst (ks.take p))) := Same.new nA2
    refine ⟨A1, A2, _, _, rfl, rfl, t2 _ _ upd_same, upd_same, ?_, fun A3 nA3 => ?_⟩
    · rw [List.length_drop, List.length_take]
      exact line_of (by omega)
    have t3 : Same (upd (upd H2 A1 (.lst (ks.drop p))) A2 (.lst (ks.take p))) (upd (upd (upd H2 A1 (.lst (ks.drop p))) A2 (.lst (ks.take p))) A3 (.lst (ks.drop p ++ ks.take p))) := Same.new nA3
    have t13 := t1.trans (t2.trans t3)
    have pm : ((rowOf ns).drop p ++ (rowOf ns).take p).Perm (rowOf ns) := List.perm_append_comm.trans (by rw [List.take_append_drop])
    refine ⟨A3, ns.length + 1, (rowOf ns).drop p ++ (rowOf ns).take p, ks.drop p ++ ks.take p, rfl, upd_same, by omega, by omega, tris_same (s12.trans t13) (pr_app (pr_drop p pL) (pr_take p pL)), fun c hc => okR c (pm.mem_iff.mp hc), (pm.map _).nodup_iff.mpr ndR, acR.sub fun c hc => pm.mem_iff.mp hc, by rw [pm.length_eq, rl]; exact l6, fun H3 y cs2 s3 ny pm2 st NY => ?_⟩
    obtain rfl : cs2 = rowOf ns := sorted_one (pm2.trans pm) st stR
    have s23 := t13.trans s3
    have NR3 := NR.same s23
    refine ⟨CP, CP, r, y, _, _, _, _, true, iP, iP, rfl, NR3, NY, by simp, _, rfl, iteF ?_⟩
    -- one stage more
    have s13 := s12.trans s23
    refine ⟨_, rfl, _, rfl, _, _, rfl, rfl, _, rfl, L, ns.length + 1 + 1, rowOf ns, ks, rfl, s13 _ _ hL, by omega, by omega, tris_same s13 pL, fun c hc => ?_, ndR, acR, by omega, fun H4 y2 cs2 s4 ny2 pm3 st2 NY2 => ?_⟩
    · obtain ⟨⟨a1, a2⟩, ⟨a3, a4⟩, a5, a6⟩ := okR c hc
      exact ⟨⟨a1, by omega⟩, ⟨a3, by omega⟩, a5, a6⟩
    have s14 := s13.trans s4
    have NR4 := NR3.same s4
    refine ⟨CP, CP, r, y2, _, _, _, _, false, iP, iP, rfl, NR4, NY2, by rw [decide_eq_false (by omega), Bool.false_and], _, rfl, iteF ?_⟩
    -- other values
    have s04 := s1.trans s14
    have hL4 := s14 _ _ hL
    refine ⟨_, rfl, L, ks, rfl, .inl ⟨SqL.of hL4, fun T nT => ?_⟩⟩
    have u1 : Same H4 (upd H4 T (.tup ks)) := Same.new nT
    refine ⟨_, rfl, L, ks, rfl, .inl (SqL.of (u1 _ _ hL4)), fun M nM => ⟨by show 5 ≤ sizeLine; decide, fun W nW => ?_⟩⟩
    have u2 : Same (upd H4 T (.tup ks)) (upd (upd H4 T (.tup ks)) M (.lst ks)) := Same.new nM
    have u3 : Same (upd (upd H4 T (.tup ks)) M (.lst ks)) (upd (upd (upd H4 T (.tup ks)) M (.lst ks)) W (.lst [.non, .int 0, .str "row", .ref T, .ref M])) := Same.new nW
    have hT5 := u3 _ _ (u2 _ _ (upd_same (H := H4) (a := T) (o := .tup ks)))
    have hM5 := u3 _ _ (upd_same (H := upd H4 T (.tup ks)) (a := M) (o := .lst ks))
    have hW5 : (upd (upd (upd H4 T (.tup ks)) M (.lst ks)) W (.lst [.non, .int 0, .str "row", .ref T, .ref M])) W = some (.lst [.non, .int 0, .str "row", .ref T, .ref M]) := upd_same
    have s45 := u1.trans (u2.trans u3)
    obtain ⟨H5, eH5⟩ : ∃ H5, H5 = upd (upd (upd H4 T (.tup ks)) M (.lst ks)) W (.lst [.non, .int 0, .str "row", .ref T, .ref M]) := ⟨_, rfl⟩
    rw [← eH5] at hT5 hM5 hW5 s45 ⊢
    have NR5 := NR4.same s45
    refine ⟨W, rfl, ⟨_, SqL.of hW5⟩, for_list (K := K) (a := W) (xs := [.non, .int 0, .str "row", .ref T, .ref M]) (fun i σ H6 => ∃ v5, σ = [some (.ref Z), some (.int p), some (.int ((ns.length : Int) + 1)), some (.ref L), some (.ref r), v5, none, none] ∧ Same H5 H6) ⟨_, rfl, Same.refl _⟩ (fun i σ H6 _ ⟨_, _, s6⟩ => SqL.of (s6 _ _ hW5)) ?_ ?_⟩
    · rintro i y σ H6 hy ⟨v5, rfl, s6⟩
      have hk : Known K H6 y := by
        have hm := List.mem_of_getElem? hy
        simp only [List.mem_cons, List.not_mem_nil, or_false] at hm
        rcases hm with e | e | e | e | e <;> rw [e]
        · trivial
        · trivial
        · trivial
        · exact .inl ⟨_, s6 _ _ hT5⟩
        · exact .inr ⟨_, s6 _ _ hM5⟩
      have NR6 := NR5.same s6
      obtain ⟨dx, tc, ti, to, ws, hx, _⟩ := id NR6.ex
      exact ⟨_, rfl, _, rfl, r, CP, dx, _, iP, rfl, hx, .inr hk, .inr ⟨CP, r, _, _, y, iP, rfl, NR6, hk, _, rfl, _, rfl, rfl, _, rfl, iteF ⟨_, rfl, s6⟩⟩⟩
    rintro σ H6 ⟨v5, rfl, s56⟩
    have s46 := s45.trans s56
    have s06 := s04.trans s46
    have NR6 := NR4.same s46
    have s16 := s14.trans s46
    refine ⟨_, rfl, Z, _, rfl, .inl (SqL.of (s06 _ _ hZ)), rfl, _, rfl, ?_⟩
    rw [hml]
    by_cases l0 : ns.length = 0
    · exact len_eq (by omega) (q _ s06)
    refine len_ne (by omega) ?_
    have hp : p < ns.length := by omega
    obtain ⟨old, hold⟩ : ∃ old, ns[p]? = some old := ⟨_, by simp [hp]; rfl⟩
    have zo := z old (List.mem_of_getElem? hold)
    have atp : atI (ns.map V.int) (p : Int) = some (.int old) := atI_nat (by rw [List.getElem?_map, hold]; rfl)
    -- another size
    refine ⟨_, rfl, Z, _, rfl, .inl (SqL.of (s06 _ _ hZ)), fun G nG => ?_⟩
    have v1 : Same H6 (upd H6 G (.lst (ns.map V.int))) := Same.new nG
    dsimp only [gName]
    refine seq_mid (fun σ H7 => ∃ c : Int, σ = [some (.ref Z), some (.int p), some (.int ((ns.length : Int) + 1)), some (.ref L), some (.ref r), v5, some (.ref G), none] ∧ Same H6 H7 ∧ H7 G = some (.lst ((ns.set p c).map V.int)) ∧ 1 ≤ c ∧ c ≤ 999 ∧ c ≠ old) (fun N hN => ?_) ?_
    · refine ⟨_, rfl, _, rfl, G, _, _, _, rfl, rfl, SqL.of upd_same, atp, _, _, rfl, rfl, _, rfl, ite2 (fun e => ?_) (fun e => ?_)⟩
      · have e := of_decide_eq_true e
        refine ⟨_, rfl, _, rfl, G, _, _, _, rfl, rfl, SqL.of upd_same, atp, _, _, rfl, rfl, _, rfl, _, rfl, G, _, _, p, rfl, rfl, upd_same, ixn (by omega), hN _ _ ⟨1 + old, rfl, Same.newer v1 nG, ?_, by omega, by omega, by omega⟩⟩
        rw [upd_same, List.map_set]
      · have e : ¬ old < 999 := fun z => e (decide_eq_true z)
        refine ⟨_, rfl, _, rfl, G, _, _, p, rfl, rfl, upd_same, ixn (by omega), hN _ _ ⟨998, rfl, Same.newer v1 nG, ?_, by omega, by omega, by omega⟩⟩
        rw [upd_same, List.map_set]
    rintro σ H7 ⟨c, rfl, s67, hG, c1, c2, cne⟩
    have s07 := s06.trans s67
    have s17 := s16.trans s67
    have NR7 := NR6.same s67
    have l2 : (ns.set p c).length = ns.length := List.length_set
    have z2 : SzOk (ns.set p c) := fun d hd => by
      rcases List.mem_or_eq_of_mem_set hd with h | h
      · exact z d h
      · rw [h]; exact ⟨c1, c2⟩
    have ne2 : ns ≠ ns.set p c := fun e => by
      have a : (ns.set p c)[p]? = some c := by rw [List.getElem?_set_self hp]
      rw [← e, hold] at a
      exact cne (Option.some.inj a).symm
    have neR : rowOf ns ≠ rowOf (ns.set p c) := fun e => ne2 (by
      have a := congrArg (List.map fun t : Tri => t.2.2) e
      rwa [sizes_row, sizes_row] at a)
    have neG : ringOf ns ≠ ringOf (ns.set p c) := fun e => ne2 (by
      have a := congrArg (List.map fun t : Tri => t.2.2) e
      rwa [sizes_ring, sizes_ring] at a)
    generalize ns.set p c = ms at *
    refine ⟨_, rfl, _, rfl, G, ms, rfl, hG, z2, by omega, fun H8 y s78 ny NY => ?_⟩
    have NR8 := NR7.same s78
    refine ⟨CP, CP, r, y, _, _, _, _, false, iP, iP, rfl, NR8, NY, by rw [decide_eq_false neR, Bool.and_false], _, rfl, iteF ?_⟩
    -- one channel less
    have s18 := s17.trans s78
    have hL8 := s18 _ _ hL
    refine ⟨_, rfl, _, rfl, _, rfl, _, rfl, _, rfl, L, ks, rfl, SqL.of hL8, fun A1 nA1 => ?_⟩
    rw [(cut_lo (xs := ks) (s := p) (by omega)).1]
    have t1 : Same H8 (upd H8 A1 (.lst (ks.take p))) := Same.new nA1
    refine ⟨_, rfl, _, rfl, _, _, rfl, rfl, _, rfl, L, ks, rfl, SqL.of (t1 _ _ hL8), fun A2 nA2 => ?_⟩
    rw [(cut_hi (xs := ks) (s := p) (by omega)).1]
    have t2 : Same (upd H8 A1 (.lst (ks.take p))) (upd (upd H8 A1 (.lst (ks.take p))) A2 (.lst (ks.drop (p + 1)))) := Same.new nA2
    have el : ks.take p ++ ks.drop (p + 1) = ks.eraseIdx p := by rw [List.eraseIdx_eq_take_drop_succ]
    refine ⟨A1, A2, _, _, rfl, rfl, t2 _ _ upd_same, upd_same, ?_, fun A3 nA3 => ?_⟩
    · rw [← List.length_append, el]
      exact line_of (Nat.le_trans (List.length_eraseIdx_le _ _) (by omega))
    rw [el]
    have t3 : Same (upd (upd H8 A1 (.lst (ks.take p))) A2 (.lst (ks.drop (p + 1)))) (upd (upd (upd H8 A1 (.lst (ks.take p))) A2 (.lst (ks.drop (p + 1)))) A3 (.lst (ks.eraseIdx p))) := Same.new nA3
    have t13 := t1.trans (t2.trans t3)
    have sub := List.eraseIdx_sublist (rowOf ns) p
    have lel : ((rowOf ns).eraseIdx p).length = ns.length - 1 := by rw [List.length_eraseIdx_of_lt (by omega), rl]
    refine ⟨A3, ns.length + 1, (rowOf ns).eraseIdx p, ks.eraseIdx p, rfl, upd_same, by omega, by omega, tris_same (s18.trans t13) (pr_erase p pL), fun c hc => okR c (sub.subset hc), (sub.map _).nodup ndR, acR.sub fun c hc => sub.subset hc, by omega, fun H9 y9 cs9 s9 ny9 pm9 st9 NY9 => ?_⟩
    have s89 := t13.trans s9
    have NR9 := NR8.same s89
    have ne9 : rowOf ns ≠ cs9 := fun e => by
      have a := pm9.length_eq
      rw [← e, lel, rl] at a
      omega
    refine ⟨CP, CP, r, y9, _, _, _, _, false, iP, iP, rfl, NR9, NY9, by rw [decide_eq_false ne9, Bool.and_false], _, rfl, iteF ?_⟩
    have s79 := s78.trans s89
    have s09 := s07.trans s79
    refine ⟨_, rfl, Z, _, rfl, .inl (SqL.of (s09 _ _ hZ)), _, _, rfl, rfl, _, rfl, ?_⟩
    rw [hml]
    by_cases l3 : ns.length < 3
    · rw [decide_eq_true (by omega)]
      exact iteT (q _ s09)
    rw [decide_eq_false (by omega)]
    refine iteF ?_
    -- rings
    refine ⟨_, rfl, Z, _, rfl, .inl (SqL.of (s09 _ _ hZ)), fun A4 nA4 => ⟨A4, ns, rfl, upd_same, z, by omega, l6, fun Ha g sa' ng NG => ?_⟩⟩
    have s9a : Same H9 Ha := (Same.new nA4).trans sa'
    have s0a := s09.trans s9a
    refine ⟨_, rfl, _, rfl, Z, _, rfl, .inl (SqL.of (s0a _ _ hZ)), fun A5 nA5 => ⟨A5, ns, rfl, upd_same, z, by omega, l6, fun Hb y sb' nyb NYb => ?_⟩⟩
    have sab : Same Ha Hb := (Same.new nA5).trans sb'
    have s0b := s0a.trans sab
    have NGb := NG.same sab
    refine ⟨CR, CR, g, y, _, _, _, _, true, iR, iR, rfl, NGb, NYb, by simp, _, rfl, iteF ?_⟩
    have s7b := s79.trans (s9a.trans sab)
    refine ⟨_, rfl, _, rfl, G, ms, rfl, s7b _ _ hG, z2, by omega, by omega, fun Hc y2 sbc nyc NYc => ?_⟩
    have NGc := NGb.same sbc
    have s0c := s0b.trans sbc
    refine ⟨CR, CR, g, y2, _, _, _, _, false, iR, iR, rfl, NGc, NYc, by rw [decide_eq_false neG, Bool.and_false], _, rfl, iteF ?_⟩
    have NRc := NR9.same (s9a.trans (sab.trans sbc))
    refine ⟨_, rfl, _, rfl, CR, CP, g, r, _, _, _, _, false, iR, iP, rfl, NGc, NRc, by rw [decide_eq_false (by omega), Bool.false_and], _, rfl, iteF ?_⟩
    refine ⟨_, rfl, _, rfl, Z, ns, true, rfl, s0c _ _ hZ, by omega, fun Hd L2 ks2 scd nL2 hL2' pL2 => ⟨L2, ks2, rfl, .inl ⟨SqL.of hL2', fun T2 nT2 => ?_⟩⟩⟩
    have sde : Same Hd (upd Hd T2 (.tup ks2)) := Same.new nT2
    have sce := scd.trans sde
    have NGe := NGc.same sce
    have hk : Known K (upd Hd T2 (.tup ks2)) (.ref T2) := .inl ⟨_, upd_same⟩
    obtain ⟨dg, tc, ti, to, ws, hg, _⟩ := id NGe.ex
    refine ⟨g, CR, dg, _, iR, rfl, hg, .inr hk, .inr ⟨CR, g, _, _, .ref T2, iR, rfl, NGe, hk, _, rfl, _, rfl, rfl, _, rfl, iteF ?_⟩⟩
    have s0e := s0c.trans sce
    refine ⟨_, rfl, _, rfl, CR, g, Z, ns, true, .inr ⟨rfl, rfl⟩, rfl, NGe, ⟨z, fun _ => by omega, by show ns.length ≤ 40; omega⟩, s0e _ _ hZ, fun Hf sef => ⟨_, rfl, iteT ?_⟩⟩
    exact ⟨_, rfl, _, rfl, CP, r, Z, ns, false, .inl ⟨rfl, rfl⟩, rfl, (NRc.same sce).same sef, ⟨z, fun e => Bool.noConfusion e, by show ns.length + 1 ≤ 40; omega⟩, (s0e.trans sef) _ _ hZ, fun Hg sfg => q _ (s0e.trans (sef.trans sfg))⟩
end
end WC

set_option maxHeartbeats 8000000
namespace WC
open PySem PySem.Spec PyProof.Rows L2 L2H
theorem bag_ne {H : Hp} {b p : Addr} (h : BagAt H b) (hp : H p = none) : b ≠ p := fun z => by
  obtain ⟨x, f, e⟩ := h
  rw [z, hp] at e
  cases e
/-- a value that is drawn for a capacity -/
def Kt (H : Hp) (u : V) : Prop := plainV u = true ∨ ∃ t xs, u = .ref t ∧ H t = some (.tup xs)
theorem Kt.known {K : PySem.W.Frag} {H : Hp} {u : V} (h : Kt H u) : Known K H u := by
  rcases h with h | ⟨t, xs, e, ht⟩
  · exact known_plain h
  · subst e
    exact .inl ⟨xs, ht⟩
theorem Kt.same {H H2 : Hp} {u : V} (h : Kt H u) (s : Same H H2) : Kt H2 u := by
  rcases h with h | ⟨t, xs, e, ht⟩
  · exact .inl h
  · exact .inr ⟨t, xs, e, s _ _ ht⟩
theorem Kt.onB {b : Addr} {H H2 : Hp} {u : V} (h : Kt H u) (s : SameB b H H2) (hb : BagAt H b) : Kt H2 u := by
  rcases h with h | ⟨t, xs, e, ht⟩
  · exact .inl h
  · obtain ⟨x, f, eb⟩ := hb
    exact .inr ⟨t, xs, e, s _ _ ht (ne_of ht eb (by intro z; cases z))⟩
theorem Kt.putL {Z : Addr} {H : Hp} {u : V} {us vs : List V} (h : Kt H u) (hZ : H Z = some (.lst us)) : Kt (upd H Z (.lst vs)) u := by
  rcases h with h | ⟨t, xs, e, ht⟩
  · exact .inl h
  · exact .inr ⟨t, xs, e, by rw [upd_ne (ne_of ht hZ (by intro z; cases z))]; exact ht⟩
def spSize1 : Sp := fun vs H Q _ => ∃ b : Addr, vs = [.ref b] ∧ BagAt H b ∧ ∀ v H2, Kt H2 v → SameB b H H2 → BagAt H2 b → Q v H2
def spRnd : Sp := fun vs H Q _ => ∃ b : Addr, vs = [.ref b] ∧ BagAt H b ∧ ∀ H2, SameB b H H2 → BagAt H2 b → Q (.bl true) H2
def spLaw (K : PySem.W.Frag) : Sp := fun vs H Q _ => ∃ (a : Addr) (ns : List Int), vs = [.ref a] ∧ SqL K H a (ns.map V.int) ∧ ns.length ≤ 63 ∧ ∀ H', Q (.bl true) H'
theorem same_of_new {H H2 H3 : Hp} {b : Addr} (s : Same H H2) (nb : H b = none) (s3 : SameB b H2 H3) : Same H H3 := fun c o e => s3 c o (s c o e) (ne_of_none e nb)
section
variable {P : Program} {w : World} {K : PySem.W.Frag} {mg : Str → Option Value} {base : Heap}
theorem ok_size1 {f : Addr} {fd : FuncData} (F : Fun K "_law_size" "_law_size" s_law_size f fd) (g_law_draw : DefR P w K mg base "_law_draw" 1 spDraw) : FnOk P w K mg base (L2.CX P w) 2 f fd ["bag"] spSize1 := by
  refine F.okX sc_law_size (fun vs H Q E h => ?_) (fun cdv A outer s H vs Q E hr h => ?_)
  · obtain ⟨b, rfl, _⟩ := h
    rfl
  · obtain ⟨b, rfl, hb, q⟩ := h
    -- slots: 0 bag, 1 way
    refine ⟨_, (pss_cons (ps_set (i := 1) sc_law_size.nd rfl (Or.inl rfl) (pe_cd g_law_draw hr psE (pa_cons (pv 0) (pa_cons pe_int pa_nil))))
      (pss_cons (ps_if (pt_cmpR op_eq (pv 1) pe_int (nomark _)) (pss_one (ps_ret (pe_ix ix_list (pe_lst (pa_cons pe_int (pa_cons pe_int (pa_cons (pe_un un_neg pe_int) (pa_cons (pe_op op_pow pe_int pe_int) (pa_cons pe_bl (pa_cons pe_bl (pa_cons pe_non (pa_cons pe_str (pa_cons (pe_tup (pa_cons pe_int pa_nil)) pa_nil)))))))))) (pe_cd g_law_draw hr psE (pa_cons (pv 0) (pa_cons pe_int pa_nil))) (fun _ _ => rfl)))) pss_nil)
      (pss_cons (ps_if (pt_cmpR op_eq (pv 1) pe_int (nomark _)) (pss_one (ps_ret (pe_op op_add pe_int (pe_cd g_law_draw hr psE (pa_cons (pv 0) (pa_cons pe_int pa_nil)))))) pss_nil)
      (pss_cons (ps_if (pt_cmpR op_eq (pv 1) pe_int (nomark _)) (pss_one (ps_ret pe_int)) pss_nil)
      (pss_one (ps_ret (pe_op op_add pe_int (pe_cd g_law_draw hr psE (pa_cons (pv 0) (pa_cons pe_int pa_nil)))))))))), ?_⟩
    refine ⟨_, rfl, b, 10, rfl, hb, by decide, by decide, fun d H5 d0 d1 s5 b5 => ⟨_, rfl, rfl, _, rfl, ite2 (fun _ => ?_) (fun _ => ?_)⟩⟩
    · refine ⟨_, rfl, _, _, rfl, rfl, ⟨by decide, by decide, by decide⟩, by show 1 ≤ sizeLine; decide, fun T hT => ⟨by show 9 ≤ sizeLine; decide, fun P2 hP2 => ?_⟩⟩
      have t1 : Same H5 (upd H5 T (.tup [.int 4])) := Same.new hT
      have t2 := t1.trans (Same.new hP2 (o := .lst [.int 0, .int 1000, .int (-1), .int (10 ^ (20 : Int).toNat), .bl true, .bl false, .non, .str "4", .ref T]))
      have b5' := b5.same t2
      have bP2 := bag_ne (b5.same t1) hP2
      refine ⟨_, rfl, b, 9, rfl, b5', by decide, by decide, fun e H6 e0 e1 s6 b6 => ?_⟩
      have hP6 := s6 _ _ (upd_same (H := upd H5 T (.tup [.int 4])) (a := P2) (o := .lst [.int 0, .int 1000, .int (-1), .int (10 ^ (20 : Int).toNat), .bl true, .bl false, .non, .str "4", .ref T])) bP2.symm
      have hT6 : H6 T = some (.tup [.int 4]) := s6 _ _ (Same.new hP2 _ _ upd_same) (bag_ne b5 hT).symm
      obtain ⟨v, hv, kv⟩ : ∃ v, atI [V.int 0, .int 1000, .int (-1), .int (10 ^ (20 : Int).toNat), .bl true, .bl false, .non, .str "4", .ref T] e = some v ∧ Kt H6 v := by
        rcases (by omega : e = 0 ∨ e = 1 ∨ e = 2 ∨ e = 3 ∨ e = 4 ∨ e = 5 ∨ e = 6 ∨ e = 7 ∨ e = 8) with z | z | z | z | z | z | z | z | z <;> subst z
        · exact ⟨_, atI_nat (j := 0) rfl, .inl rfl⟩
        · exact ⟨_, atI_nat (j := 1) rfl, .inl rfl⟩
        · exact ⟨_, atI_nat (j := 2) rfl, .inl rfl⟩
        · exact ⟨_, atI_nat (j := 3) rfl, .inl rfl⟩
        · exact ⟨_, atI_nat (j := 4) rfl, .inl rfl⟩
        · exact ⟨_, atI_nat (j := 5) rfl, .inl rfl⟩
        · exact ⟨_, atI_nat (j := 6) rfl, .inl rfl⟩
        · exact ⟨_, atI_nat (j := 7) rfl, .inl rfl⟩
        · exact ⟨_, atI_nat (j := 8) rfl, .inr ⟨T, _, rfl, hT6⟩⟩
      exact ⟨P2, _, _, _, rfl, rfl, SqL.of hP6, hv, q _ _ kv (s5.trans ((SameB.of t2).trans s6)) b6⟩
    refine ⟨_, rfl, rfl, _, rfl, ite2 (fun _ => ?_) (fun _ => ?_)⟩
    · exact ⟨_, rfl, b, 999, rfl, b5, by decide, by decide, fun m H6 m0 m1 s6 b6 => ⟨_, _, rfl, rfl, q _ _ (.inl rfl) (s5.trans s6) b6⟩⟩
    refine ⟨_, rfl, rfl, _, rfl, ite2 (fun _ => ?_) (fun _ => ?_)⟩
    · exact q _ _ (.inl rfl) s5 b5
    · exact ⟨_, rfl, b, 4, rfl, b5, by decide, by decide, fun m H6 m0 m1 s6 b6 => ⟨_, _, rfl, rfl, q _ _ (.inl rfl) (s5.trans s6) b6⟩⟩
theorem ok_small {f N : Addr} {fd : FuncData} (F : Fun K "_law_small" "_law_small" s_law_small f fd) (B : Blt mg) (Z : NetK K mg N) (SIC : StaR P w K mg base N "is_capacity" 2 (spCap K)) (g_law_draw : DefR P w K mg base "_law_draw" 1 spDraw) (g_law_size : DefR P w K mg base "_law_size" 2 spSize1) (g_law_mended : DefR P w K mg base "_law_mended" 10 (spAns K)) (g_law_is_capacity : DefR P w K mg base "_law_is_capacity" 1 (spCap K)) (g_law_same : DefQ P w K mg base "_law_same" 1 spSame) (g_law_compared : DefR P w K mg base "_law_compared" 9 spComp) :
    FnOk P w K mg base (L2.CX P w) 11 f fd ["bag"] spRnd := by
  refine F.okX sc_law_small (fun vs H Q E h => ?_) (fun cdv A outer s H vs Q E hr h => ?_)
  · obtain ⟨b, rfl, _⟩ := h
    rfl
  · obtain ⟨b, rfl, hb, q⟩ := h
    have hrq := L2H.roomH_of hr
    -- slots: 0 bag, 1 sizes, 2 k, 3 things, 4 thing, 5 plain, 6 one
    refine ⟨_, (pss_cons (ps_set (i := 1) sc_law_small.nd rfl (Or.inl rfl) (pe_lst pa_nil))
      (pss_cons (ps_for (passes_of rfl) rfl (pi_range1 (by rfl) B.range (pa_cons (pe_cd g_law_draw hr psE (pa_cons (pv 0) (pa_cons pe_int pa_nil))) pa_nil)) (pg_name (i := 2) sc_law_small.nd rfl (Or.inl rfl))
        (pss_one (ps_expr (pe_bm PySem.F.plainAttrs_list PySem.F.slot_list_append PySem.F.type_list_append mt_append (pv 1) (pa_cons (pe_cd g_law_size hr psE (pa_cons (pv 0) pa_nil)) pa_nil)))))
      (pss_cons (ps_if (PW.pt (pw_or (pt_not (pt_val (pe_cd g_law_mended hr psE (pa_cons (pv 1) (pa_cons pe_bl pa_nil))))) (pw_or1 (pt_not (pt_val (pe_cd g_law_mended hr psE (pa_cons (pv 1) (pa_cons pe_bl pa_nil)))))))) (pss_one (ps_ret pe_bl)) pss_nil)
      (pss_cons (ps_set (i := 3) sc_law_small.nd rfl (Or.inl rfl) (pe_lst (pa_cons pe_int (pa_cons pe_int (pa_cons pe_int (pa_cons pe_int (pa_cons pe_bl (pa_cons pe_bl (pa_cons pe_non (pa_cons pe_str (pa_cons (pe_tup (pa_cons pe_int pa_nil)) (pa_cons (pe_lst (pa_cons pe_int pa_nil)) (pa_cons (pe_op op_sub (pe_cd g_law_draw hr psE (pa_cons (pv 0) (pa_cons pe_int pa_nil))) pe_int) pa_nil)))))))))))))
      (pss_cons (ps_for (passes_of rfl) rfl (pi_list (pe_op op_cat (pv 3) (pv 1))) (pg_name (i := 4) sc_law_small.nd rfl (Or.inl rfl))
        (pss_one (ps_if (pt_not (pt_val (pe_cq g_law_same hrq (pa_cons (pe_sta SIC (pe_glob (v := .ref N) (by rfl) Z.gN rfl) hr psE (pa_cons (pv 4) pa_nil)) (pa_cons (pe_cd g_law_is_capacity hr psE (pa_cons (pv 4) pa_nil)) pa_nil))))) (pss_one (ps_ret pe_bl)) pss_nil)))
      (pss_cons (ps_setLc (i := 5) (own := [("one", 6)]) rfl sc_law_small.nd rfl rfl (sw_true rfl rfl rfl (by decide +kernel)) (pi_list (pv 1)) (blkOk_by (N := nn_law_small) (sc := defScope s_law_small) (own := [("one", 6)]) (by decide +kernel)) (fun _ _ _ _ _ => (pg_name (i := 6) sc_law_small.nd rfl (Or.inl rfl))) (fun _ _ _ _ _ => pts_nil) (fun _ _ _ _ _ => (pe_ifExp (pt_val (pe_cd g_law_is_capacity (by exact hr) passL (pa_cons (pv 6) pa_nil))) (pv 6) pe_int)))
      (pss_one (ps_ret (pe_cd g_law_compared hr psE (pa_cons (pv 5) (pa_cons (pe_cd g_law_draw hr psE (pa_cons (pv 0) (pa_cons (pe_callB (call_max2 rfl) (by rfl) B.max boot_max (pa_cons pe_int (pa_cons (pe_callB call_len_seq (by rfl) B.len bt_len (pa_cons (pv 5) pa_nil)) pa_nil))) pa_nil))) pa_nil))))))))))), ?_⟩
    refine ⟨by show 0 ≤ sizeLine; decide, fun Z1 hZ1 => ?_⟩
    have bZ := bag_ne hb hZ1
    have b1 : BagAt (upd H Z1 (.lst [])) b := hb.same (Same.new hZ1)
    refine ⟨_, rfl, b, 7, rfl, b1, by decide, by decide, fun d H2 d0 d1 s2 b2 => ?_⟩
    obtain ⟨m, rfl⟩ : ∃ m : Nat, d = (m : Int) := ⟨d.toNat, by omega⟩
    have s02 : SameB b H H2 := (SameB.of (Same.new hZ1)).trans s2
    refine ⟨(m : Int), rfl, by omega, by omega, for_range (lo := 0) (n := m) (fun i σ H3 => ∃ us v2, σ = [some (.ref b), some (.ref Z1), v2, none, none, none, none] ∧ SameB b H H3 ∧ BagAt H3 b ∧ H3 Z1 = some (.lst us) ∧ us.length = i ∧ ∀ u ∈ us, Kt H3 u) ⟨[], _, rfl, s02, b2, s2 _ _ upd_same bZ.symm, rfl, fun u hu => by cases hu⟩ ?_ ?_⟩
    · rintro i σ H3 hi ⟨us, v2, rfl, s3, b3, hZ3, lu, ku⟩
      refine ⟨_, rfl, .inl ⟨rfl, _, SqL.of hZ3⟩, _, rfl, b, rfl, b3, fun v H4 kv s4 b4 => ?_⟩
      have hZ4 := s4 _ _ hZ3 bZ.symm
      refine ⟨Z1, _, _, rfl, rfl, hZ4, line_lt (by omega), us ++ [v], _, rfl, ?_, ?_, upd_same, by rw [List.length_append, lu]; rfl, fun u hu => ?_⟩
      · exact (s3.trans s4).put hZ1
      · obtain ⟨bx, bf, eb⟩ := b4
        exact ⟨bx, bf, by rw [upd_ne bZ]; exact eb⟩
      · rcases List.mem_append.mp hu with z | z
        · exact ((ku u z).onB s4 b3).putL hZ4
        · rw [List.mem_singleton.mp z]
          exact kv.putL hZ4
    rintro σ H3 ⟨us, v2, rfl, s03, b3, hZ3, lu, ku⟩
    have l6 : us.length ≤ 6 := by omega
    refine ⟨_, rfl, Z1, us, true, rfl, hZ3, fun u hu => (ku u hu).known, .inl l6, fun H4 s4 => ⟨_, rfl, iteF ⟨_, rfl, Z1, us, false, rfl, s4 _ _ hZ3, fun u hu => ((ku u hu).same s4).known, .inl l6, fun H5 s5 => ⟨_, rfl, iteF ?_⟩⟩⟩⟩
    have s35 := s4.trans s5
    have b5 := b3.same s35
    have s05 : SameB b H H5 := s03.trans (.of s35)
    refine ⟨by show 1 ≤ sizeLine; decide, fun T hT => ⟨by show 1 ≤ sizeLine; decide, fun M hM => ?_⟩⟩
    have t1 : Same H5 (upd H5 T (.tup [.int 1])) := Same.new hT
    have t2 : Same (upd H5 T (.tup [.int 1])) (upd (upd H5 T (.tup [.int 1])) M (.lst [.int 2])) := Same.new hM
    have t12 := t1.trans t2
    have b6 := b5.same t12
    refine ⟨_, rfl, b, 2003, rfl, b6, by decide, by decide, fun e H7 e0 e1 s7 b7 => ⟨_, _, rfl, rfl, by show 11 ≤ sizeLine; decide, fun W hW => ?_⟩⟩
    have s57 : SameB b H5 H7 := (SameB.of t12).trans s7
    have s07 := s05.trans s57
    have hZ5 := s35 _ _ hZ3
    have hZ7 := s57 _ _ hZ5 bZ.symm
    have hT7 : H7 T = some (.tup [.int 1]) := s7 _ _ (t2 _ _ upd_same) (bag_ne b5 hT).symm
    have hM7 : H7 M = some (.lst [.int 2]) := s7 _ _ upd_same (bag_ne (b5.same t1) hM).symm
    have k7 : ∀ u ∈ us, Kt H7 u := fun u hu => ((ku u hu).same s35).onB s57 b5
    obtain ⟨ts, ets⟩ : ∃ ts : List V, ts = [.int 0, .int 1, .int 999, .int 1000, .bl true, .bl false, .non, .str "1", .ref T, .ref M, .int (e - 1001)] := ⟨_, rfl⟩
    rw [← ets]
    have lts : ts.length = 11 := by rw [ets]; rfl
    have kts : ∀ u ∈ ts, Known K H7 u := fun u hu => by
      rw [ets] at hu
      simp only [List.mem_cons, List.not_mem_nil, or_false] at hu
      rcases hu with z | z | z | z | z | z | z | z | z | z | z <;> rw [z]
      case inr.inr.inr.inr.inr.inr.inr.inr.inl => exact .inl ⟨_, hT7⟩
      case inr.inr.inr.inr.inr.inr.inr.inr.inr.inl => exact .inr ⟨_, hM7⟩
      all_goals trivial
    clear ets
    have w1 : Same H7 (upd H7 W (.lst ts)) := Same.new hW
    refine ⟨_, rfl, _, rfl, W, Z1, _, _, rfl, rfl, upd_same, w1 _ _ hZ7, line_of (by omega), fun A nA => ?_⟩
    have w2 : Same (upd H7 W (.lst ts)) (upd (upd H7 W (.lst ts)) A (.lst (ts ++ us))) := Same.new nA
    have w12 := w1.trans w2
    have hA : (upd (upd H7 W (.lst ts)) A (.lst (ts ++ us))) A = some (.lst (ts ++ us)) := upd_same
    obtain ⟨H8, eH8⟩ : ∃ H8, H8 = upd (upd H7 W (.lst ts)) A (.lst (ts ++ us)) := ⟨_, rfl⟩
    rw [← eH8] at w12 hA ⊢
    refine ⟨A, rfl, ⟨_, SqL.of hA⟩, for_list (K := K) (a := A) (xs := ts ++ us) (fun i σ H9 => ∃ v4, σ = [some (.ref b), some (.ref Z1), v2, some (.ref W), v4, none, none] ∧ Same H8 H9) ⟨_, rfl, Same.refl _⟩ (fun i σ H9 _ ⟨_, _, s9⟩ => SqL.of (s9 _ _ hA)) ?_ ?_⟩
    · rintro i y σ H9 hy ⟨v4, rfl, s9⟩
      have hk : Known K H9 y := by
        rcases List.mem_append.mp (List.mem_of_getElem? hy) with z | z
        · exact (kts y z).same (w12.trans s9)
        · exact ((k7 y z).same (w12.trans s9)).known
      exact ⟨rfl, _, rfl, _, rfl, hk, _, rfl, _, rfl, hk, _, rfl, rfl, _, rfl, iteF ⟨_, rfl, s9⟩⟩
    rintro σ H9 ⟨v4, rfl, s89⟩
    have s79 := w12.trans s89
    have hZ9 := s79 _ _ hZ7
    have b9 := b7.same s79
    have k9 : ∀ u ∈ us, Kt H9 u := fun u hu => (k7 u hu).same s79
    refine ⟨_, rfl, Z1, rfl, ⟨_, SqL.of hZ9⟩, fun D hD => lc_list (K := K) (a := Z1) (xs := us) (fun i H10 => Same H9 H10 ∧ ∃ ns : List Int, H10 D = some (.lst (ns.map V.int)) ∧ ns.length = i ∧ SzOk ns) ⟨Same.new hD, [], upd_same, rfl, fun c hc => by cases hc⟩ (fun i H10 _ z => SqL.of (z.1 _ _ hZ9)) ?_ ?_⟩
    · rintro i y H10 hy ⟨s10, ns, hd, ln, z⟩
      have il := (List.getElem?_eq_some_iff.mp hy).1
      have hk : Known K H10 y := ((k9 y (List.mem_of_getElem? hy)).same s10).known
      have fin : ∀ c : Int, 1 ≤ c → c ≤ 999 → (Same H9 (upd H10 D (.lst (ns.map V.int ++ [V.int c]))) ∧ ∃ ms : List Int, (upd H10 D (.lst (ns.map V.int ++ [V.int c]))) D = some (.lst (ms.map V.int)) ∧ ms.length = i + 1 ∧ SzOk ms) := fun c c1 c2 => by
        refine ⟨Same.newer s10 hD, ns ++ [c], ?_, by rw [List.length_append, ln]; rfl, fun x hx => ?_⟩
        · rw [upd_same, List.map_append]; rfl
        · rcases List.mem_append.mp hx with m | m
          · exact z x m
          · rw [List.mem_singleton.mp m]; exact ⟨c1, c2⟩
      have hll : (ns.map V.int).length < sizeLine := by rw [List.length_map]; exact line_lt (by omega)
      refine ⟨rfl, yes ⟨_, rfl, _, rfl, hk, _, rfl, ?_⟩⟩
      cases eb : btw y 1 999 with
      | true =>
        obtain ⟨c, rfl, c1, c2⟩ : ∃ c : Int, y = .int c ∧ 1 ≤ c ∧ c ≤ 999 := by
          cases y with
          | int c =>
            simp only [btw, Bool.and_eq_true, decide_eq_true_eq] at eb
            exact ⟨c, rfl, eb.1, eb.2⟩
          | _ => cases eb
        exact iteT ⟨_, rfl, _, hd, hll, fin c c1 c2⟩
      | false => exact iteF ⟨_, hd, hll, fin 3 (by decide) (by decide)⟩
    rintro H10 ⟨s10, ns, hd, ln, z⟩
    have b10 := b9.same s10
    have hml : (ns.map V.int).length = ns.length := List.length_map _
    refine ⟨_, rfl, _, rfl, _, rfl, D, _, rfl, .inl (SqL.of hd), ?_⟩
    rw [hml]
    obtain ⟨cm, ec, cb⟩ : ∃ cm : Nat, (if (ns.length : Int) > 1 then (ns.length : Int) else 1) = (cm : Int) ∧ ((1 ≤ ns.length ∧ cm = ns.length) ∨ (ns.length = 0 ∧ cm = 1)) := by
      by_cases h : (ns.length : Int) > 1
      · rw [if_pos h]
        exact ⟨ns.length, rfl, .inl ⟨by omega, rfl⟩⟩
      · rw [if_neg h]
        exact ⟨1, rfl, by omega⟩
    refine ⟨_, _, rfl, b, (cm : Int), congrArg (fun z => [V.ref b, V.int z]) ec, b10, by omega, by omega, fun p H11 p0 p1 s11 b11 => ?_⟩
    obtain ⟨j, rfl⟩ : ∃ j : Nat, p = (j : Int) := ⟨p.toNat, by omega⟩
    have s0b : SameB b H H11 := s07.trans ((SameB.of (s79.trans s10)).trans s11)
    have bD := bag_ne b9 hD
    exact ⟨D, ns, j, rfl, s11 _ _ hd bD.symm, z, by omega, by omega, fun H12 s12 => q _ (s0b.trans (.of s12)) (b11.same s12)⟩
end
end WC

set_option maxHeartbeats 8000000
namespace WC
open PySem PySem.Spec PyProof.Rows L2 L2H
section
variable {P : Program} {w : World} {K : PySem.W.Frag} {mg : Str → Option Value} {base : Heap}
theorem ok_large {f : Addr} {fd : FuncData} (F : Fun K "_law_large" "_law_large" s_law_large f fd) (B : Blt mg) (g_law_draw : DefR P w K mg base "_law_draw" 1 spDraw) (g_law_mended : DefR P w K mg base "_law_mended" 10 (spAns K)) : FnOk P w K mg base (L2.CX P w) 11 f fd ["bag"] spRnd := by
  refine F.okX sc_law_large (fun vs H Q E h => ?_) (fun cdv A outer s H vs Q E hr h => ?_)
  · obtain ⟨b, rfl, _⟩ := h
    rfl
  · obtain ⟨b, rfl, hb, q⟩ := h
    -- slots: 0 bag, 1 first*, 2 step*, 3 sizes, 4 k, 5 count
    refine ⟨_, (pss_cons (ps_set (i := 1) sc_law_large.nd rfl (Or.inr rfl) (pe_cd g_law_draw hr psE (pa_cons (pv 0) (pa_cons pe_int pa_nil))))
      (pss_cons (ps_set (i := 2) sc_law_large.nd rfl (Or.inr rfl) (pe_cd g_law_draw hr psE (pa_cons (pv 0) (pa_cons pe_int pa_nil))))
      (pss_cons (ps_setLc (i := 3) (own := [("k", 4)]) rfl sc_law_large.nd rfl rfl (sw_true rfl rfl rfl (by decide +kernel)) (pi_range1 (by rfl) B.range (pa_cons pe_int pa_nil)) (blkOk_by (N := nn_law_large) (sc := defScope s_law_large) (own := [("k", 4)]) (by decide +kernel)) (fun _ _ _ _ _ => (pg_name (i := 4) sc_law_large.nd rfl (Or.inl rfl))) (fun _ _ _ _ _ => pts_nil) (fun _ _ _ _ _ => (pe_op op_add pe_int (pe_op op_modN (pe_callTy (T := "int") call_int1 (by rfl) B.int bt_int (pa_cons (pe_op op_add (pv 1) (pe_op op_mul (pv 4) (pv 2))) pa_nil)) pe_int))))
      (pss_cons (ps_if (pt_cmpR op_gt (pe_cd g_law_draw hr psE (pa_cons (pv 0) (pa_cons pe_int pa_nil))) pe_int (nomark _)) (pss_one (ps_asg (pe_ix ix_list (pe_lst (pa_cons pe_int (pa_cons pe_int (pa_cons pe_bl (pa_cons pe_non pa_nil))))) (pe_cd g_law_draw hr psE (pa_cons (pv 0) (pa_cons pe_int pa_nil))) (fun _ _ => rfl)) (pg_sub (pv 3) (pe_cd g_law_draw hr psE (pa_cons (pv 0) (pa_cons pe_int pa_nil))) set_list))) pss_nil)
      (pss_cons (ps_for (passes_of rfl) rfl (pi_list (pe_lst (pa_cons pe_int (pa_cons pe_int pa_nil)))) (pg_name (i := 5) sc_law_large.nd rfl (Or.inl rfl))
        (pss_one (ps_if (PW.pt (pw_or (pt_not (pt_val (pe_cd g_law_mended hr psE (pa_cons (pe_slice sl_list (pv 3) po_none (po_some (pv 5))) (pa_cons pe_bl pa_nil))))) (pw_or1 (pt_not (pt_val (pe_cd g_law_mended hr psE (pa_cons (pe_slice sl_list (pv 3) (po_some (pe_op op_sub pe_int (pv 5))) po_none) (pa_cons pe_bl pa_nil)))))))) (pss_one (ps_ret pe_bl)) pss_nil)))
      (pss_one (ps_ret (pe_and (pe_cd g_law_mended hr psE (pa_cons (pe_slice sl_list (pv 3) po_none (po_some pe_int)) (pa_cons pe_bl pa_nil))) (pe_one (pe_cd g_law_mended hr psE (pa_cons (pe_slice sl_list (pv 3) po_none (po_some pe_int)) (pa_cons pe_bl pa_nil)))))))))))), ?_⟩
    refine ⟨_, rfl, b, 999, rfl, hb, by decide, by decide, fun x H1 x0 x1 s1 b1 => ?_⟩
    refine ⟨_, rfl, b, 999, rfl, b1, by decide, by decide, fun y H2 y0 y1 s2 b2 => ?_⟩
    have s02 := s1.trans s2
    refine ⟨41, rfl, by decide, by decide, fun Z hZ => lc_range (lo := 0) (n := 41) (fun i H3 => ∃ zs : List Int, Same H2 H3 ∧ H3 Z = some (.lst (zs.map V.int)) ∧ zs.length = i) ⟨[], Same.new hZ, upd_same, rfl⟩ ?_ ?_⟩
    · rintro i H3 hi ⟨zs, s3, z3, l3⟩
      refine ⟨rfl, yes ⟨_, rfl, _, rfl, _, rfl, _, _, rfl, rfl, mul_okl (by omega), _, _, rfl, rfl, .inl ⟨_, rfl, _, _, rfl, rfl, (by show (_ : Int) ≠ 0; decide), _, _, rfl, rfl, _, z3, by rw [List.length_map, l3]; exact line_lt (by omega), zs ++ [1 + Int.fmod (x + (0 + (i : Int)) * y) 999], Same.newer s3 hZ, ?_, by rw [List.length_append, l3]; rfl⟩⟩⟩
      rw [upd_same, List.map_append]
      rfl
    rintro H3 ⟨zs, s3, z3, l3⟩
    have s03 : SameB b H H3 := s02.trans (.of s3)
    have b3 := b2.same s3
    have bZ := bag_ne b2 hZ
    dsimp only [gName]
    refine seq_mid (fun σ H5 => σ = [some (.ref b), some (.int x), some (.int y), some (.ref Z), none, none] ∧ SameB b H H5 ∧ BagAt H5 b ∧ ∃ us, H5 Z = some (.lst us) ∧ us.length = 41 ∧ ∀ u ∈ us, plainV u = true) (fun N hN => ?_) ?_
    · have hps : ∀ u ∈ zs.map V.int, plainV u = true := fun u hu => by
        obtain ⟨i, _, rfl⟩ := List.mem_map.mp hu
        rfl
      refine ⟨_, rfl, b, 3, rfl, b3, by decide, by decide, fun e H4 e0 e1 s4 b4 => ⟨_, _, rfl, rfl, _, rfl, ite2 (fun _ => ?_) (fun _ => ?_)⟩⟩
      · refine ⟨by show 4 ≤ sizeLine; decide, fun P2 hP2 => ?_⟩
        have b4' := b4.same (Same.new hP2 (o := .lst [.int 0, .int 1000, .bl true, .non]))
        refine ⟨_, rfl, b, 4, rfl, b4', by decide, by decide, fun e2 H5 e20 e21 s5 b5 => ?_⟩
        have hP5 := s5 _ _ (upd_same (H := H4) (a := P2) (o := .lst [.int 0, .int 1000, .bl true, .non])) (bag_ne b4 hP2).symm
        obtain ⟨v, hv, kv⟩ : ∃ v, atI [V.int 0, .int 1000, .bl true, .non] e2 = some v ∧ plainV v = true := by
          rcases (by omega : e2 = 0 ∨ e2 = 1 ∨ e2 = 2 ∨ e2 = 3) with z | z | z | z <;> subst z
          · exact ⟨_, atI_nat (j := 0) rfl, rfl⟩
          · exact ⟨_, atI_nat (j := 1) rfl, rfl⟩
          · exact ⟨_, atI_nat (j := 2) rfl, rfl⟩
          · exact ⟨_, atI_nat (j := 3) rfl, rfl⟩
        refine ⟨P2, _, _, _, rfl, rfl, SqL.of hP5, hv, ?_⟩
        refine ⟨_, rfl, _, rfl, b, 41, rfl, b5, by decide, by decide, fun k H6 k0 k1 s6 b6 => ?_⟩
        obtain ⟨j, rfl⟩ : ∃ j : Nat, k = (j : Int) := ⟨k.toNat, by omega⟩
        have s36 : SameB b H3 H6 := s4.trans ((SameB.of (Same.new hP2)).trans (s5.trans s6))
        have hZ6 := s36 _ _ z3 bZ.symm
        refine ⟨Z, _, _, j, rfl, rfl, hZ6, ixn (by rw [List.length_map]; omega), hN _ _ ⟨rfl, (s02.trans ((SameB.of s3).trans s36)).put (s02.free b2 hZ), ?_, _, upd_same, by rw [List.length_set, List.length_map, l3], fun u hu => ?_⟩⟩
        · obtain ⟨bx, bf, eb⟩ := b6
          exact ⟨bx, bf, by rw [upd_ne bZ]; exact eb⟩
        · rcases List.mem_or_eq_of_mem_set hu with z | z
          · exact hps u z
          · rw [z]; exact kv
      · exact hN _ _ ⟨rfl, s03.trans s4, b4, _, s4 _ _ z3 bZ.symm, by rw [List.length_map, l3], hps⟩
    rintro σ H5 ⟨rfl, s05, b5, us, hZ5, ul, pu⟩
    have kn : ∀ {H' : Hp} {c : Nat}, ∀ u ∈ us.take c, Known K H' u := fun u hu => known_plain (pu u (List.mem_of_mem_take hu))
    have kd : ∀ {H' : Hp} {c : Nat}, ∀ u ∈ us.drop c, Known K H' u := fun u hu => known_plain (pu u (List.mem_of_mem_drop hu))
    refine ⟨by show 2 ≤ sizeLine; decide, fun W hW => ?_⟩
    have t1 : Same H5 (upd H5 W (.lst [.int 40, .int 41])) := Same.new hW
    have hW6 : (upd H5 W (.lst [.int 40, .int 41])) W = some (.lst [.int 40, .int 41]) := upd_same
    obtain ⟨H6, eH6⟩ : ∃ H6, H6 = upd H5 W (.lst [.int 40, .int 41]) := ⟨_, rfl⟩
    rw [← eH6] at t1 hW6 ⊢
    have hZ6 := t1 _ _ hZ5
    refine ⟨W, rfl, ⟨_, SqL.of hW6⟩, for_list (K := K) (a := W) (xs := [.int 40, .int 41]) (fun i σ H7 => ∃ v5, σ = [some (.ref b), some (.int x), some (.int y), some (.ref Z), none, v5] ∧ Same H6 H7) ⟨_, rfl, Same.refl _⟩ (fun i σ H7 _ ⟨_, _, s7⟩ => SqL.of (s7 _ _ hW6)) ?_ ?_⟩
    · rintro i cv σ H7 hy ⟨v5, rfl, s7⟩
      obtain ⟨c, rfl, hc⟩ : ∃ c : Nat, cv = .int (c : Int) ∧ (c = 40 ∨ c = 41) := by
        have hm := List.mem_of_getElem? hy
        simp only [List.mem_cons, List.not_mem_nil, or_false] at hm
        rcases hm with e | e
        · exact ⟨40, e, .inl rfl⟩
        · exact ⟨41, e, .inr rfl⟩
      have hZ7 := s7 _ _ hZ6
      refine ⟨_, rfl, _, rfl, _, rfl, Z, us, rfl, SqL.of hZ7, fun A1 nA1 => ?_⟩
      rw [cut_take (by omega)]
      have u1 : Same H7 (upd H7 A1 (.lst (us.take c))) := Same.new nA1
      refine ⟨A1, us.take c, true, rfl, upd_same, kn, .inr (.inl ⟨rfl, by rw [List.length_take]; omega⟩), fun H8 s8 => ⟨_, rfl, iteF ?_⟩⟩
      have s78 := u1.trans s8
      refine ⟨_, rfl, _, rfl, _, _, rfl, rfl, _, rfl, Z, us, rfl, SqL.of (s78 _ _ hZ7), fun A2 nA2 => ?_⟩
      have ec : (41 : Int) - (c : Int) = ((41 - c : Nat) : Int) := by omega
      rw [ec, cut_from (by omega)]
      have u2 : Same H8 (upd H8 A2 (.lst (us.drop (41 - c)))) := Same.new nA2
      exact ⟨A2, us.drop (41 - c), true, rfl, upd_same, kd, .inr (.inl ⟨rfl, by rw [List.length_drop]; omega⟩), fun H9 s9 => ⟨_, rfl, iteF ⟨_, rfl, s7.trans (s78.trans (u2.trans s9))⟩⟩⟩
    rintro σ H7 ⟨v5, rfl, s67⟩
    have hZ7 := s67 _ _ hZ6
    have e39 : cutV us none (some (39 : Int)) = us.take 39 := cut_take (s := 39) (by omega)
    have e40 : cutV us none (some (40 : Int)) = us.take 40 := cut_take (s := 40) (by omega)
    refine ⟨_, rfl, _, rfl, Z, us, rfl, SqL.of hZ7, fun A1 nA1 => ?_⟩
    rw [e39]
    have u1 : Same H7 (upd H7 A1 (.lst (us.take 39))) := Same.new nA1
    refine ⟨A1, us.take 39, false, rfl, upd_same, kn, .inr (.inr ⟨rfl, by rw [List.length_take]; omega⟩), fun H8 s8 => ⟨_, rfl, iteT ?_⟩⟩
    have s78 := u1.trans s8
    refine ⟨_, rfl, _, rfl, Z, us, rfl, SqL.of (s78 _ _ hZ7), fun A2 nA2 => ?_⟩
    rw [e40]
    have u2 : Same H8 (upd H8 A2 (.lst (us.take 40))) := Same.new nA2
    refine ⟨A2, us.take 40, false, rfl, upd_same, kn, .inr (.inr ⟨rfl, by rw [List.length_take]; omega⟩), fun H9 s9 => ?_⟩
    have s59 : Same H5 H9 := t1.trans (s67.trans (s78.trans (u2.trans s9)))
    exact q _ (s05.trans (.of s59)) (b5.same s59)
theorem ok_law {f N : Addr} {fd : FuncData} (F : Fun K "law" "law" s_law f fd) (B : Blt mg) (Z : NetK K mg N) (g_law_same_row : DefR P w K mg base "_law_same_row" 2 (spSR K)) (g_law_bag : DefR P w K mg base "_law_bag" 2 (spBag K)) (g_law_draw : DefR P w K mg base "_law_draw" 1 spDraw) (g_law_large : DefR P w K mg base "_law_large" 11 spRnd) (g_law_small : DefR P w K mg base "_law_small" 11 spRnd) : FnOk P w K mg base (L2.CX P w) 12 f fd ["script"] (spLaw K) := by
  refine F.okX sc_law (fun vs H Q E h => ?_) (fun cdv A outer s H vs Q E hr h => ?_)
  · obtain ⟨a, ns, rfl, _⟩ := h
    rfl
  · obtain ⟨a, ns, rfl, ha, hlen, q⟩ := h
    obtain ⟨mc, cr, ⟨u1, c1⟩, ⟨u2, c2⟩, ⟨u3, c3⟩, ⟨u4, c4⟩⟩ := Z.cr
    -- slots: 0 script, 1 most, 2 k, 3 bag, 4 good
    refine ⟨_, (pss_cons (ps_set (i := 1) sc_law.nd rfl (Or.inl rfl) (pe_tup (pa_cons (ClX.pe_cval (pe_glob (v := .ref N) (by rfl) Z.gN rfl)) (pa_cons (ClX.pe_cval (pe_glob (v := .ref N) (by rfl) Z.gN rfl)) (pa_cons (ClX.pe_cval (pe_glob (v := .ref N) (by rfl) Z.gN rfl)) (pa_cons (ClX.pe_cval (pe_glob (v := .ref N) (by rfl) Z.gN rfl)) pa_nil))))))
      (pss_cons (ps_if (pt_not (pt_val (pe_cd g_law_same_row hr psE (pa_cons (pv 1) (pa_cons (pe_tup (pa_cons pe_int (pa_cons pe_int (pa_cons pe_int (pa_cons pe_int pa_nil))))) pa_nil))))) (pss_one (ps_ret pe_bl)) pss_nil)
      (pss_cons (ps_for (passes_of rfl) rfl (pi_range1 (by rfl) B.range (pa_cons (pe_callB (call_max2 rfl) (by rfl) B.max boot_max (pa_cons pe_int (pa_cons (pe_callB (call_min2 rfl) (by rfl) B.min boot_min (pa_cons (pe_callB call_len_seq (by rfl) B.len bt_len (pa_cons (pv 0) pa_nil)) (pa_cons pe_int pa_nil))) pa_nil))) pa_nil)) (pg_name (i := 2) sc_law.nd rfl (Or.inl rfl))
        (pss_cons (ps_set (i := 3) sc_law.nd rfl (Or.inl rfl) (pe_cd g_law_bag hr psE (pa_cons (pv 0) (pa_cons (pv 2) pa_nil))))
      (pss_cons (ps_if (pt_cmpR op_eq (pe_cd g_law_draw hr psE (pa_cons (pv 3) (pa_cons pe_int pa_nil))) pe_int (nomark _)) (pss_one (ps_set (i := 4) sc_law.nd rfl (Or.inl rfl) (pe_cd g_law_large hr psE (pa_cons (pv 3) pa_nil)))) (pss_one (ps_set (i := 4) sc_law.nd rfl (Or.inl rfl) (pe_cd g_law_small hr psE (pa_cons (pv 3) pa_nil)))))
      (pss_one (ps_if (pt_not (pt_val (pv 4))) (pss_one (ps_ret pe_bl)) pss_nil)))))
      (pss_one (ps_ret pe_bl))))), ?_⟩
    have key : ∀ l : Nat, ∃ cnt : Nat, (if (if (3 : Int) < (l : Int) then (3 : Int) else (l : Int)) > 1 then (if (3 : Int) < (l : Int) then (3 : Int) else (l : Int)) else 1) = (cnt : Int) ∧ cnt ≤ 3 := fun l => by
      by_cases h : (3 : Int) < l
      · rw [if_pos h, if_pos (by decide)]
        exact ⟨3, rfl, by decide⟩
      · rw [if_neg h]
        by_cases h2 : (l : Int) > 1
        · rw [if_pos h2]
          exact ⟨l, rfl, by omega⟩
        · rw [if_neg h2]
          exact ⟨1, rfl, by omega⟩
    obtain ⟨cnt, ec, lc⟩ := key ns.length
    refine ⟨N, mc, _, u1, rfl, cr, c1, N, mc, _, u2, rfl, cr, c2, N, mc, _, u3, rfl, cr, c3, N, mc, _, u4, rfl, cr, c4, by show 4 ≤ sizeLine; decide, fun T hT => ?_⟩
    have t1 : Same H (upd H T (.tup [.int 40, .int 120, .int 999, .int 999])) := Same.new hT
    refine ⟨_, rfl, by show 4 ≤ sizeLine; decide, fun T2 hT2 => ?_⟩
    have t2 : Same (upd H T (.tup [.int 40, .int 120, .int 999, .int 999])) (upd (upd H T (.tup [.int 40, .int 120, .int 999, .int 999])) T2 (.tup [.int 40, .int 120, .int 999, .int 999])) := Same.new hT2
    refine ⟨T, T2, true, _, rfl, t2 _ _ upd_same, SqT.of upd_same, by show 4 ≤ 1000; decide, fun u hu => ?_, fun H1 s1 => ⟨_, rfl, iteF ?_⟩⟩
    · simp only [List.mem_cons, List.not_mem_nil, or_false] at hu
      rcases hu with e | e | e | e <;> rw [e] <;> rfl
    have s01 := t1.trans (t2.trans s1)
    refine ⟨_, rfl, a, _, rfl, .inl (s01.seq ha), ?_⟩
    rw [List.length_map]
    refine ⟨_, _, rfl, _, _, rfl, (cnt : Int), congrArg (fun z => [V.int z]) ec, by omega, by omega, for_range (lo := 0) (n := cnt) (fun i σ H2 => ∃ v2 v3 v4, σ = [some (.ref a), some (.ref T), v2, v3, v4] ∧ Same H1 H2) ⟨_, _, _, rfl, Same.refl H1⟩ ?_ ?_⟩
    · rintro i σ H2 hi ⟨v2, v3, v4, rfl, s2⟩
      refine ⟨_, rfl, _, rfl, a, ns, i, by rw [Int.zero_add], (s01.trans s2).seq ha, fun b H3 s3 nb b3 => ?_⟩
      refine ⟨_, rfl, b, 8, rfl, b3, by decide, by decide, fun d H4 d0 d1 s4 b4 => ⟨rfl, _, rfl, ite2 (fun _ => ?_) (fun _ => ?_)⟩⟩
      · exact ⟨_, rfl, b, rfl, b4, fun H5 s5 b5 => ⟨_, rfl, _, rfl, iteF ⟨_, _, _, rfl, s2.trans (same_of_new s3 nb (s4.trans s5))⟩⟩⟩
      · exact ⟨_, rfl, b, rfl, b4, fun H5 s5 b5 => ⟨_, rfl, _, rfl, iteF ⟨_, _, _, rfl, s2.trans (same_of_new s3 nb (s4.trans s5))⟩⟩⟩
    · rintro σ H2 ⟨_, _, _, rfl, s2⟩
      exact q H2
end
end WC

set_option maxHeartbeats 16000000
namespace WC
open PySem PySem.Spec PyProof.Rows L2
theorem raw0 {P : Program} {w : World} {K : PySem.W.Frag} {mg : Str → Option Value} {base : Heap} {CX : CXT} {k : Nat} {f : Addr} {fd : FuncData} {ps : List Str} {sp : Sp} (F : FnOk P w K mg base CX k f fd ps sp) (hb : Binds K fd ps []) : FnR P w K mg base CX k f sp :=
  (F.raw hb .nil).imp fun vs H Q E h => by
    rw [List.append_nil]
    exact h
abbrev PK : Program := PySem.Challenge.pw_withincall_k01_rings_and_kinds
theorem all_k01 {w : World} {K : PySem.W.Frag} {h : Heap} {mg : Str → Option Value} {fa : Addr} (X : K.In h) (G : h.Ns mainGlobals mg) (hfa : mg "law" = some (.ref fa))
    {fbtw : Addr}
    {ocbtw kVbtw dcbtw pmbtw cdbtw ctbtw : Value} {odbtw anbtw : Option Addr} {slbtw : Array (Option Value)}
    {fnat : Addr}
    {ocnat kVnat dcnat pmnat cdnat ctnat : Value} {odnat annat : Option Addr} {slnat : Array (Option Value)}
    {fjoi : Addr}
    {ocjoi kVjoi dcjoi pmjoi cdjoi ctjoi : Value} {odjoi anjoi : Option Addr} {sljoi : Array (Option Value)}
    {fcir : Addr}
    {occir kVcir dccir pmcir cdcir ctcir : Value} {odcir ancir : Option Addr} {slcir : Array (Option Value)}
    {fcch : Addr}
    {occch kVcch dccch pmcch cdcch ctcch : Value} {odcch ancch : Option Addr} {slcch : Array (Option Value)}
    {fwic : Addr}
    {ocwic kVwic dcwic pmwic cdwic ctwic : Value} {odwic anwic : Option Addr} {slwic : Array (Option Value)}
    {fcel : Addr}
    {occel kVcel dccel pmcel cdcel ctcel : Value} {odcel ancel : Option Addr} {slcel : Array (Option Value)}
    {fbag : Addr}
    {ocbag kVbag dcbag pmbag cdbag ctbag : Value} {odbag anbag : Option Addr} {slbag : Array (Option Value)}
    {fdra : Addr}
    {ocdra kVdra dcdra pmdra cddra ctdra : Value} {oddra andra : Option Addr} {sldra : Array (Option Value)}
    {fsam : Addr}
    {ocsam kVsam dcsam pmsam cdsam ctsam : Value} {odsam ansam : Option Addr} {slsam : Array (Option Value)}
    {fsar : Addr}
    {ocsar kVsar dcsar pmsar cdsar ctsar : Value} {odsar ansar : Option Addr} {slsar : Array (Option Value)}
    {fsrs : Addr}
    {ocsrs kVsrs dcsrs pmsrs cdsrs ctsrs : Value} {odsrs ansrs : Option Addr} {slsrs : Array (Option Value)}
    {flic : Addr}
    {oclic kVlic dclic pmlic cdlic ctlic : Value} {odlic anlic : Option Addr} {sllic : Array (Option Value)}
    {ffau : Addr}
    {ocfau kVfau dcfau pmfau cdfau ctfau : Value} {odfau anfau : Option Addr} {slfau : Array (Option Value)}
    {fg40 : Addr}
    {ocg40 kVg40 dcg40 pmg40 cdg40 ctg40 : Value} {odg40 ang40 : Option Addr} {slg40 : Array (Option Value)}
    {fg41 : Addr}
    {ocg41 kVg41 dcg41 pmg41 cdg41 ctg41 : Value} {odg41 ang41 : Option Addr} {slg41 : Array (Option Value)}
    {fw39 : Addr}
    {ocw39 kVw39 dcw39 pmw39 cdw39 ctw39 : Value} {odw39 anw39 : Option Addr} {slw39 : Array (Option Value)}
    {fw40 : Addr}
    {ocw40 kVw40 dcw40 pmw40 cdw40 ctw40 : Value} {odw40 anw40 : Option Addr} {slw40 : Array (Option Value)}
    {flri : Addr}
    {oclri kVlri dclri pmlri cdlri ctlri : Value} {odlri anlri : Option Addr} {sllri : Array (Option Value)}
    {flro : Addr}
    {oclro kVlro dclro pmlro cdlro ctlro : Value} {odlro anlro : Option Addr} {sllro : Array (Option Value)}
    {flin : Addr}
    {oclin kVlin dclin pmlin cdlin ctlin : Value} {odlin anlin : Option Addr} {sllin : Array (Option Value)}
    {fgoo : Addr}
    {ocgoo kVgoo dcgoo pmgoo cdgoo ctgoo : Value} {odgoo angoo : Option Addr} {slgoo : Array (Option Value)}
    {fans : Addr}
    {ocans kVans dcans pmans cdans ctans : Value} {odans anans : Option Addr} {slans : Array (Option Value)}
    {fmen : Addr}
    {ocmen kVmen dcmen pmmen cdmen ctmen : Value} {odmen anmen : Option Addr} {slmen : Array (Option Value)}
    {fpip : Addr}
    {ocpip kVpip dcpip pmpip cdpip ctpip : Value} {odpip anpip : Option Addr} {slpip : Array (Option Value)}
    {fequ : Addr}
    {ocequ kVequ dcequ pmequ cdequ ctequ : Value} {odequ anequ : Option Addr} {slequ : Array (Option Value)}
    {fcom : Addr}
    {occom kVcom dccom pmcom cdcom ctcom : Value} {odcom ancom : Option Addr} {slcom : Array (Option Value)}
    {fsiz : Addr}
    {ocsiz kVsiz dcsiz pmsiz cdsiz ctsiz : Value} {odsiz ansiz : Option Addr} {slsiz : Array (Option Value)}
    {flar : Addr}
    {oclar kVlar dclar pmlar cdlar ctlar : Value} {odlar anlar : Option Addr} {sllar : Array (Option Value)}
    {fsma : Addr}
    {ocsma kVsma dcsma pmsma cdsma ctsma : Value} {odsma ansma : Option Addr} {slsma : Array (Option Value)}
    {flaw : Addr}
    {oclaw kVlaw dclaw pmlaw cdlaw ctlaw : Value} {odlaw anlaw : Option Addr} {sllaw : Array (Option Value)}
    {CI fxI NNI : Addr} {nmI qnI : Str} {bsI bmI subI : List Value} {snI : List Str} {abI : Bool} {coI : Option Bool} {ddI : Option Addr} {m0I m1I m2I m3I m5I : Option Value}
    {ocxI kVxI dcxI pmxI cdxI ctxI : Value} {odxI anxI : Option Addr} {slxI : Array (Option Value)}
    {CW : Addr}
    {CN : Addr}
    {N pIC gIC : Addr} {restIC : List Value} {t1 t2 t3 t4 : Tok}
    {ocIC kVIC dcIC pmIC cdIC ctIC : Value} {odIC anIC : Option Addr} {slIC : Array (Option Value)}
    {fNI : Addr}
    {CP iniP ccP cdaP : Addr}
    {Dk : Addr} {tD : Tok}
    {oSP dSP pSP tSP kc_P o1P : Value} {qSP nSP_ dc_P o2P : Option Addr} {sSP lc_P o3P : Array (Option Value)} {vsP : Array Value} {fileP : Str} {tkP : Tok}
    {CR iniR ccR cdaR : Addr}
    {kVRing : Value} {tL : Tok}
    {oSR dSR pSR tSR kc_R o1R : Value} {qSR nSR_ dc_R o2R : Option Addr} {sSR lc_R o3R : Array (Option Value)} {vsR : Array Value} {fileR : Str} {tkR : Tok}
    {ocNI kVNI dcNI pmNI cdNI ctNI : Value} {odNI anNI : Option Addr} {slNI : Array (Option Value)}
    {pRow gRow : Addr} {restRow : List Value}
    {ocRow kVRow dcRow pmRow cdRow ctRow : Value} {odRow anRow : Option Addr} {slRow : Array (Option Value)}
    {pslots gslots : Addr} {restslots : List Value}
    {ocslots kVslots dcslots pmslots cdslots ctslots : Value} {odslots anslots : Option Addr} {slslots : Array (Option Value)}
    {qeq : Addr}
    {oceq kVeq dceq pmeq cdeq cteq : Value} {odeq aneq : Option Addr} {sleq : Array (Option Value)}
    {qsum : Addr}
    {ocMsum kVMsum dcMsum pmMsum cdMsum ctMsum : Value} {odMsum anMsum : Option Addr} {slMsum : Array (Option Value)}
    {qisrP : Addr}
    {ocMisrP kVMisrP dcMisrP pmMisrP cdMisrP ctMisrP : Value} {odMisrP anMisrP : Option Addr} {slMisrP : Array (Option Value)}
    {qsumP ccsumP cdasumP : Addr} {kVsumP oSsumP dSsumP pSsumP tSsumP kc_sumP o1sumP : Value} {qSsumP nSsumP_ dc_sumP o2sumP : Option Addr} {sSsumP lc_sumP o3sumP : Array (Option Value)} {vssumP : Array Value} {filesumP : Str} {tksumP : Tok}
    {qisrR : Addr}
    {ocMisrR kVMisrR dcMisrR pmMisrR cdMisrR ctMisrR : Value} {odMisrR anMisrR : Option Addr} {slMisrR : Array (Option Value)}
    {qsumR ccsumR cdasumR : Addr} {kVsumR oSsumR dSsumR pSsumR tSsumR kc_sumR o1sumR : Value} {qSsumR nSsumR_ dc_sumR o2sumR : Option Addr} {sSsumR lc_sumR o3sumR : Array (Option Value)} {vssumR : Array Value} {filesumR : Str} {tksumR : Tok}
    (z_isi : PySem.W.nsIn K mainGlobals "isinstance" = some none)
    (z_int : PySem.W.nsIn K mainGlobals "int" = some none)
    (z_bool : PySem.W.nsIn K mainGlobals "bool" = some none)
    (z_tuple : PySem.W.nsIn K mainGlobals "tuple" = some none)
    (z_list : PySem.W.nsIn K mainGlobals "list" = some none)
    (z_str : PySem.W.nsIn K mainGlobals "str" = some none)
    (z_len : PySem.W.nsIn K mainGlobals "len" = some none)
    (z_range : PySem.W.nsIn K mainGlobals "range" = some none)
    (z_sorted : PySem.W.nsIn K mainGlobals "sorted" = some none)
    (z_enum : PySem.W.nsIn K mainGlobals "enumerate" = some none)
    (z_sum : PySem.W.nsIn K mainGlobals "sum" = some none)
    (z_all : PySem.W.nsIn K mainGlobals "all" = some none)
    (z_max : PySem.W.nsIn K mainGlobals "max" = some none)
    (z_min : PySem.W.nsIn K mainGlobals "min" = some none)
    (z_verr : PySem.W.nsIn K mainGlobals "ValueError" = some none)
    (z_sup : PySem.W.nsIn K mainGlobals "super" = some none)
    (abtw : PySem.W.nsIn K mainGlobals "is_between" = some (some (.ref fbtw)))
    (lbtw : K.lookup fbtw = some ⟨ocbtw, odbtw, .func (PySem.W.fnOf "is_between" "is_between" (defArgs s_is_between) (defBody s_is_between) (defScope s_is_between) .none kVbtw dcbtw pmbtw anbtw cdbtw ctbtw), slbtw⟩)
    (cbtw : PySem.W.codeIn K cdbtw "is_between" = true)
    (kbtw : PySem.W.keepIn K (.ref fbtw) = true)
    (anat : PySem.W.nsIn K mainGlobals "_numbers_at" = some (some (.ref fnat)))
    (lnat : K.lookup fnat = some ⟨ocnat, odnat, .func (PySem.W.fnOf "_numbers_at" "_numbers_at" (defArgs s_numbers_at) (defBody s_numbers_at) (defScope s_numbers_at) .none kVnat dcnat pmnat annat cdnat ctnat), slnat⟩)
    (cnat : PySem.W.codeIn K cdnat "_numbers_at" = true)
    (knat : PySem.W.keepIn K (.ref fnat) = true)
    (ajoi : PySem.W.nsIn K mainGlobals "_joins_two_stages" = some (some (.ref fjoi)))
    (ljoi : K.lookup fjoi = some ⟨ocjoi, odjoi, .func (PySem.W.fnOf "_joins_two_stages" "_joins_two_stages" (defArgs s_joins_two_stages) (defBody s_joins_two_stages) (defScope s_joins_two_stages) .none kVjoi dcjoi pmjoi anjoi cdjoi ctjoi), sljoi⟩)
    (cjoi : PySem.W.codeIn K cdjoi "_joins_two_stages" = true)
    (kjoi : PySem.W.keepIn K (.ref fjoi) = true)
    (acir : PySem.W.nsIn K mainGlobals "has_circle" = some (some (.ref fcir)))
    (lcir : K.lookup fcir = some ⟨occir, odcir, .func (PySem.W.fnOf "has_circle" "has_circle" (defArgs s_has_circle) (defBody s_has_circle) (defScope s_has_circle) .none kVcir dccir pmcir ancir cdcir ctcir), slcir⟩)
    (ccir : PySem.W.codeIn K cdcir "has_circle" = true)
    (kcir : PySem.W.keepIn K (.ref fcir) = true)
    (acch : PySem.W.nsIn K mainGlobals "_check_channels" = some (some (.ref fcch)))
    (lcch : K.lookup fcch = some ⟨occch, odcch, .func (PySem.W.fnOf "_check_channels" "_check_channels" (defArgs s_check_channels) (defBody s_check_channels) (defScope s_check_channels) .none kVcch dccch pmcch ancch cdcch ctcch), slcch⟩)
    (ccch : PySem.W.codeIn K cdcch "_check_channels" = true)
    (kcch : PySem.W.keepIn K (.ref fcch) = true)
    (awic : PySem.W.nsIn K mainGlobals "_with_capacity" = some (some (.ref fwic)))
    (lwic : K.lookup fwic = some ⟨ocwic, odwic, .func (PySem.W.fnOf "_with_capacity" "_with_capacity" (defArgs s_with_capacity) (defBody s_with_capacity) (defScope s_with_capacity) .none kVwic dcwic pmwic anwic cdwic ctwic), slwic⟩)
    (cwic : PySem.W.codeIn K cdwic "_with_capacity" = true)
    (kwic : PySem.W.keepIn K (.ref fwic) = true)
    (acel : PySem.W.nsIn K mainGlobals "_law_cell" = some (some (.ref fcel)))
    (lcel : K.lookup fcel = some ⟨occel, odcel, .func (PySem.W.fnOf "_law_cell" "_law_cell" (defArgs s_law_cell) (defBody s_law_cell) (defScope s_law_cell) .none kVcel dccel pmcel ancel cdcel ctcel), slcel⟩)
    (ccel : PySem.W.codeIn K cdcel "_law_cell" = true)
    (kcel : PySem.W.keepIn K (.ref fcel) = true)
    (abag : PySem.W.nsIn K mainGlobals "_law_bag" = some (some (.ref fbag)))
    (lbag : K.lookup fbag = some ⟨ocbag, odbag, .func (PySem.W.fnOf "_law_bag" "_law_bag" (defArgs s_law_bag) (defBody s_law_bag) (defScope s_law_bag) .none kVbag dcbag pmbag anbag cdbag ctbag), slbag⟩)
    (cbag : PySem.W.codeIn K cdbag "_law_bag" = true)
    (kbag : PySem.W.keepIn K (.ref fbag) = true)
    (adra : PySem.W.nsIn K mainGlobals "_law_draw" = some (some (.ref fdra)))
    (ldra : K.lookup fdra = some ⟨ocdra, oddra, .func (PySem.W.fnOf "_law_draw" "_law_draw" (defArgs s_law_draw) (defBody s_law_draw) (defScope s_law_draw) .none kVdra dcdra pmdra andra cddra ctdra), sldra⟩)
    (cdra : PySem.W.codeIn K cddra "_law_draw" = true)
    (kdra : PySem.W.keepIn K (.ref fdra) = true)
    (asam : PySem.W.nsIn K mainGlobals "_law_same" = some (some (.ref fsam)))
    (lsam : K.lookup fsam = some ⟨ocsam, odsam, .func (PySem.W.fnOf "_law_same" "_law_same" (defArgs s_law_same) (defBody s_law_same) (defScope s_law_same) .none kVsam dcsam pmsam ansam cdsam ctsam), slsam⟩)
    (csam : PySem.W.codeIn K cdsam "_law_same" = true)
    (ksam : PySem.W.keepIn K (.ref fsam) = true)
    (asar : PySem.W.nsIn K mainGlobals "_law_same_row" = some (some (.ref fsar)))
    (lsar : K.lookup fsar = some ⟨ocsar, odsar, .func (PySem.W.fnOf "_law_same_row" "_law_same_row" (defArgs s_law_same_row) (defBody s_law_same_row) (defScope s_law_same_row) .none kVsar dcsar pmsar ansar cdsar ctsar), slsar⟩)
    (csar : PySem.W.codeIn K cdsar "_law_same_row" = true)
    (ksar : PySem.W.keepIn K (.ref fsar) = true)
    (asrs : PySem.W.nsIn K mainGlobals "_law_same_rows" = some (some (.ref fsrs)))
    (lsrs : K.lookup fsrs = some ⟨ocsrs, odsrs, .func (PySem.W.fnOf "_law_same_rows" "_law_same_rows" (defArgs s_law_same_rows) (defBody s_law_same_rows) (defScope s_law_same_rows) .none kVsrs dcsrs pmsrs ansrs cdsrs ctsrs), slsrs⟩)
    (csrs : PySem.W.codeIn K cdsrs "_law_same_rows" = true)
    (ksrs : PySem.W.keepIn K (.ref fsrs) = true)
    (alic : PySem.W.nsIn K mainGlobals "_law_is_capacity" = some (some (.ref flic)))
    (llic : K.lookup flic = some ⟨oclic, odlic, .func (PySem.W.fnOf "_law_is_capacity" "_law_is_capacity" (defArgs s_law_is_capacity) (defBody s_law_is_capacity) (defScope s_law_is_capacity) .none kVlic dclic pmlic anlic cdlic ctlic), sllic⟩)
    (clic : PySem.W.codeIn K cdlic "_law_is_capacity" = true)
    (klic : PySem.W.keepIn K (.ref flic) = true)
    (afau : PySem.W.nsIn K mainGlobals "_law_fault" = some (some (.ref ffau)))
    (lfau : K.lookup ffau = some ⟨ocfau, odfau, .func (PySem.W.fnOf "_law_fault" "_law_fault" (defArgs s_law_fault) (defBody s_law_fault) (defScope s_law_fault) .none kVfau dcfau pmfau anfau cdfau ctfau), slfau⟩)
    (cfau : PySem.W.codeIn K cdfau "_law_fault" = true)
    (kfau : PySem.W.keepIn K (.ref ffau) = true)
    (ag40 : PySem.W.nsIn K mainGlobals "_law_ring_of_40" = some (some (.ref fg40)))
    (lg40 : K.lookup fg40 = some ⟨ocg40, odg40, .func (PySem.W.fnOf "_law_ring_of_40" "_law_ring_of_40" (defArgs s_law_ring_of_40) (defBody s_law_ring_of_40) (defScope s_law_ring_of_40) .none kVg40 dcg40 pmg40 ang40 cdg40 ctg40), slg40⟩)
    (cg40 : PySem.W.codeIn K cdg40 "_law_ring_of_40" = true)
    (kg40 : PySem.W.keepIn K (.ref fg40) = true)
    (ag41 : PySem.W.nsIn K mainGlobals "_law_ring_of_41" = some (some (.ref fg41)))
    (lg41 : K.lookup fg41 = some ⟨ocg41, odg41, .func (PySem.W.fnOf "_law_ring_of_41" "_law_ring_of_41" (defArgs s_law_ring_of_41) (defBody s_law_ring_of_41) (defScope s_law_ring_of_41) .none kVg41 dcg41 pmg41 ang41 cdg41 ctg41), slg41⟩)
    (cg41 : PySem.W.codeIn K cdg41 "_law_ring_of_41" = true)
    (kg41 : PySem.W.keepIn K (.ref fg41) = true)
    (aw39 : PySem.W.nsIn K mainGlobals "_law_row_of_39" = some (some (.ref fw39)))
    (lw39 : K.lookup fw39 = some ⟨ocw39, odw39, .func (PySem.W.fnOf "_law_row_of_39" "_law_row_of_39" (defArgs s_law_row_of_39) (defBody s_law_row_of_39) (defScope s_law_row_of_39) .none kVw39 dcw39 pmw39 anw39 cdw39 ctw39), slw39⟩)
    (cw39 : PySem.W.codeIn K cdw39 "_law_row_of_39" = true)
    (kw39 : PySem.W.keepIn K (.ref fw39) = true)
    (aw40 : PySem.W.nsIn K mainGlobals "_law_row_of_40" = some (some (.ref fw40)))
    (lw40 : K.lookup fw40 = some ⟨ocw40, odw40, .func (PySem.W.fnOf "_law_row_of_40" "_law_row_of_40" (defArgs s_law_row_of_40) (defBody s_law_row_of_40) (defScope s_law_row_of_40) .none kVw40 dcw40 pmw40 anw40 cdw40 ctw40), slw40⟩)
    (cw40 : PySem.W.codeIn K cdw40 "_law_row_of_40" = true)
    (kw40 : PySem.W.keepIn K (.ref fw40) = true)
    (alri : PySem.W.nsIn K mainGlobals "_law_ring" = some (some (.ref flri)))
    (llri : K.lookup flri = some ⟨oclri, odlri, .func (PySem.W.fnOf "_law_ring" "_law_ring" (defArgs s_law_ring) (defBody s_law_ring) (defScope s_law_ring) .none kVlri dclri pmlri anlri cdlri ctlri), sllri⟩)
    (clri : PySem.W.codeIn K cdlri "_law_ring" = true)
    (klri : PySem.W.keepIn K (.ref flri) = true)
    (alro : PySem.W.nsIn K mainGlobals "_law_row" = some (some (.ref flro)))
    (llro : K.lookup flro = some ⟨oclro, odlro, .func (PySem.W.fnOf "_law_row" "_law_row" (defArgs s_law_row) (defBody s_law_row) (defScope s_law_row) .none kVlro dclro pmlro anlro cdlro ctlro), sllro⟩)
    (clro : PySem.W.codeIn K cdlro "_law_row" = true)
    (klro : PySem.W.keepIn K (.ref flro) = true)
    (alin : PySem.W.nsIn K mainGlobals "_law_links" = some (some (.ref flin)))
    (llin : K.lookup flin = some ⟨oclin, odlin, .func (PySem.W.fnOf "_law_links" "_law_links" (defArgs s_law_links) (defBody s_law_links) (defScope s_law_links) .none kVlin dclin pmlin anlin cdlin ctlin), sllin⟩)
    (clin : PySem.W.codeIn K cdlin "_law_links" = true)
    (klin : PySem.W.keepIn K (.ref flin) = true)
    (agoo : PySem.W.nsIn K mainGlobals "_law_good" = some (some (.ref fgoo)))
    (lgoo : K.lookup fgoo = some ⟨ocgoo, odgoo, .func (PySem.W.fnOf "_law_good" "_law_good" (defArgs s_law_good) (defBody s_law_good) (defScope s_law_good) .none kVgoo dcgoo pmgoo angoo cdgoo ctgoo), slgoo⟩)
    (cgoo : PySem.W.codeIn K cdgoo "_law_good" = true)
    (kgoo : PySem.W.keepIn K (.ref fgoo) = true)
    (aans : PySem.W.nsIn K mainGlobals "_law_answered" = some (some (.ref fans)))
    (lans : K.lookup fans = some ⟨ocans, odans, .func (PySem.W.fnOf "_law_answered" "_law_answered" (defArgs s_law_answered) (defBody s_law_answered) (defScope s_law_answered) .none kVans dcans pmans anans cdans ctans), slans⟩)
    (cans : PySem.W.codeIn K cdans "_law_answered" = true)
    (kans : PySem.W.keepIn K (.ref fans) = true)
    (amen : PySem.W.nsIn K mainGlobals "_law_mended" = some (some (.ref fmen)))
    (lmen : K.lookup fmen = some ⟨ocmen, odmen, .func (PySem.W.fnOf "_law_mended" "_law_mended" (defArgs s_law_mended) (defBody s_law_mended) (defScope s_law_mended) .none kVmen dcmen pmmen anmen cdmen ctmen), slmen⟩)
    (cmen : PySem.W.codeIn K cdmen "_law_mended" = true)
    (kmen : PySem.W.keepIn K (.ref fmen) = true)
    (apip : PySem.W.nsIn K mainGlobals "_law_pipeline" = some (some (.ref fpip)))
    (lpip : K.lookup fpip = some ⟨ocpip, odpip, .func (PySem.W.fnOf "_law_pipeline" "_law_pipeline" (defArgs s_law_pipeline) (defBody s_law_pipeline) (defScope s_law_pipeline) .none kVpip dcpip pmpip anpip cdpip ctpip), slpip⟩)
    (cpip : PySem.W.codeIn K cdpip "_law_pipeline" = true)
    (kpip : PySem.W.keepIn K (.ref fpip) = true)
    (aequ : PySem.W.nsIn K mainGlobals "_law_equal" = some (some (.ref fequ)))
    (lequ : K.lookup fequ = some ⟨ocequ, odequ, .func (PySem.W.fnOf "_law_equal" "_law_equal" (defArgs s_law_equal) (defBody s_law_equal) (defScope s_law_equal) .none kVequ dcequ pmequ anequ cdequ ctequ), slequ⟩)
    (cequ : PySem.W.codeIn K cdequ "_law_equal" = true)
    (kequ : PySem.W.keepIn K (.ref fequ) = true)
    (acom : PySem.W.nsIn K mainGlobals "_law_compared" = some (some (.ref fcom)))
    (lcom : K.lookup fcom = some ⟨occom, odcom, .func (PySem.W.fnOf "_law_compared" "_law_compared" (defArgs s_law_compared) (defBody s_law_compared) (defScope s_law_compared) .none kVcom dccom pmcom ancom cdcom ctcom), slcom⟩)
    (ccom : PySem.W.codeIn K cdcom "_law_compared" = true)
    (kcom : PySem.W.keepIn K (.ref fcom) = true)
    (asiz : PySem.W.nsIn K mainGlobals "_law_size" = some (some (.ref fsiz)))
    (lsiz : K.lookup fsiz = some ⟨ocsiz, odsiz, .func (PySem.W.fnOf "_law_size" "_law_size" (defArgs s_law_size) (defBody s_law_size) (defScope s_law_size) .none kVsiz dcsiz pmsiz ansiz cdsiz ctsiz), slsiz⟩)
    (csiz : PySem.W.codeIn K cdsiz "_law_size" = true)
    (ksiz : PySem.W.keepIn K (.ref fsiz) = true)
    (alar : PySem.W.nsIn K mainGlobals "_law_large" = some (some (.ref flar)))
    (llar : K.lookup flar = some ⟨oclar, odlar, .func (PySem.W.fnOf "_law_large" "_law_large" (defArgs s_law_large) (defBody s_law_large) (defScope s_law_large) .none kVlar dclar pmlar anlar cdlar ctlar), sllar⟩)
    (clar : PySem.W.codeIn K cdlar "_law_large" = true)
    (klar : PySem.W.keepIn K (.ref flar) = true)
    (asma : PySem.W.nsIn K mainGlobals "_law_small" = some (some (.ref fsma)))
    (lsma : K.lookup fsma = some ⟨ocsma, odsma, .func (PySem.W.fnOf "_law_small" "_law_small" (defArgs s_law_small) (defBody s_law_small) (defScope s_law_small) .none kVsma dcsma pmsma ansma cdsma ctsma), slsma⟩)
    (csma : PySem.W.codeIn K cdsma "_law_small" = true)
    (ksma : PySem.W.keepIn K (.ref fsma) = true)
    (alaw : PySem.W.nsIn K mainGlobals "law" = some (some (.ref flaw)))
    (llaw : K.lookup flaw = some ⟨oclaw, odlaw, .func (PySem.W.fnOf "law" "law" (defArgs s_law) (defBody s_law) (defScope s_law) .none kVlaw dclaw pmlaw anlaw cdlaw ctlaw), sllaw⟩)
    (claw : PySem.W.codeIn K cdlaw "law" = true)
    (klaw : PySem.W.keepIn K (.ref flaw) = true)
    (aI : PySem.W.nsIn K mainGlobals "InvalidNet" = some (some (.ref CI)))
    (xI : K.lookup CI = some (excClassObj nmI qnI CI NNI bsI bmI true snI subI abI coI ddI m0I m1I m2I m3I m5I "ValueError.__new__"))
    (rbI : PySem.HandSPX.refsVE bmI = true)
    (saI : PySem.W.findIn K (.ref CI) "__setattr__" = some (some (.builtin "object.__setattr__")))
    (ebI : PySem.W.subIn K (.ref CI) (.type "BaseException") = some true)
    (tyI : PySem.W.typeIn K (.ref CI) = some (.type "type"))
    (kcI : PySem.W.keepIn K (.ref CI) = true)
    (inI : PySem.W.findIn K (.ref CI) "__init__" = some (some (.ref fxI)))
    (tfI : PySem.W.typeIn K (.ref fxI) = some (.type "function"))
    (lxI : K.lookup fxI = some ⟨ocxI, odxI, .func (PySem.W.fnOf "__init__" "InvalidNet.__init__" (defArgs s_InvalidNet_init) (defBody s_InvalidNet_init) (defScope s_InvalidNet_init) .none kVxI dcxI pmxI anxI cdxI ctxI), slxI⟩)
    (cxI : PySem.W.codeIn K cdxI "InvalidNet.__init__" = true)
    (kxI : PySem.W.keepIn K (.ref fxI) = true)
    (noI_reason : PySem.W.findIn K (.ref CI) "reason" = some none)
    (noI_position : PySem.W.findIn K (.ref CI) "position" = some none)
    (aW : PySem.W.nsIn K mainGlobals "WithinCallError" = some (some (.ref CW)))
    (aN : PySem.W.nsIn K mainGlobals "NotFound" = some (some (.ref CN)))
    (e_hn : PySem.W.specialIn K (.builtin "object.__class__") "__get__" = some (some (.builtin "getset_descriptor.__get__")))
    (e_ht : PySem.W.takesIn K (.builtin "object.__class__") = some true)
    (e_hgI : PySem.W.findIn K (.ref CI) "__getattribute__" = some (some (.builtin "BaseException.__getattribute__")))
    (e_hkI : PySem.W.findIn K (.ref CI) "__getattr__" = some none)
    (e_hdI : PySem.W.hasDictIn K CI = true)
    (e_haI : PySem.W.findIn K (.ref CI) "__class__" = some (some (.builtin "object.__class__")))
    (e_hmI : PySem.W.mroIn K CI (.type "object") = some true)
    (exm_IW : PySem.W.exmOne K (.ref CI) (.ref CW) = some true)
    (kit_II : PySem.W.kitOne K (.ref CI) (.ref CI) = some true)
    (kit_IN : PySem.W.kitOne K (.ref CI) (.ref CN) = some false)
    (aNet : PySem.W.nsIn K mainGlobals "Net" = some (some (.ref N)))
    (rdN : PySem.W.readsIn K N (.type "type") = true)
    (gaN : PySem.W.specialIn K (.ref N) "__getattribute__" = some (some (.builtin "type.__getattribute__")))
    (cv1 : PySem.W.findCls K (.ref N) (.type "type") "MOST_STAGES" = some (.val (.int 40 t1)))
    (cv2 : PySem.W.findCls K (.ref N) (.type "type") "MOST_CHANNELS" = some (.val (.int 120 t2)))
    (cv3 : PySem.W.findCls K (.ref N) (.type "type") "MOST_CAPACITY" = some (.val (.int 999 t3)))
    (cv4 : PySem.W.findCls K (.ref N) (.type "type") "MOST_COUNTER" = some (.val (.int 999 t4)))
    (fIC : PySem.W.findCls K (.ref N) (.type "type") "is_capacity" = some (.get (.builtin "staticmethod.__get__") (.ref pIC) .none (.ref N)))
    (rIC : PySem.W.recIn K pIC "staticmethod" = some (.ref gIC :: restIC))
    (lIC : K.lookup gIC = some ⟨ocIC, odIC, .func (PySem.W.fnOf "is_capacity" "Net.is_capacity" (defArgs s_Net_is_capacity) (defBody s_Net_is_capacity) (defScope s_Net_is_capacity) .none kVIC dcIC pmIC anIC cdIC ctIC), slIC⟩)
    (cIC : PySem.W.codeIn K cdIC "Net.is_capacity" = true)
    (kIC : PySem.W.keepIn K (.ref gIC) = true)
    (aP : PySem.W.nsIn K mainGlobals "Pipeline" = some (some (.ref CP)))
    (pgP : PySem.W.plainGet K CP Str.empty = true)
    (hdP : PySem.W.hasDictIn K CP = true)
    (poP : PySem.W.plainOver K CP = true)
    (stP : PySem.W.findIn K (.ref CP) "__setattr__" = some (some (.builtin "object.__setattr__")))
    (nSP : PySem.W.findIn K (.ref CP) "stages" = some none)
    (nCP : PySem.W.findIn K (.ref CP) "channels" = some none)
    (nJP : PySem.W.findIn K (.ref CP) "_incoming" = some none)
    (nOP : PySem.W.findIn K (.ref CP) "_outgoing" = some none)
    (mkP : PySem.W.makesIn K CP = true)
    (keP : PySem.W.keepIn K (.ref CP) = true)
    (itP : PySem.W.findIn K (.ref CP) "__init__" = some (some (.ref iniP)))
    (ifP : PySem.W.isFn K (.ref iniP) = true)
    (sl_P : K.lookup iniP = some ⟨oSP, qSP, .func (PySem.W.fnX "__init__" "Pipeline.__init__" (defArgs s_Pipeline_init) (defBody s_Pipeline_init) (defScope s_Pipeline_init) [(cls_, ccP)] .none (.ref Dk) dSP pSP nSP_ (.ref cdaP) tSP), sSP⟩)
    (sc_P : PySem.W.codeIn K (.ref cdaP) "Pipeline.__init__" = true)
    (ce_P : K.lookup ccP = some ⟨kc_P, dc_P, .cell (some (.ref CP)), lc_P⟩)
    (co_P : K.lookup cdaP = some ⟨o1P, o2P, .fields vsP, o3P⟩)
    (fi_P : vsP[2]? = some (.str fileP tkP))
    (fe_P : ((PySem.Challenge.pw_withincall_k01_rings_and_kinds.main.file : Str) == fileP) = true)
    (di_P : (PySem.W.clsIn K CP).isSome = true)
    (mr_P : PySem.W.mroIn K CP (.ref CP) = some true)
    (ks_P : PySem.W.ks_superIn K CP CP "__init__" = some (some (.ref fNI)))
    (aR : PySem.W.nsIn K mainGlobals "Ring" = some (some (.ref CR)))
    (pgR : PySem.W.plainGet K CR Str.empty = true)
    (hdR : PySem.W.hasDictIn K CR = true)
    (poR : PySem.W.plainOver K CR = true)
    (stR : PySem.W.findIn K (.ref CR) "__setattr__" = some (some (.builtin "object.__setattr__")))
    (nSR : PySem.W.findIn K (.ref CR) "stages" = some none)
    (nCR : PySem.W.findIn K (.ref CR) "channels" = some none)
    (nJR : PySem.W.findIn K (.ref CR) "_incoming" = some none)
    (nOR : PySem.W.findIn K (.ref CR) "_outgoing" = some none)
    (mkR : PySem.W.makesIn K CR = true)
    (keR : PySem.W.keepIn K (.ref CR) = true)
    (itR : PySem.W.findIn K (.ref CR) "__init__" = some (some (.ref iniR)))
    (ifR : PySem.W.isFn K (.ref iniR) = true)
    (sl_R : K.lookup iniR = some ⟨oSR, qSR, .func (PySem.W.fnX "__init__" "Ring.__init__" (defArgs s_Ring_init) (defBody s_Ring_init) (defScope s_Ring_init) [(cls_, ccR)] .none kVRing dSR pSR nSR_ (.ref cdaR) tSR), sSR⟩)
    (sc_R : PySem.W.codeIn K (.ref cdaR) "Ring.__init__" = true)
    (ce_R : K.lookup ccR = some ⟨kc_R, dc_R, .cell (some (.ref CR)), lc_R⟩)
    (co_R : K.lookup cdaR = some ⟨o1R, o2R, .fields vsR, o3R⟩)
    (fi_R : vsR[2]? = some (.str fileR tkR))
    (fe_R : ((PySem.Challenge.pw_withincall_k01_rings_and_kinds.main.file : Str) == fileR) = true)
    (di_R : (PySem.W.clsIn K CR).isSome = true)
    (mr_R : PySem.W.mroIn K CR (.ref CR) = some true)
    (ks_R : PySem.W.ks_superIn K CR CR "__init__" = some (some (.ref fNI)))
    (opq : PySem.W.nsIn K cStatics "thirdparty.any" = some none)
    (tyNI : PySem.W.typeIn K (.ref fNI) = some (.type "function"))
    (fnNI : PySem.W.fnIn K fNI = true)
    (lNI : K.lookup fNI = some ⟨ocNI, odNI, .func (PySem.W.fnOf "__init__" "Net.__init__" (defArgs s_Net_init) (defBody s_Net_init) (defScope s_Net_init) .none kVNI dcNI pmNI anNI cdNI ctNI), slNI⟩)
    (cNI : PySem.W.codeIn K cdNI "Net.__init__" = true)
    (kNI : PySem.W.keepIn K (.ref fNI) = true)
    (capD : PySem.W.nsIn K Dk "capacity" = some (some (.int 1 tD)))
    (lring : PySem.W.nsIn K mainGlobals "LEAST_RING" = some (some (.int 3 tL)))
    (rdP : PySem.W.readsIn K CP (.type "type") = true)
    (gaP : PySem.W.specialIn K (.ref CP) "__getattribute__" = some (some (.builtin "type.__getattribute__")))
    (fRow : PySem.W.findCls K (.ref CP) (.type "type") "row" = some (.get (.builtin "classmethod.__get__") (.ref pRow) .none (.ref CP)))
    (rRow : PySem.W.recIn K pRow "classmethod" = some (.ref gRow :: restRow))
    (fnRow : PySem.W.fnIn K gRow = true)
    (lRow : K.lookup gRow = some ⟨ocRow, odRow, .func (PySem.W.fnOf "row" "Pipeline.row" (defArgs s_Pipeline_row) (defBody s_Pipeline_row) (defScope s_Pipeline_row) .none kVRow dcRow pmRow anRow cdRow ctRow), slRow⟩)
    (cRow : PySem.W.codeIn K cdRow "Pipeline.row" = true)
    (kRow : PySem.W.keepIn K (.ref gRow) = true)
    (ps_P : PySem.W.findIn K (.ref CP) "slots" = some (some (.ref pslots)))
    (ps_R : PySem.W.findIn K (.ref CR) "slots" = some (some (.ref pslots)))
    (gs_ : PySem.W.specialIn K (.ref pslots) "__get__" = some (some (.builtin "property.__get__")))
    (ts_ : PySem.W.takesIn K (.ref pslots) = some true)
    (rs_ : PySem.W.recIn K pslots "property" = some (.ref gslots :: restslots))
    (lslots : K.lookup gslots = some ⟨ocslots, odslots, .func (PySem.W.fnOf "slots" "Net.slots" (defArgs s_Net_slots) (defBody s_Net_slots) (defScope s_Net_slots) .none kVslots dcslots pmslots anslots cdslots ctslots), slslots⟩)
    (cslots : PySem.W.codeIn K cdslots "Net.slots" = true)
    (kslots : PySem.W.keepIn K (.ref gslots) = true)
    (eq_P : PySem.W.findIn K (.ref CP) "__eq__" = some (some (.ref qeq)))
    (ha_P : PySem.W.findIn K (.ref CP) "__class__" = some (some (.builtin "object.__class__")))
    (hm_P : PySem.W.mroIn K CP (.type "object") = some true)
    (ki_P : PySem.W.kitOne K (.ref CP) (.ref N) = some true)
    (nf_PP : PySem.W.notFirst K CP (.ref CP) = true)
    (nf_PR : PySem.W.notFirst K CP (.ref CR) = true)
    (eq_R : PySem.W.findIn K (.ref CR) "__eq__" = some (some (.ref qeq)))
    (ha_R : PySem.W.findIn K (.ref CR) "__class__" = some (some (.builtin "object.__class__")))
    (hm_R : PySem.W.mroIn K CR (.type "object") = some true)
    (ki_R : PySem.W.kitOne K (.ref CR) (.ref N) = some true)
    (nf_RP : PySem.W.notFirst K CR (.ref CP) = true)
    (nf_RR : PySem.W.notFirst K CR (.ref CR) = true)
    (kr_P : PySem.W.kitOne K (.ref CP) (.ref CR) = some false)
    (kr_R : PySem.W.kitOne K (.ref CR) (.ref CR) = some true)
    (i_eq : PySem.W.isFn K (.ref qeq) = true)
    (leq : K.lookup qeq = some ⟨oceq, odeq, .func (PySem.W.fnOf "__eq__" "Net.__eq__" (defArgs s_Net_eq) (defBody s_Net_eq) (defScope s_Net_eq) .none kVeq dceq pmeq aneq cdeq cteq), sleq⟩)
    (ceq : PySem.W.codeIn K cdeq "Net.__eq__" = true)
    (keq : PySem.W.keepIn K (.ref qeq) = true)
    (nn_i : PySem.W.kitOne K (.type "int") (.ref N) = some false)
    (nn_b : PySem.W.kitOne K (.type "bool") (.ref N) = some false)
    (nn_n : PySem.W.kitOne K (.type "NoneType") (.ref N) = some false)
    (nn_s : PySem.W.kitOne K (.type "str") (.ref N) = some false)
    (nn_t : PySem.W.kitOne K (.type "tuple") (.ref N) = some false)
    (nn_l : PySem.W.kitOne K (.type "list") (.ref N) = some false)
    (nt_Pi : PySem.W.notFirst K CP (.type "int") = true)
    (nt_Pb : PySem.W.notFirst K CP (.type "bool") = true)
    (nt_Pn : PySem.W.notFirst K CP (.type "NoneType") = true)
    (nt_Ps : PySem.W.notFirst K CP (.type "str") = true)
    (nt_Pt : PySem.W.notFirst K CP (.type "tuple") = true)
    (nt_Pl : PySem.W.notFirst K CP (.type "list") = true)
    (nt_Ri : PySem.W.notFirst K CR (.type "int") = true)
    (nt_Rb : PySem.W.notFirst K CR (.type "bool") = true)
    (nt_Rn : PySem.W.notFirst K CR (.type "NoneType") = true)
    (nt_Rs : PySem.W.notFirst K CR (.type "str") = true)
    (nt_Rt : PySem.W.notFirst K CR (.type "tuple") = true)
    (nt_Rl : PySem.W.notFirst K CR (.type "list") = true)
    (p_sum : PySem.W.findIn K (.ref N) "summary" = some (some (.ref qsum)))
    (i_sum : PySem.W.isFn K (.ref qsum) = true)
    (lMsum : K.lookup qsum = some ⟨ocMsum, odMsum, .func (PySem.W.fnOf "summary" "Net.summary" (defArgs s_Net_summary) (defBody s_Net_summary) (defScope s_Net_summary) .none kVMsum dcMsum pmMsum anMsum cdMsum ctMsum), slMsum⟩)
    (cMsum : PySem.W.codeIn K cdMsum "Net.summary" = true)
    (kMsum : PySem.W.keepIn K (.ref qsum) = true)
    (tyqsum : PySem.W.typeIn K (.ref qsum) = some (.type "function"))
    (fnqsum : PySem.W.fnIn K qsum = true)
    (p_isrP : PySem.W.findIn K (.ref CP) "is_ring" = some (some (.ref qisrP)))
    (i_isrP : PySem.W.isFn K (.ref qisrP) = true)
    (lMisrP : K.lookup qisrP = some ⟨ocMisrP, odMisrP, .func (PySem.W.fnOf "is_ring" "Pipeline.is_ring" (defArgs s_Pipeline_is_ring) (defBody s_Pipeline_is_ring) (defScope s_Pipeline_is_ring) .none kVMisrP dcMisrP pmMisrP anMisrP cdMisrP ctMisrP), slMisrP⟩)
    (cMisrP : PySem.W.codeIn K cdMisrP "Pipeline.is_ring" = true)
    (kMisrP : PySem.W.keepIn K (.ref qisrP) = true)
    (p_sumP : PySem.W.findIn K (.ref CP) "summary" = some (some (.ref qsumP)))
    (i_sumP : PySem.W.isFn K (.ref qsumP) = true)
    (kMsumP : PySem.W.keepIn K (.ref qsumP) = true)
    (sl_sumP : K.lookup qsumP = some ⟨oSsumP, qSsumP, .func (PySem.W.fnX "summary" "Pipeline.summary" (defArgs s_Pipeline_summary) (defBody s_Pipeline_summary) (defScope s_Pipeline_summary) [(cls_, ccsumP)] .none kVsumP dSsumP pSsumP nSsumP_ (.ref cdasumP) tSsumP), sSsumP⟩)
    (sc_sumP : PySem.W.codeIn K (.ref cdasumP) "Pipeline.summary" = true)
    (ce_sumP : K.lookup ccsumP = some ⟨kc_sumP, dc_sumP, .cell (some (.ref CP)), lc_sumP⟩)
    (co_sumP : K.lookup cdasumP = some ⟨o1sumP, o2sumP, .fields vssumP, o3sumP⟩)
    (fi_sumP : vssumP[2]? = some (.str filesumP tksumP))
    (fe_sumP : ((PySem.Challenge.pw_withincall_k01_rings_and_kinds.main.file : Str) == filesumP) = true)
    (ks_sumP : PySem.W.ks_superIn K CP CP "summary" = some (some (.ref qsum)))
    (p_isrR : PySem.W.findIn K (.ref CR) "is_ring" = some (some (.ref qisrR)))
    (i_isrR : PySem.W.isFn K (.ref qisrR) = true)
    (lMisrR : K.lookup qisrR = some ⟨ocMisrR, odMisrR, .func (PySem.W.fnOf "is_ring" "Ring.is_ring" (defArgs s_Ring_is_ring) (defBody s_Ring_is_ring) (defScope s_Ring_is_ring) .none kVMisrR dcMisrR pmMisrR anMisrR cdMisrR ctMisrR), slMisrR⟩)
    (cMisrR : PySem.W.codeIn K cdMisrR "Ring.is_ring" = true)
    (kMisrR : PySem.W.keepIn K (.ref qisrR) = true)
    (p_sumR : PySem.W.findIn K (.ref CR) "summary" = some (some (.ref qsumR)))
    (i_sumR : PySem.W.isFn K (.ref qsumR) = true)
    (kMsumR : PySem.W.keepIn K (.ref qsumR) = true)
    (sl_sumR : K.lookup qsumR = some ⟨oSsumR, qSsumR, .func (PySem.W.fnX "summary" "Ring.summary" (defArgs s_Ring_summary) (defBody s_Ring_summary) (defScope s_Ring_summary) [(cls_, ccsumR)] .none kVsumR dSsumR pSsumR nSsumR_ (.ref cdasumR) tSsumR), sSsumR⟩)
    (sc_sumR : PySem.W.codeIn K (.ref cdasumR) "Ring.summary" = true)
    (ce_sumR : K.lookup ccsumR = some ⟨kc_sumR, dc_sumR, .cell (some (.ref CR)), lc_sumR⟩)
    (co_sumR : K.lookup cdasumR = some ⟨o1sumR, o2sumR, .fields vssumR, o3sumR⟩)
    (fi_sumR : vssumR[2]? = some (.str filesumR tksumR))
    (fe_sumR : ((PySem.Challenge.pw_withincall_k01_rings_and_kinds.main.file : Str) == filesumR) = true)
    (ks_sumR : PySem.W.ks_superIn K CR CR "summary" = some (some (.ref qsum))) :
    ∃ fd : FuncData, (∀ (s : Shared) (v : Value), BindsTo s fd ⟨[v], []⟩ [("script", v)]) ∧ ∀ base : Heap, K.In base → base.Ns mainGlobals mg → FnOk PK w K mg base (L2.CX PK w) 12 fa fd ["script"] (spLaw K) := by
  have e := hfa.symm.trans (PySem.W.mg_of X G alaw)
  cases e
  refine ⟨PySem.W.fnOf "law" "law" (defArgs s_law) (defBody s_law) (defScope s_law) .none kVlaw dclaw pmlaw anlaw cdlaw ctlaw, fun s v => .of_eq rfl, fun base _ _ => ?_⟩
  have m1 : ∀ {x : Str} {v : Value}, PySem.W.nsIn K mainGlobals x = some (some v) → mg x = some v := fun {x v} e => PySem.W.mg_of X G e
  have m0 : ∀ {x : Str}, PySem.W.nsIn K mainGlobals x = some none → mg x = none := fun {x} e => PySem.W.mg_none_of X G e
  have B : Blt mg := ⟨m0 z_isi, m0 z_int, m0 z_bool, m0 z_tuple, m0 z_list, m0 z_str, m0 z_len, m0 z_range, m0 z_sorted, m0 z_enum, m0 z_sum, m0 z_all, m0 z_max, m0 z_min, m0 z_verr⟩
  have Fbtw := fun_mk (st := s_is_between) lbtw cbtw kbtw
  have bbtw := Fbtw.binds (ps := ["value", "low", "high"]) fun _ _ _ _ _ _ us hl => match us, hl with | [_, _, _], _ => rfl
  have Fnat := fun_mk (st := s_numbers_at) lnat cnat knat
  have bnat := Fnat.binds (ps := ["stages", "ends"]) fun _ _ _ _ _ _ us hl => match us, hl with | [_, _], _ => rfl
  have Fjoi := fun_mk (st := s_joins_two_stages) ljoi cjoi kjoi
  have bjoi := Fjoi.binds (ps := ["stages", "channel"]) fun _ _ _ _ _ _ us hl => match us, hl with | [_, _], _ => rfl
  have Fcir := fun_mk (st := s_has_circle) lcir ccir kcir
  have bcir := Fcir.binds (ps := ["channels"]) fun _ _ _ _ _ _ us hl => match us, hl with | [_], _ => rfl
  have Fcch := fun_mk (st := s_check_channels) lcch ccch kcch
  have bcch := Fcch.binds (ps := ["stages", "channels"]) fun _ _ _ _ _ _ us hl => match us, hl with | [_, _], _ => rfl
  have Fwic := fun_mk (st := s_with_capacity) lwic cwic kwic
  have bwic := Fwic.binds (ps := ["channel", "capacity"]) fun _ _ _ _ _ _ us hl => match us, hl with | [_, _], _ => rfl
  have Fcel := fun_mk (st := s_law_cell) lcel ccel kcel
  have bcel := Fcel.binds (ps := ["script", "k"]) fun _ _ _ _ _ _ us hl => match us, hl with | [_, _], _ => rfl
  have Fbag := fun_mk (st := s_law_bag) lbag cbag kbag
  have bbag := Fbag.binds (ps := ["script", "k"]) fun _ _ _ _ _ _ us hl => match us, hl with | [_, _], _ => rfl
  have Fdra := fun_mk (st := s_law_draw) ldra cdra kdra
  have bdra := Fdra.binds (ps := ["bag", "many"]) fun _ _ _ _ _ _ us hl => match us, hl with | [_, _], _ => rfl
  have Fsam := fun_mk (st := s_law_same) lsam csam ksam
  have bsam := Fsam.binds (ps := ["told", "due"]) fun _ _ _ _ _ _ us hl => match us, hl with | [_, _], _ => rfl
  have Fsar := fun_mk (st := s_law_same_row) lsar csar ksar
  have bsar := Fsar.binds (ps := ["told", "due"]) fun _ _ _ _ _ _ us hl => match us, hl with | [_, _], _ => rfl
  have Fsrs := fun_mk (st := s_law_same_rows) lsrs csrs ksrs
  have bsrs := Fsrs.binds (ps := ["told", "due"]) fun _ _ _ _ _ _ us hl => match us, hl with | [_, _], _ => rfl
  have Flic := fun_mk (st := s_law_is_capacity) llic clic klic
  have blic := Flic.binds (ps := ["thing"]) fun _ _ _ _ _ _ us hl => match us, hl with | [_], _ => rfl
  have Ffau := fun_mk (st := s_law_fault) lfau cfau kfau
  have bfau := Ffau.binds (ps := ["sizes", "least", "most"]) fun _ _ _ _ _ _ us hl => match us, hl with | [_, _, _], _ => rfl
  have Fg40 := fun_mk (st := s_law_ring_of_40) lg40 cg40 kg40
  have bg40 := Fg40.binds (ps := ["c"]) fun _ _ _ _ _ _ us hl => match us, hl with | [_], _ => rfl
  have Fg41 := fun_mk (st := s_law_ring_of_41) lg41 cg41 kg41
  have bg41 := Fg41.binds (ps := ["c"]) fun _ _ _ _ _ _ us hl => match us, hl with | [_], _ => rfl
  have Fw39 := fun_mk (st := s_law_row_of_39) lw39 cw39 kw39
  have bw39 := Fw39.binds (ps := ["c"]) fun _ _ _ _ _ _ us hl => match us, hl with | [_], _ => rfl
  have Fw40 := fun_mk (st := s_law_row_of_40) lw40 cw40 kw40
  have bw40 := Fw40.binds (ps := ["c"]) fun _ _ _ _ _ _ us hl => match us, hl with | [_], _ => rfl
  have Flri := fun_mk (st := s_law_ring) llri clri klri
  have blri := Flri.binds (ps := ["c"]) fun _ _ _ _ _ _ us hl => match us, hl with | [_], _ => rfl
  have Flro := fun_mk (st := s_law_row) llro clro klro
  have blro := Flro.binds (ps := ["c"]) fun _ _ _ _ _ _ us hl => match us, hl with | [_], _ => rfl
  have Flin := fun_mk (st := s_law_links) llin clin klin
  have blin := Flin.binds (ps := ["sizes", "ring"]) fun _ _ _ _ _ _ us hl => match us, hl with | [_, _], _ => rfl
  have Fgoo := fun_mk (st := s_law_good) lgoo cgoo kgoo
  have bgoo := Fgoo.binds (ps := ["net", "sizes", "ring"]) fun _ _ _ _ _ _ us hl => match us, hl with | [_, _, _], _ => rfl
  have Fans := fun_mk (st := s_law_answered) lans cans kans
  have bans := Fans.binds (ps := ["sizes", "ring"]) fun _ _ _ _ _ _ us hl => match us, hl with | [_, _], _ => rfl
  have Fmen := fun_mk (st := s_law_mended) lmen cmen kmen
  have bmen := Fmen.binds (ps := ["sizes", "ring"]) fun _ _ _ _ _ _ us hl => match us, hl with | [_, _], _ => rfl
  have Fpip := fun_mk (st := s_law_pipeline) lpip cpip kpip
  have bpip := Fpip.binds (ps := ["count", "c"]) fun _ _ _ _ _ _ us hl => match us, hl with | [_, _], _ => rfl
  have Fequ := fun_mk (st := s_law_equal) lequ cequ kequ
  have bequ := Fequ.binds (ps := ["one", "other", "due"]) fun _ _ _ _ _ _ us hl => match us, hl with | [_, _, _], _ => rfl
  have Fcom := fun_mk (st := s_law_compared) lcom ccom kcom
  have bcom := Fcom.binds (ps := ["sizes", "place"]) fun _ _ _ _ _ _ us hl => match us, hl with | [_, _], _ => rfl
  have Fsiz := fun_mk (st := s_law_size) lsiz csiz ksiz
  have bsiz := Fsiz.binds (ps := ["bag"]) fun _ _ _ _ _ _ us hl => match us, hl with | [_], _ => rfl
  have Flar := fun_mk (st := s_law_large) llar clar klar
  have blar := Flar.binds (ps := ["bag"]) fun _ _ _ _ _ _ us hl => match us, hl with | [_], _ => rfl
  have Fsma := fun_mk (st := s_law_small) lsma csma ksma
  have bsma := Fsma.binds (ps := ["bag"]) fun _ _ _ _ _ _ us hl => match us, hl with | [_], _ => rfl
  have Flaw := fun_mk (st := s_law) llaw claw klaw
  have blaw := Flaw.binds (ps := ["script"]) fun _ _ _ _ _ _ us hl => match us, hl with | [_], _ => rfl
  have Dbtw : DefR PK w K mg base "is_between" 1 (spBtw K) := ⟨fbtw, m1 abtw, kbtw, raw0 (ok_is_between Fbtw B) bbtw⟩
  have TI : OexC K CI := ⟨⟨nmI, qnI, NNI, bsI, bmI, snI, subI, abI, coI, ddI, m0I, m1I, m2I, m3I, m5I, xI, rbI⟩, saI, ebI, tyI, kcI⟩
  have FxI := fun_mk (st := s_InvalidNet_init) lxI cxI kxI
  have bxI := FxI.binds (ps := ["self", "reason", "position"]) fun _ _ _ _ _ _ us hl => match us, hl with | [_, _, _], _ => rfl
  have EI : ExcR PK w K mg base "InvalidNet" CI 1 2 flI := ⟨TI, m1 aI, fxI, _, ["self", "reason", "position"], inI, tfI, bxI, ok_InvalidNet_init FxI TI noI_reason noI_position⟩
  have XCI : ExcC K CI := ⟨e_hgI, e_hkI, ebI, e_hdI, e_haI, e_hn, e_ht, e_hmI⟩
  have XFI : XfC K CI := ⟨e_hgI, e_hkI, ebI, e_hdI⟩
  have Dnat : DefR PK w K mg base "_numbers_at" 1 spNums := ⟨fnat, m1 anat, knat, raw0 (ok_numbers_at Fnat B) bnat⟩
  have Z : NetK K mg N := ⟨m1 aNet, .type "type", ⟨rdN, gaN⟩, ⟨_, cv1, _, rfl⟩, ⟨_, cv2, _, rfl⟩, ⟨_, cv3, _, rfl⟩, ⟨_, cv4, _, rfl⟩⟩
  have FIC := fun_mk (st := s_Net_is_capacity) lIC cIC kIC
  have bIC := FIC.binds (ps := ["value"]) fun _ _ _ _ _ _ us hl => match us, hl with | [_], _ => rfl
  have SIC : StaR PK w K mg base N "is_capacity" 2 (spCap K) := ⟨.type "type", pIC, gIC, ⟨rdN, gaN, fIC, ⟨_, rIC⟩, kIC⟩, raw0 (ok_is_capacity FIC Z Dbtw) bIC⟩
  have Djoi : DefR PK w K mg base "_joins_two_stages" 2 (spJoins K) := ⟨fjoi, m1 ajoi, kjoi, raw0 (ok_joins Fjoi B Dbtw) bjoi⟩
  have DjoiX : DefR PK w K mg base "_joins_two_stages" 2 (spJoinsX K) := ⟨fjoi, m1 ajoi, kjoi, raw0 (ok_joinsX Fjoi B Dbtw) bjoi⟩
  have Dcir : DefR PK w K mg base "has_circle" 1 spNoCircle := ⟨fcir, m1 acir, kcir, raw0 (ok_has_circle Fcir B) bcir⟩
  have Dwic : DefR PK w K mg base "_with_capacity" 1 spWith := ⟨fwic, m1 awic, kwic, raw0 (ok_with_capacity Fwic B) bwic⟩
  have Dcch : DefR PK w K mg base "_check_channels" 3 spCheckCh := ⟨fcch, m1 acch, kcch, raw0 (ok_check_channels Fcch B Z Djoi SIC EI) bcch⟩
  have Ncch : DefN PK w K mg base "_check_channels" 3 (spCheckBad K CI) := ⟨fcch, m1 acch, kcch, raw0 (ok_check_bad_N Fcch B Z DjoiX SIC EI) bcch⟩
  have NCP : NetCls K CP := ⟨⟨pgP, hdP, poP, stP⟩, nSP, nCP, nJP, nOP⟩
  have NCR : NetCls K CR := ⟨⟨pgR, hdR, poR, stR⟩, nSR, nCR, nJR, nOR⟩
  have FNI := fun_mk (st := s_Net_init) lNI cNI kNI
  have bNI := FNI.binds (ps := ["self", "stages", "channels"]) fun _ _ _ _ _ _ us hl => match us, hl with | [_, _, _], _ => rfl
  have RNIP : FnR PK w K mg base (L2.CX PK w) 2 fNI (spNetInit CP) := raw0 (ok_Net_init FNI B NCP Dnat) bNI
  have SUP : SupTxt PK K mg CP CP fNI "__init__" := ⟨Option.isSome_iff_exists.mp di_P, mr_P, m0 z_sup, by decide +kernel, by decide +kernel, opq, ks_P, tyNI, fnNI⟩
  have SFP : SFun PK K "__init__" "Pipeline.__init__" s_Pipeline_init iniP ccP CP (.ref Dk) := ⟨⟨_, _, _, _, _, _, _, _, _, _, _, _, _, _, _, _, _, sl_P, sc_P, ce_P, co_P, fi_P, fe_P⟩⟩
  have MkP : Mk K CP iniP := ⟨mkP, itP, ifP, keP⟩
  have RNIR : FnR PK w K mg base (L2.CX PK w) 2 fNI (spNetInit CR) := raw0 (ok_Net_init FNI B NCR Dnat) bNI
  have SUR : SupTxt PK K mg CR CR fNI "__init__" := ⟨Option.isSome_iff_exists.mp di_R, mr_R, m0 z_sup, by decide +kernel, by decide +kernel, opq, ks_R, tyNI, fnNI⟩
  have SFR : SFun PK K "__init__" "Ring.__init__" s_Ring_init iniR ccR CR kVRing := ⟨⟨_, _, _, _, _, _, _, _, _, _, _, _, _, _, _, _, _, sl_R, sc_R, ce_R, co_R, fi_R, fe_R⟩⟩
  have MkR : Mk K CR iniR := ⟨mkR, itR, ifR, keR⟩
  have TC : ∀ C ∈ [CP, CR], NetCls K C := fun C hC => by
    rcases List.mem_cons.mp hC with e | hC
    · rw [e]; exact NCP
    · rw [List.mem_singleton.mp hC]; exact NCR
  have iP : CP ∈ [CP, CR] := List.mem_cons_self
  have iR : CR ∈ [CP, CR] := List.mem_cons_of_mem _ List.mem_cons_self
  have DP : ClsR PK w K mg base CP 4 (spPipe CP) := ⟨iniP, MkP, ok_Pipeline_init SFP capD ⟨_, rfl⟩ B Z Dbtw Dcch SIC Dwic Dcir EI SUP RNIP⟩
  have DR : ClsR PK w K mg base CR 4 (spRing CR) := ⟨iniR, MkR, ok_Ring_init SFR B Z (m1 lring) ⟨_, rfl⟩ SIC EI SUR RNIR⟩
  have DPN : ClsN PK w K mg base CP 4 (spPX K CP CI) := ⟨iniP, MkP, FnR.or (FnR.toN (ok_Pipeline_init SFP capD ⟨_, rfl⟩ B Z Dbtw Dcch SIC Dwic Dcir EI SUP RNIP) (fun _ _ _ _ h => h)) (FnR.or (ok_Pipeline_bad_N SFP capD ⟨_, rfl⟩ B Z Dbtw Ncch SIC Dwic Dcir EI SUP RNIP) (ok_Pipeline_st_N SFP capD ⟨_, rfl⟩ B Z Dbtw Ncch SIC Dwic Dcir EI SUP RNIP))⟩
  have DRN : ClsN PK w K mg base CR 4 (spRX K CR CI) := ⟨iniR, MkR, FnR.or (FnR.toN (ok_Ring_init SFR B Z (m1 lring) ⟨_, rfl⟩ SIC EI SUR RNIR) (fun _ _ _ _ h => h)) (FnR.or (ok_Ring_bad_N SFR B Z (m1 lring) ⟨_, rfl⟩ SIC EI SUR RNIR) (ok_Ring_st_N SFR B Z (m1 lring) ⟨_, rfl⟩ SIC EI SUR RNIR))⟩
  have RWN : RowN PK w K mg base CP CI := ⟨.type "type", pRow, gRow, ⟨rdP, gaP⟩, ⟨fRow, ⟨_, rRow⟩, fnRow⟩, ok_row_N lRow cRow B DPN⟩
  have Fslots := fun_mk (st := s_Net_slots) lslots cslots kslots
  have bslots := Fslots.binds (ps := ["self"]) fun _ _ _ _ _ _ us hl => match us, hl with | [_], _ => rfl
  have SL : SlotR PK w K mg base [CP, CR] := ⟨fun C hC => by
    rcases List.mem_cons.mp hC with e | hC
    · rw [e]; exact ⟨pslots, gslots, _, ["self"], NCP.cl, ⟨ps_P, gs_, ts_, _, rs_⟩, ok_slots Fslots B TC, bslots⟩
    · rw [List.mem_singleton.mp hC]; exact ⟨pslots, gslots, _, ["self"], NCR.cl, ⟨ps_R, gs_, ts_, _, rs_⟩, ok_slots Fslots B TC, bslots⟩⟩
  have Feq := fun_mk (st := s_Net_eq) leq ceq keq
  have beq := Feq.binds (ps := ["self", "other"]) fun _ _ _ _ _ _ us hl => match us, hl with | [_, _], _ => rfl
  have TE : EqF K [CP, CR] qeq := ⟨fun C hC => by
    rcases List.mem_cons.mp hC with e | hC
    · rw [e]; exact eq_P
    · rw [List.mem_singleton.mp hC]; exact eq_R, i_eq, fun C hC D hD => by
    rcases List.mem_cons.mp hC with e | hC
    · rcases List.mem_cons.mp hD with e2 | hD
      · rw [e, e2]; exact nf_PP
      · rw [e, List.mem_singleton.mp hD]; exact nf_PR
    · rcases List.mem_cons.mp hD with e2 | hD
      · rw [List.mem_singleton.mp hC, e2]; exact nf_RP
      · rw [List.mem_singleton.mp hC, List.mem_singleton.mp hD]; exact nf_RR⟩
  have NF : ∀ C ∈ [CP, CR], NotFst K C := fun C hC => by
    rcases List.mem_cons.mp hC with e | hC
    · rw [e]; exact ⟨nt_Pi, nt_Pb, nt_Pn, nt_Ps, nt_Pt, nt_Pl⟩
    · rw [List.mem_singleton.mp hC]; exact ⟨nt_Ri, nt_Rb, nt_Rn, nt_Rs, nt_Rt, nt_Rl⟩
  have FE := FnOk.or (ok_Net_eq (P := PK) (w := w) (mg := mg) (base := base) Feq B Z TC (fun C hC => by
    rcases List.mem_cons.mp hC with e | hC
    · rw [e]; exact ki_P
    · rw [List.mem_singleton.mp hC]; exact ki_R) (fun C hC => by
    rcases List.mem_cons.mp hC with e | hC
    · rw [e]; exact ha_P
    · rw [List.mem_singleton.mp hC]; exact ha_R) e_hn e_ht (fun C hC => by
    rcases List.mem_cons.mp hC with e | hC
    · rw [e]; exact hm_P
    · rw [List.mem_singleton.mp hC]; exact hm_R)) (ok_Net_eqO (P := PK) (w := w) (mg := mg) (base := base) Feq B Z TC ⟨nn_i, nn_b, nn_n, nn_s, nn_t, nn_l⟩)
  have FMsum := fun_mk (st := s_Net_summary) lMsum cMsum kMsum
  have bMsum := FMsum.binds (ps := ["self"]) fun _ _ _ _ _ _ us hl => match us, hl with | [_], _ => rfl
  have FMisrP := fun_mk (st := s_Pipeline_is_ring) lMisrP cMisrP kMisrP
  have bMisrP := FMisrP.binds (ps := ["self"]) fun _ _ _ _ _ _ us hl => match us, hl with | [_], _ => rfl
  have SUsumP : SupTxt PK K mg CP CP qsum "summary" := ⟨Option.isSome_iff_exists.mp di_P, mr_P, m0 z_sup, by decide +kernel, by decide +kernel, opq, ks_sumP, tyqsum, fnqsum⟩
  have SFsumP : SFun PK K "summary" "Pipeline.summary" s_Pipeline_summary qsumP ccsumP CP kVsumP := ⟨⟨_, _, _, _, _, _, _, _, _, _, _, _, _, _, _, _, _, sl_sumP, sc_sumP, ce_sumP, co_sumP, fi_sumP, fe_sumP⟩⟩
  have FMisrR := fun_mk (st := s_Ring_is_ring) lMisrR cMisrR kMisrR
  have bMisrR := FMisrR.binds (ps := ["self"]) fun _ _ _ _ _ _ us hl => match us, hl with | [_], _ => rfl
  have SUsumR : SupTxt PK K mg CR CR qsum "summary" := ⟨Option.isSome_iff_exists.mp di_R, mr_R, m0 z_sup, by decide +kernel, by decide +kernel, opq, ks_sumR, tyqsum, fnqsum⟩
  have SFsumR : SFun PK K "summary" "Ring.summary" s_Ring_summary qsumR ccsumR CR kVsumR := ⟨⟨_, _, _, _, _, _, _, _, _, _, _, _, _, _, _, _, _, sl_sumR, sc_sumR, ce_sumR, co_sumR, fi_sumR, fe_sumR⟩⟩
  have kcs : ∀ {T : Addr → Bool → Prop}, T CP false → T CR true → ∀ C ring, KC CP CR C ring → T C ring := fun {T} a b C ring h => by
    rcases h with ⟨e1, e2⟩ | ⟨e1, e2⟩
    · subst e1 e2; exact a
    · subst e1 e2; exact b
  have MIR : ∀ C ring, KC CP CR C ring → MetR PK w K mg base C "is_ring" 1 (spRing1 [CP, CR] ring) := kcs (T := fun C ring => MetR PK w K mg base C "is_ring" 1 (spRing1 [CP, CR] ring)) ⟨qisrP, _, ["self"], NCP.cl, ⟨p_isrP, i_isrP, kMisrP⟩, bMisrP, ok_P_is_ring FMisrP⟩ ⟨qisrR, _, ["self"], NCR.cl, ⟨p_isrR, i_isrR, kMisrR⟩, bMisrR, ok_R_is_ring FMisrR⟩
  have MSU : ∀ C ring, KC CP CR C ring → MetV PK w K mg base C "summary" 4 (spSum [C] (preT ring)) := kcs (T := fun C ring => MetV PK w K mg base C "summary" 4 (spSum [C] (preT ring))) ⟨qsumP, NCP.cl, ⟨p_sumP, i_sumP, kMsumP⟩, ok_P_summary SFsumP SUsumP (raw0 (ok_Net_summary FMsum B TC SL iP) bMsum)⟩ ⟨qsumR, NCR.cl, ⟨p_sumR, i_sumR, kMsumR⟩, ok_R_summary SFsumR SUsumR (raw0 (ok_Net_summary FMsum B TC SL iR) bMsum)⟩
  have EL : ErrL K mg CW CN CI := ⟨m1 aW, m1 aN, m1 aI, exm_IW, XCI, XFI, kit_II, kit_IN, noI_reason, noI_position⟩
  have Dcel : DefR PK w K mg base "_law_cell" 1 (spCell K) := ⟨fcel, m1 acel, kcel, raw0 (ok_cell Fcel B) bcel⟩
  have Dbag : DefR PK w K mg base "_law_bag" 2 (spBag K) := ⟨fbag, m1 abag, kbag, raw0 (ok_bag Fbag B Dcel) bbag⟩
  have Ddra : DefR PK w K mg base "_law_draw" 1 spDraw := ⟨fdra, m1 adra, kdra, raw0 (ok_draw Fdra B) bdra⟩
  have Qsam : DefQ PK w K mg base "_law_same" 1 spSame := ⟨fsam, _, ["told", "due"], m1 asam, ksam, bsam, ok_same Fsam B⟩
  have Dsar : DefR PK w K mg base "_law_same_row" 2 (spSR K) := ⟨fsar, m1 asar, ksar, raw0 (ok_same_row Fsar B Qsam) bsar⟩
  have Hsar : DefH PK w K mg base "_law_same_row" 2 (spSR K) := ⟨fsar, _, _, m1 asar, ksar, bsar, ok_same_row_H Fsar B Qsam⟩
  have Dsrs : DefR PK w K mg base "_law_same_rows" 3 (spSRs K) := ⟨fsrs, m1 asrs, ksrs, raw0 (ok_same_rows Fsrs B Dsar) bsrs⟩
  have Dlic : DefR PK w K mg base "_law_is_capacity" 1 (spCap K) := ⟨flic, m1 alic, klic, raw0 (ok_law_is_capacity Flic B) blic⟩
  have Dfau : DefR PK w K mg base "_law_fault" 2 (spFault1 K) := ⟨ffau, m1 afau, kfau, raw0 (ok_fault Ffau B Dlic) bfau⟩
  have Ng40 : DefN PK w K mg base "_law_ring_of_40" 6 (spRingN K CR CI 40) := ⟨fg40, m1 ag40, kg40, raw0 (ok_ring_of_40 Fg40 (m1 aR) DRN) bg40⟩
  have Ng41 : DefN PK w K mg base "_law_ring_of_41" 6 (spRingN K CR CI 41) := ⟨fg41, m1 ag41, kg41, raw0 (ok_ring_of_41 Fg41 (m1 aR) DRN) bg41⟩
  have Nw39 : DefN PK w K mg base "_law_row_of_39" 7 (spRowN K CP CI 39) := ⟨fw39, m1 aw39, kw39, raw0 (ok_row_of_39 Fw39 (m1 aP) RWN) bw39⟩
  have Nw40 : DefN PK w K mg base "_law_row_of_40" 7 (spRowN K CP CI 40) := ⟨fw40, m1 aw40, kw40, raw0 (ok_row_of_40 Fw40 (m1 aP) RWN) bw40⟩
  have Nlri : DefN PK w K mg base "_law_ring" 7 (spLRing K CR CI) := ⟨flri, m1 alri, klri, raw0 (ok_law_ring Flri B (m1 aR) DRN Ng40 Ng41) blri⟩
  have Nlro : DefN PK w K mg base "_law_row" 8 (spLRow K CP CI) := ⟨flro, m1 alro, klro, raw0 (ok_law_row Flro B (m1 aP) RWN Nw39 Nw40) blro⟩
  have Dlri : DefR PK w K mg base "_law_ring" 7 (spLRingG CR) := ⟨flri, m1 alri, klri, FnR.offN (FnR.imp (raw0 (ok_law_ring Flri B (m1 aR) DRN Ng40 Ng41) blri) (fun _ _ _ _ h => ringG_X h)) (fun _ _ _ _ h => h)⟩
  have Dlro : DefR PK w K mg base "_law_row" 8 (spLRowG CP) := ⟨flro, m1 alro, klro, FnR.offN (FnR.imp (raw0 (ok_law_row Flro B (m1 aP) RWN Nw39 Nw40) blro) (fun _ _ _ _ h => rowG_X h)) (fun _ _ _ _ h => h)⟩
  have Dlin : DefR PK w K mg base "_law_links" 1 spLinks1 := ⟨flin, m1 alin, klin, raw0 (ok_links1 Flin B) blin⟩
  have Dgoo : DefR PK w K mg base "_law_good" 5 (spGood1 CP CR) := ⟨fgoo, m1 agoo, kgoo, raw0 (ok_law_good Fgoo B TC SL MIR MSU Qsam Dsrs Dlin) bgoo⟩
  have Dans : DefR PK w K mg base "_law_answered" 9 (spAns K) := ⟨fans, m1 aans, kans, raw0 (off_N (ok_answered_N Fans B EL Dfau Nlri Nlro Hsar Dgoo) (fun _ _ _ _ h => h)) bans⟩
  have Dmen : DefR PK w K mg base "_law_mended" 10 (spAns K) := ⟨fmen, m1 amen, kmen, raw0 (ok_mended Fmen B Dans Dlic) bmen⟩
  have Dpip : DefR PK w K mg base "_law_pipeline" 6 (spLPipe CP) := ⟨fpip, m1 apip, kpip, raw0 (ok_law_pipeline Fpip B (m1 aP) DP) bpip⟩
  have Dequ : DefR PK w K mg base "_law_equal" 4 (spEqual [CP, CR]) := ⟨fequ, m1 aequ, kequ, raw0 (ok_law_equal Fequ TE NF FE beq Qsam) bequ⟩
  have Dcom : DefR PK w K mg base "_law_compared" 9 spComp := ⟨fcom, m1 acom, kcom, raw0 (ok_compared Fcom B TE NF FE beq Qsam Dlin Dlro Dlri Dpip Dequ Dgoo) bcom⟩
  have Dsiz : DefR PK w K mg base "_law_size" 2 spSize1 := ⟨fsiz, m1 asiz, ksiz, raw0 (ok_size1 Fsiz Ddra) bsiz⟩
  have Dlar : DefR PK w K mg base "_law_large" 11 spRnd := ⟨flar, m1 alar, klar, raw0 (ok_large Flar B Ddra Dmen) blar⟩
  have Dsma : DefR PK w K mg base "_law_small" 11 spRnd := ⟨fsma, m1 asma, ksma, raw0 (ok_small Fsma B Z SIC Ddra Dsiz Dmen Dlic Qsam Dcom) bsma⟩
  exact ok_law Flaw B Z Dsar Dbag Ddra Dlar Dsma
end WC

namespace WC
open PySem PySem.Spec PyProof.Rows L2
theorem walk_k01 {l : PySem.W.OpenLaw} {q : Program} {loose : List Str} {XP : (Str → Option Value) → Heap → Prop} {YP : World → Heap → Prop} {d : DefRec} {K : Params → PySem.W.Frag} (hl : l.prog = PK) (hn : l.most = some 63) (hdf : d.params.defaults = [])
    (hY : ∀ (w : World) (h : Heap), YP w h → (K w.params).In h)
    (F : ∀ (w : World) (mg : Str → Option Value) (fa : Addr) (h : Heap), (K w.params).In h → h.Ns mainGlobals mg → mg d.name = some (.ref fa) →
      ∃ fd : FuncData, (∀ (s : Shared) (u : Value), BindsTo s fd ⟨[u], []⟩ [("script", u)]) ∧ ∀ base : Heap, (K w.params).In base → base.Ns mainGlobals mg → FnOk PK w (K w.params) mg base (L2.CX PK w) 12 fa fd ["script"] (spLaw (K w.params))) :
    PySem.W.WalkO q loose XP YP l.row.toRowW d [] (fun f vs => PySem.call f vs) := by
  refine L2.walk_of (n := 63) (k := 12) (x := "script") (CX := fun w => L2.CX PK w) (sp := fun w => spLaw (K w.params)) hn (by decide) hdf ⟨rfl, by decide, by decide⟩ hY ?_ (fun _ _ a ns hl2 _ hS => ⟨a, ns, rfl, hS, hl2, fun _ => rfl⟩) (fun _ _ _ _ _ z => ?_)
  · rw [hl]
    exact F
  · obtain ⟨_, _, _, _, _, _, _, _, _, _, _, _, y⟩ := z
    exact y.elim
end WC
open PySem PySem.W PyProof.Rows
set_option maxRecDepth 100000 in
set_option maxHeartbeats 0 in
theorem PySem.Challenge.cw_withincall_k01_rings_and_kinds_holds : PySem.Challenge.rw_withincall_k01_rings_and_kinds.Holds := by
  w_on; o_law; k_head; (case hw => w_witness2)
  k_fill
  refine WC.walk_k01 (l := PySem.Challenge.rw_withincall_k01_rings_and_kinds) rfl rfl rfl (fun w h Y => PySem.W.kIn_of Y) ?F
  case F =>
    intro w mg fa h KX G hmg
    refine' WC.all_k01 KX G hmg ?z_isi ?z_int ?z_bool ?z_tuple ?z_list ?z_str ?z_len ?z_range ?z_sorted ?z_enum ?z_sum ?z_all ?z_max ?z_min ?z_verr ?z_sup ?abtw ?lbtw ?cbtw ?kbtw ?anat ?lnat ?cnat ?knat ?ajoi ?ljoi ?cjoi ?kjoi ?acir ?lcir ?ccir ?kcir ?acch ?lcch ?ccch ?kcch ?awic ?lwic ?cwic ?kwic ?acel ?lcel ?ccel ?kcel ?abag ?lbag ?cbag ?kbag ?adra ?ldra ?cdra ?kdra ?asam ?lsam ?csam ?ksam ?asar ?lsar ?csar ?ksar ?asrs ?lsrs ?csrs ?ksrs ?alic ?llic ?clic ?klic ?afau ?lfau ?cfau ?kfau ?ag40 ?lg40 ?cg40 ?kg40 ?ag41 ?lg41 ?cg41 ?kg41 ?aw39 ?lw39 ?cw39 ?kw39 ?aw40 ?lw40 ?cw40 ?kw40 ?alri ?llri ?clri ?klri ?alro ?llro ?clro ?klro ?alin ?llin ?clin ?klin ?agoo ?lgoo ?cgoo ?kgoo ?aans ?lans ?cans ?kans ?amen ?lmen ?cmen ?kmen ?apip ?lpip ?cpip ?kpip ?aequ ?lequ ?cequ ?kequ ?acom ?lcom ?ccom ?kcom ?asiz ?lsiz ?csiz ?ksiz ?alar ?llar ?clar ?klar ?asma ?lsma ?csma ?ksma ?alaw ?llaw ?claw ?klaw ?aI ?xI ?rbI ?saI ?ebI ?tyI ?kcI ?inI ?tfI ?lxI ?cxI ?kxI ?noI_reason ?noI_position ?aW ?aN ?e_hn ?e_ht ?e_hgI ?e_hkI ?e_hdI ?e_haI ?e_hmI ?exm_IW ?kit_II ?kit_IN ?aNet ?rdN ?gaN ?cv1 ?cv2 ?cv3 ?cv4 ?fIC ?rIC ?lIC ?cIC ?kIC ?aP ?pgP ?hdP ?poP ?stP ?nSP ?nCP ?nJP ?nOP ?mkP ?keP ?itP ?ifP ?sl_P ?sc_P ?ce_P ?co_P ?fi_P ?fe_P ?di_P ?mr_P ?ks_P ?aR ?pgR ?hdR ?poR ?stR ?nSR ?nCR ?nJR ?nOR ?mkR ?keR ?itR ?ifR ?sl_R ?sc_R ?ce_R ?co_R ?fi_R ?fe_R ?di_R ?mr_R ?ks_R ?opq ?tyNI ?fnNI ?lNI ?cNI ?kNI ?capD ?lring ?rdP ?gaP ?fRow ?rRow ?fnRow ?lRow ?cRow ?kRow ?ps_P ?ps_R ?gs_ ?ts_ ?rs_ ?lslots ?cslots ?kslots ?eq_P ?ha_P ?hm_P ?ki_P ?nf_PP ?nf_PR ?eq_R ?ha_R ?hm_R ?ki_R ?nf_RP ?nf_RR ?kr_P ?kr_R ?i_eq ?leq ?ceq ?keq ?nn_i ?nn_b ?nn_n ?nn_s ?nn_t ?nn_l ?nt_Pi ?nt_Pb ?nt_Pn ?nt_Ps ?nt_Pt ?nt_Pl ?nt_Ri ?nt_Rb ?nt_Rn ?nt_Rs ?nt_Rt ?nt_Rl ?p_sum ?i_sum ?lMsum ?cMsum ?kMsum ?tyqsum ?fnqsum ?p_isrP ?i_isrP ?lMisrP ?cMisrP ?kMisrP ?p_sumP ?i_sumP ?kMsumP ?sl_sumP ?sc_sumP ?ce_sumP ?co_sumP ?fi_sumP ?fe_sumP ?ks_sumP ?p_isrR ?i_isrR ?lMisrR ?cMisrR ?kMisrR ?p_sumR ?i_sumR ?kMsumR ?sl_sumR ?sc_sumR ?ce_sumR ?co_sumR ?fi_sumR ?fe_sumR ?ks_sumR
    (case z_isi => first | k_is | rfl | (decide +kernel))
    (case z_int => first | k_is | rfl | (decide +kernel))
    (case z_bool => first | k_is | rfl | (decide +kernel))
    (case z_tuple => first | k_is | rfl | (decide +kernel))
    (case z_list => first | k_is | rfl | (decide +kernel))
    (case z_str => first | k_is | rfl | (decide +kernel))
    (case z_len => first | k_is | rfl | (decide +kernel))
    (case z_range => first | k_is | rfl | (decide +kernel))
    (case z_sorted => first | k_is | rfl | (decide +kernel))
    (case z_enum => first | k_is | rfl | (decide +kernel))
    (case z_sum => first | k_is | rfl | (decide +kernel))
    (case z_all => first | k_is | rfl | (decide +kernel))
    (case z_max => first | k_is | rfl | (decide +kernel))
    (case z_min => first | k_is | rfl | (decide +kernel))
    (case z_verr => first | k_is | rfl | (decide +kernel))
    (case z_sup => first | k_is | rfl | (decide +kernel))
    (case abtw => first | k_is | rfl | (decide +kernel))
    (case lbtw => first | k_is | rfl | (decide +kernel))
    (case cbtw => first | k_is | rfl | (decide +kernel))
    (case kbtw => first | k_is | rfl | (decide +kernel))
    (case anat => first | k_is | rfl | (decide +kernel))
    (case lnat => first | k_is | rfl | (decide +kernel))
    (case cnat => first | k_is | rfl | (decide +kernel))
    (case knat => first | k_is | rfl | (decide +kernel))
    (case ajoi => first | k_is | rfl | (decide +kernel))
    (case ljoi => first | k_is | rfl | (decide +kernel))
    (case cjoi => first | k_is | rfl | (decide +kernel))
    (case kjoi => first | k_is | rfl | (decide +kernel))
    (case acir => first | k_is | rfl | (decide +kernel))
    (case lcir => first | k_is | rfl | (decide +kernel))
    (case ccir => first | k_is | rfl | (decide +kernel))
    (case kcir => first | k_is | rfl | (decide +kernel))
    (case acch => first | k_is | rfl | (decide +kernel))
    (case lcch => first | k_is | rfl | (decide +kernel))
    (case ccch => first | k_is | rfl | (decide +kernel))
    (case kcch => first | k_is | rfl | (decide +kernel))
    (case awic => first | k_is | rfl | (decide +kernel))
    (case lwic => first | k_is | rfl | (decide +kernel))
    (case cwic => first | k_is | rfl | (decide +kernel))
    (case kwic => first | k_is | rfl | (decide +kernel))
    (case acel => first | k_is | rfl | (decide +kernel))
    (case lcel => first | k_is | rfl | (decide +kernel))
    (case ccel => first | k_is | rfl | (decide +kernel))
    (case kcel => first | k_is | rfl | (decide +kernel))
    (case abag => first | k_is | rfl | (decide +kernel))
    (case lbag => first | k_is | rfl | (decide +kernel))
    (case cbag => first | k_is | rfl | (decide +kernel))
    (case kbag => first | k_is | rfl | (decide +kernel))
    (case adra => first | k_is | rfl | (decide +kernel))
    (case ldra => first | k_is | rfl | (decide +kernel))
    (case cdra => first | k_is | rfl | (decide +kernel))
    (case kdra => first | k_is | rfl | (decide +kernel))
    (case asam => first | k_is | rfl | (decide +kernel))
    (case lsam => first | k_is | rfl | (decide +kernel))
    (case csam => first | k_is | rfl | (decide +kernel))
    (case ksam => first | k_is | rfl | (decide +kernel))
    (case asar => first | k_is | rfl | (decide +kernel))
    (case lsar => first | k_is | rfl | (decide +kernel))
    (case csar => first | k_is | rfl | (decide +kernel))
    (case ksar => first | k_is | rfl | (decide +kernel))
    (case asrs => first | k_is | rfl | (decide +kernel))
    (case lsrs => first | k_is | rfl | (decide +kernel))
    (case csrs => first | k_is | rfl | (decide +kernel))
    (case ksrs => first | k_is | rfl | (decide +kernel))
    (case alic => first | k_is | rfl | (decide +kernel))
    (case llic => first | k_is | rfl | (decide +kernel))
    (case clic => first | k_is | rfl | (decide +kernel))
    (case klic => first | k_is | rfl | (decide +kernel))
    (case afau => first | k_is | rfl | (decide +kernel))
    (case lfau => first | k_is | rfl | (decide +kernel))
    (case cfau => first | k_is | rfl | (decide +kernel))
    (case kfau => first | k_is | rfl | (decide +kernel))
    (case ag40 => first | k_is | rfl | (decide +kernel))
    (case lg40 => first | k_is | rfl | (decide +kernel))
    (case cg40 => first | k_is | rfl | (decide +kernel))
    (case kg40 => first | k_is | rfl | (decide +kernel))
    (case ag41 => first | k_is | rfl | (decide +kernel))
    (case lg41 => first | k_is | rfl | (decide +kernel))
    (case cg41 => first | k_is | rfl | (decide +kernel))
    (case kg41 => first | k_is | rfl | (decide +kernel))
    (case aw39 => first | k_is | rfl | (decide +kernel))
    (case lw39 => first | k_is | rfl | (decide +kernel))
    (case cw39 => first | k_is | rfl | (decide +kernel))
    (case kw39 => first | k_is | rfl | (decide +kernel))
    (case aw40 => first | k_is | rfl | (decide +kernel))
    (case lw40 => first | k_is | rfl | (decide +kernel))
    (case cw40 => first | k_is | rfl | (decide +kernel))
    (case kw40 => first | k_is | rfl | (decide +kernel))
    (case alri => first | k_is | rfl | (decide +kernel))
    (case llri => first | k_is | rfl | (decide +kernel))
    (case clri => first | k_is | rfl | (decide +kernel))
    (case klri => first | k_is | rfl | (decide +kernel))
    (case alro => first | k_is | rfl | (decide +kernel))
    (case llro => first | k_is | rfl | (decide +kernel))
    (case clro => first | k_is | rfl | (decide +kernel))
    (case klro => first | k_is | rfl | (decide +kernel))
    (case alin => first | k_is | rfl | (decide +kernel))
    (case llin => first | k_is | rfl | (decide +kernel))
    (case clin => first | k_is | rfl | (decide +kernel))
    (case klin => first | k_is | rfl | (decide +kernel))
    (case agoo => first | k_is | rfl | (decide +kernel))
    (case lgoo => first | k_is | rfl | (decide +kernel))
    (case cgoo => first | k_is | rfl | (decide +kernel))
    (case kgoo => first | k_is | rfl | (decide +kernel))
    (case aans => first | k_is | rfl | (decide +kernel))
    (case lans => first | k_is | rfl | (decide +kernel))
    (case cans => first | k_is | rfl | (decide +kernel))
    (case kans => first | k_is | rfl | (decide +kernel))
    (case amen => first | k_is | rfl | (decide +kernel))
    (case lmen => first | k_is | rfl | (decide +kernel))
    (case cmen => first | k_is | rfl | (decide +kernel))
    (case kmen => first | k_is | rfl | (decide +kernel))
    (case apip => first | k_is | rfl | (decide +kernel))
    (case lpip => first | k_is | rfl | (decide +kernel))
    (case cpip => first | k_is | rfl | (decide +kernel))
    (case kpip => first | k_is | rfl | (decide +kernel))
    (case aequ => first | k_is | rfl | (decide +kernel))
    (case lequ => first | k_is | rfl | (decide +kernel))
    (case cequ => first | k_is | rfl | (decide +kernel))
    (case kequ => first | k_is | rfl | (decide +kernel))
    (case acom => first | k_is | rfl | (decide +kernel))
    (case lcom => first | k_is | rfl | (decide +kernel))
    (case ccom => first | k_is | rfl | (decide +kernel))
    (case kcom => first | k_is | rfl | (decide +kernel))
    (case asiz => first | k_is | rfl | (decide +kernel))
    (case lsiz => first | k_is | rfl | (decide +kernel))
    (case csiz => first | k_is | rfl | (decide +kernel))
    (case ksiz => first | k_is | rfl | (decide +kernel))
    (case alar => first | k_is | rfl | (decide +kernel))
    (case llar => first | k_is | rfl | (decide +kernel))
    (case clar => first | k_is | rfl | (decide +kernel))
    (case klar => first | k_is | rfl | (decide +kernel))
    (case asma => first | k_is | rfl | (decide +kernel))
    (case lsma => first | k_is | rfl | (decide +kernel))
    (case csma => first | k_is | rfl | (decide +kernel))
    (case ksma => first | k_is | rfl | (decide +kernel))
    (case alaw => first | k_is | rfl | (decide +kernel))
    (case llaw => first | k_is | rfl | (decide +kernel))
    (case claw => first | k_is | rfl | (decide +kernel))
    (case klaw => first | k_is | rfl | (decide +kernel))
    (case aI => first | k_is | rfl | (decide +kernel))
    (case xI => first | k_is | rfl | (decide +kernel))
    (case rbI => first | k_is | rfl | (decide +kernel))
    (case saI => first | k_is | rfl | (decide +kernel))
    (case ebI => first | k_is | rfl | (decide +kernel))
    (case tyI => first | k_is | rfl | (decide +kernel))
    (case kcI => first | k_is | rfl | (decide +kernel))
    (case inI => first | k_is | rfl | (decide +kernel))
    (case tfI => first | k_is | rfl | (decide +kernel))
    (case lxI => first | k_is | rfl | (decide +kernel))
    (case cxI => first | k_is | rfl | (decide +kernel))
    (case kxI => first | k_is | rfl | (decide +kernel))
    (case noI_reason => first | k_is | rfl | (decide +kernel))
    (case noI_position => first | k_is | rfl | (decide +kernel))
    (case aW => first | k_is | rfl | (decide +kernel))
    (case aN => first | k_is | rfl | (decide +kernel))
    (case e_hn => first | k_is | rfl | (decide +kernel))
    (case e_ht => first | k_is | rfl | (decide +kernel))
    (case e_hgI => first | k_is | rfl | (decide +kernel))
    (case e_hkI => first | k_is | rfl | (decide +kernel))
    (case e_hdI => first | k_is | rfl | (decide +kernel))
    (case e_haI => first | k_is | rfl | (decide +kernel))
    (case e_hmI => first | k_is | rfl | (decide +kernel))
    (case exm_IW => first | k_is | rfl | (decide +kernel))
    (case kit_II => first | k_is | rfl | (decide +kernel))
    (case kit_IN => first | k_is | rfl | (decide +kernel))
    (case aNet => first | k_is | rfl | (decide +kernel))
    (case rdN => first | k_is | rfl | (decide +kernel))
    (case gaN => first | k_is | rfl | (decide +kernel))
    (case cv1 => first | k_is | rfl | (decide +kernel))
    (case cv2 => first | k_is | rfl | (decide +kernel))
    (case cv3 => first | k_is | rfl | (decide +kernel))
    (case cv4 => first | k_is | rfl | (decide +kernel))
    (case fIC => first | k_is | rfl | (decide +kernel))
    (case rIC => first | k_is | rfl | (decide +kernel))
    (case lIC => first | k_is | rfl | (decide +kernel))
    (case cIC => first | k_is | rfl | (decide +kernel))
    (case kIC => first | k_is | rfl | (decide +kernel))
    (case aP => first | k_is | rfl | (decide +kernel))
    (case pgP => first | k_is | rfl | (decide +kernel))
    (case hdP => first | k_is | rfl | (decide +kernel))
    (case poP => first | k_is | rfl | (decide +kernel))
    (case stP => first | k_is | rfl | (decide +kernel))
    (case nSP => first | k_is | rfl | (decide +kernel))
    (case nCP => first | k_is | rfl | (decide +kernel))
    (case nJP => first | k_is | rfl | (decide +kernel))
    (case nOP => first | k_is | rfl | (decide +kernel))
    (case mkP => first | k_is | rfl | (decide +kernel))
    (case keP => first | k_is | rfl | (decide +kernel))
    (case itP => first | k_is | rfl | (decide +kernel))
    (case ifP => first | k_is | rfl | (decide +kernel))
    (case sl_P => first | k_is | rfl | (decide +kernel))
    (case sc_P => first | k_is | rfl | (decide +kernel))
    (case ce_P => first | k_is | rfl | (decide +kernel))
    (case co_P => first | k_is | rfl | (decide +kernel))
    (case fi_P => first | k_is | rfl | (decide +kernel))
    (case fe_P => first | k_is | rfl | (decide +kernel))
    (case di_P => first | k_is | rfl | (decide +kernel))
    (case mr_P => first | k_is | rfl | (decide +kernel))
    (case ks_P => first | k_is | rfl | (decide +kernel))
    (case aR => first | k_is | rfl | (decide +kernel))
    (case pgR => first | k_is | rfl | (decide +kernel))
    (case hdR => first | k_is | rfl | (decide +kernel))
    (case poR => first | k_is | rfl | (decide +kernel))
    (case stR => first | k_is | rfl | (decide +kernel))
    (case nSR => first | k_is | rfl | (decide +kernel))
    (case nCR => first | k_is | rfl | (decide +kernel))
    (case nJR => first | k_is | rfl | (decide +kernel))
    (case nOR => first | k_is | rfl | (decide +kernel))
    (case mkR => first | k_is | rfl | (decide +kernel))
    (case keR => first | k_is | rfl | (decide +kernel))
    (case itR => first | k_is | rfl | (decide +kernel))
    (case ifR => first | k_is | rfl | (decide +kernel))
    (case sl_R => first | k_is | rfl | (decide +kernel))
    (case sc_R => first | k_is | rfl | (decide +kernel))
    (case ce_R => first | k_is | rfl | (decide +kernel))
    (case co_R => first | k_is | rfl | (decide +kernel))
    (case fi_R => first | k_is | rfl | (decide +kernel))
    (case fe_R => first | k_is | rfl | (decide +kernel))
    (case di_R => first | k_is | rfl | (decide +kernel))
    (case mr_R => first | k_is | rfl | (decide +kernel))
    (case ks_R => first | k_is | rfl | (decide +kernel))
    (case opq => first | k_is | rfl | (decide +kernel))
    (case tyNI => first | k_is | rfl | (decide +kernel))
    (case fnNI => first | k_is | rfl | (decide +kernel))
    (case lNI => first | k_is | rfl | (decide +kernel))
    (case cNI => first | k_is | rfl | (decide +kernel))
    (case kNI => first | k_is | rfl | (decide +kernel))
    (case capD => first | k_is | rfl | (decide +kernel))
    (case lring => first | k_is | rfl | (decide +kernel))
    (case rdP => first | k_is | rfl | (decide +kernel))
    (case gaP => first | k_is | rfl | (decide +kernel))
    (case fRow => first | k_is | rfl | (decide +kernel))
    (case rRow => first | k_is | rfl | (decide +kernel))
    (case fnRow => first | k_is | rfl | (decide +kernel))
    (case lRow => first | k_is | rfl | (decide +kernel))
    (case cRow => first | k_is | rfl | (decide +kernel))
    (case kRow => first | k_is | rfl | (decide +kernel))
    (case ps_P => first | k_is | rfl | (decide +kernel))
    (case ps_R => first | k_is | rfl | (decide +kernel))
    (case gs_ => first | k_is | rfl | (decide +kernel))
    (case ts_ => first | k_is | rfl | (decide +kernel))
    (case rs_ => first | k_is | rfl | (decide +kernel))
    (case lslots => first | k_is | rfl | (decide +kernel))
    (case cslots => first | k_is | rfl | (decide +kernel))
    (case kslots => first | k_is | rfl | (decide +kernel))
    (case eq_P => first | k_is | rfl | (decide +kernel))
    (case ha_P => first | k_is | rfl | (decide +kernel))
    (case hm_P => first | k_is | rfl | (decide +kernel))
    (case ki_P => first | k_is | rfl | (decide +kernel))
    (case nf_PP => first | k_is | rfl | (decide +kernel))
    (case nf_PR => first | k_is | rfl | (decide +kernel))
    (case eq_R => first | k_is | rfl | (decide +kernel))
    (case ha_R => first | k_is | rfl | (decide +kernel))
    (case hm_R => first | k_is | rfl | (decide +kernel))
    (case ki_R => first | k_is | rfl | (decide +kernel))
    (case nf_RP => first | k_is | rfl | (decide +kernel))
    (case nf_RR => first | k_is | rfl | (decide +kernel))
    (case kr_P => first | k_is | rfl | (decide +kernel))
    (case kr_R => first | k_is | rfl | (decide +kernel))
    (case i_eq => first | k_is | rfl | (decide +kernel))
    (case leq => first | k_is | rfl | (decide +kernel))
    (case ceq => first | k_is | rfl | (decide +kernel))
    (case keq => first | k_is | rfl | (decide +kernel))
    (case nn_i => first | k_is | rfl | (decide +kernel))
    (case nn_b => first | k_is | rfl | (decide +kernel))
    (case nn_n => first | k_is | rfl | (decide +kernel))
    (case nn_s => first | k_is | rfl | (decide +kernel))
    (case nn_t => first | k_is | rfl | (decide +kernel))
    (case nn_l => first | k_is | rfl | (decide +kernel))
    (case nt_Pi => first | k_is | rfl | (decide +kernel))
    (case nt_Pb => first | k_is | rfl | (decide +kernel))
    (case nt_Pn => first | k_is | rfl | (decide +kernel))
    (case nt_Ps => first | k_is | rfl | (decide +kernel))
    (case nt_Pt => first | k_is | rfl | (decide +kernel))
    (case nt_Pl => first | k_is | rfl | (decide +kernel))
    (case nt_Ri => first | k_is | rfl | (decide +kernel))
    (case nt_Rb => first | k_is | rfl | (decide +kernel))
    (case nt_Rn => first | k_is | rfl | (decide +kernel))
    (case nt_Rs => first | k_is | rfl | (decide +kernel))
    (case nt_Rt => first | k_is | rfl | (decide +kernel))
    (case nt_Rl => first | k_is | rfl | (decide +kernel))
    (case p_sum => first | k_is | rfl | (decide +kernel))
    (case i_sum => first | k_is | rfl | (decide +kernel))
    (case lMsum => first | k_is | rfl | (decide +kernel))
    (case cMsum => first | k_is | rfl | (decide +kernel))
    (case kMsum => first | k_is | rfl | (decide +kernel))
    (case tyqsum => first | k_is | rfl | (decide +kernel))
    (case fnqsum => first | k_is | rfl | (decide +kernel))
    (case p_isrP => first | k_is | rfl | (decide +kernel))
    (case i_isrP => first | k_is | rfl | (decide +kernel))
    (case lMisrP => first | k_is | rfl | (decide +kernel))
    (case cMisrP => first | k_is | rfl | (decide +kernel))
    (case kMisrP => first | k_is | rfl | (decide +kernel))
    (case p_sumP => first | k_is | rfl | (decide +kernel))
    (case i_sumP => first | k_is | rfl | (decide +kernel))
    (case kMsumP => first | k_is | rfl | (decide +kernel))
    (case sl_sumP => first | k_is | rfl | (decide +kernel))
    (case sc_sumP => first | k_is | rfl | (decide +kernel))
    (case ce_sumP => first | k_is | rfl | (decide +kernel))
    (case co_sumP => first | k_is | rfl | (decide +kernel))
    (case fi_sumP => first | k_is | rfl | (decide +kernel))
    (case fe_sumP => first | k_is | rfl | (decide +kernel))
    (case ks_sumP => first | k_is | rfl | (decide +kernel))
    (case p_isrR => first | k_is | rfl | (decide +kernel))
    (case i_isrR => first | k_is | rfl | (decide +kernel))
    (case lMisrR => first | k_is | rfl | (decide +kernel))
    (case cMisrR => first | k_is | rfl | (decide +kernel))
    (case kMisrR => first | k_is | rfl | (decide +kernel))
    (case p_sumR => first | k_is | rfl | (decide +kernel))
    (case i_sumR => first | k_is | rfl | (decide +kernel))
    (case kMsumR => first | k_is | rfl | (decide +kernel))
    (case sl_sumR => first | k_is | rfl | (decide +kernel))
    (case sc_sumR => first | k_is | rfl | (decide +kernel))
    (case ce_sumR => first | k_is | rfl | (decide +kernel))
    (case co_sumR => first | k_is | rfl | (decide +kernel))
    (case fi_sumR => first | k_is | rfl | (decide +kernel))
    (case fe_sumR => first | k_is | rfl | (decide +kernel))
    (case ks_sumR => first | k_is | rfl | (decide +kernel))

