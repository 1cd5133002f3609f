import PyProof.Rows.All
import Wide.All
import OpenK.AllK
import Wide.FinOn
import KE.KSuper
import HandS.ForMost
import HandS.ForExc
import HandS.Star
import HandS.ClsMeth
import HandS.ExcInit
import HandS.ExcIs
import HandS.ExcField
import HandS.HotCalls
import HandS.Iter
import HandS.Walk
import KE.GoesEnum
import HandS.DictComp
import HandS.IsInst
import KE.KExcIs
import HandS.Zip
import KE.GoesMore
import HandS.Rev
import HandS.TupAny
import HandS.RaiseMore
import HandS.OwnEq
import HandS.TryMany
import HandS.TupMul
import HandS.Style
import PyProof.Rows.SeqMore
import HandS.FStr
import HandS.TupSets
import HandS.DictTup
import HandS.TupLen
import HandS.Flow
import HandS.Property
import HandS.Conv
import HandS.Codes
import HandS.SortOrd
import HandS.Small
import PyProof.Rows.Range3
import OpenK.KOps
import PyProof.InstEq
import PyProof.EqKinds
import HandS.TupLe
import HandS.Defaults
import HandS.CallSlots
import KE.KDictZip
import HandS.ExcValue
import HandS.MakeKwOnly
import PySem.Challenge.RW_withincall_k18_boxes
set_option Elab.async false
set_option linter.all false
set_option maxRecDepth 100000
set_option maxHeartbeats 4000000
namespace WC
open PySem PySem.Spec PyProof.Rows L2

/-! cells of a def that closes over the class -/
theorem cf_app : ∀ (names : List (Str × NameKind)) (n : Nat) (acc : List (Str × Addr)), cellsFrom n names acc = cellsFrom n names [] ++ acc
  | [], _, _ => rfl
  | (x, k) :: r, n, acc => by
    unfold cellsFrom
    by_cases hk : (k == NameKind.cell) = true
    · simp only [hk, if_true]
      rw [cf_app r (n + 1) ((x, n) :: acc), cf_app r (n + 1) [(x, n)], List.append_assoc]
      rfl
    · simp only [hk, if_false]
      exact cf_app r n acc
theorem cf_mem : ∀ (names : List (Str × NameKind)) (n : Nat) (x : Str) (c : Addr), (x, c) ∈ cellsFrom n names [] → (x, NameKind.cell) ∈ names
  | [], _, _, _, h => by cases h
  | (y, k) :: r, n, x, c, h => by
    unfold cellsFrom at h
    by_cases hk : (k == NameKind.cell) = true
    · simp only [hk, if_true] at h
      rw [cf_app, List.mem_append] at h
      rcases h with h | h
      · exact List.mem_cons_of_mem _ (cf_mem r _ x c h)
      · have e := List.mem_singleton.mp h
        cases e
        have e2 : k = NameKind.cell := by cases k <;> first | rfl | cases hk
        rw [e2]
        exact List.mem_cons_self
    · simp only [hk, if_false] at h
      exact List.mem_cons_of_mem _ (cf_mem r _ x c h)
theorem store_same {e1 e2 : Env} {x : Str} {v : Value} (h1 : e1.scope = e2.scope) (h2 : e1.locals = e2.locals) (h3 : e1.globals = e2.globals) (h4 : e1.cells.lookup x = e2.cells.lookup x) : storeName e1 x v = storeName e2 x v := by
  obtain ⟨s1, l1, g1, c1⟩ := e1
  obtain ⟨s2, l2, g2, c2⟩ := e2
  dsimp only at h1 h2 h3 h4
  subst h1 h2 h3
  unfold storeName PySem.cellOf
  simp only [h4]
  rfl
theorem forIn_same {β : Type} {α : Type} {f g : α → β → Sem (ForInStep β)} : ∀ (l : List α) (b : β), (∀ a ∈ l, ∀ b, f a b = g a b) → forIn l b f = forIn l b g
  | [], _, _ => rfl
  | a :: l, b, h => by
    rw [List.forIn_cons, List.forIn_cons, h a List.mem_cons_self]
    congr 1
    funext r
    cases r with
    | done b => rfl
    | yield b => exact forIn_same l b fun c hc => h c (List.mem_cons_of_mem _ hc)
end WC

set_option maxHeartbeats 4000000
namespace WC
open PySem PySem.Spec PyProof.Rows L2
section
variable {M : Model} {A : Around} {E : Value → Shared → Prop} {s : Shared}
theorem env_made {scope : Scope} {gl cc : Addr} {binds : List (Str × Value)} {qual : Str} {func : Option Addr} {code : Value} {blt : Addr} {Q : Env → Shared → Prop} (hk : scope.kind = .function)
    (hb : ∀ x ∈ binds, x.1 ≠ ("__class__" : Str) ∧ (scope.names.lookup x.1 = some .local ∨ (scope.names.lookup x.1 = some .cell ∧ ((cellsFrom (s.heap.objs.size + 1) scope.names []).lookup x.1).isSome = true)))
    (hQ : ∀ s', InCallC s s.heap.objs.size (bindL (fun x => scope.names.lookup x) binds fun _ => none) (cellsFrom (s.heap.objs.size + 1) scope.names []) (bindC (fun x => scope.names.lookup x) binds fun _ => none) s' →
      Q (newEnv scope s.heap.objs.size gl (cellsFrom (s.heap.objs.size + 1) scope.names [] ++ [(("__class__" : Str), cc)]) qual func code none blt) s') :
    wpAny M A (newFunctionEnv scope gl [(("__class__" : Str), cc)] binds qual func code none blt) Q E s := by
  have hz : ∀ o : Obj, ({ s with heap := s.heap.push o } : Shared).heap.objs.size = s.heap.objs.size + 1 := fun o => Heap.size_push ..
  have ok := cellsFrom_ok scope.names (s.heap.push { cls := .type "frame", data := .dict #[] }) (s.heap.objs.size + 1) [] ⟨fun _ _ z => (nomatch z), .nil⟩ (by rw [Heap.size_push]; exact Nat.le_refl _)
  rw [Heap.size_push] at ok
  simp only [newFunctionEnv, Option.isSome_none, Bool.false_eq_true, if_false]
  refine wpAny_bind <| wpAny_alloc ?_
  refine wpAny_bind <| wpAny_layCells _ (fun name kind cells => by cases e : kind == NameKind.cell <;> simp [e]) _ _ _ _ ?_
  rw [hz, cf_app]
  have st : ∀ x ∈ binds, ∀ u : PUnit, (do storeName (newEnv scope s.heap.objs.size gl (cellsFrom (s.heap.objs.size + 1) scope.names [] ++ [(("__class__" : Str), cc)]) qual func code none blt) x.1 x.2; pure (ForInStep.yield PUnit.unit) : Sem _) =
      (do storeName (newEnv scope s.heap.objs.size gl (cellsFrom (s.heap.objs.size + 1) scope.names []) qual func code none blt) x.1 x.2; pure (ForInStep.yield PUnit.unit)) := fun x hx _ => by
    have ne := (hb x hx).1
    have hl : List.lookup x.1 [(("__class__" : Str), cc)] = none := by
      have q : (x.1 == ("__class__" : Str)) = false := by simpa using ne
      simp [List.lookup, q]
    have h := store_same (v := x.2) (e1 := newEnv scope s.heap.objs.size gl (cellsFrom (s.heap.objs.size + 1) scope.names [] ++ [(("__class__" : Str), cc)]) qual func code none blt) (e2 := newEnv scope s.heap.objs.size gl (cellsFrom (s.heap.objs.size + 1) scope.names []) qual func code none blt) rfl rfl rfl (by
      show List.lookup x.1 (cellsFrom (s.heap.objs.size + 1) scope.names [] ++ [(("__class__" : Str), cc)]) = List.lookup x.1 (cellsFrom (s.heap.objs.size + 1) scope.names [])
      rw [List.lookup_append, hl]
      cases List.lookup x.1 (cellsFrom (s.heap.objs.size + 1) scope.names []) <;> rfl)
    rw [h]
  refine wpAny_bind ?_
  refine Eq.mpr (congrArg (fun t => wpAny M A t _ E _) (forIn_same binds PUnit.unit fun x hx b => st x hx b)) ?_
  refine wpAny_bindParams (s₀ := s) (env := newEnv scope s.heap.objs.size gl (cellsFrom (s.heap.objs.size + 1) scope.names []) qual func code none blt) _ (fun _ _ _ => rfl) hk binds (fun _ => none) (fun _ => none) _ _
    ⟨⟨⟨_, _, rfl⟩, (Heap.Ns.new s.heap (.type "frame")).keeps (pushCells_keeps _ _), fun b o e => pushCells_keeps _ _ b o (Heap.get?_push_of_some _ e), Nat.le_refl _⟩, fun n c hc => (ok.empty n c (mem_of_lookup hc)).1, ok.apart, fun n c hm => (ok.empty n c hm).2⟩
    (fun x hx => (hb x hx).2) fun s' x => wpAny_pure (hQ s' x)
end
end WC

set_option maxHeartbeats 4000000
namespace WC
open PySem PySem.Spec PyProof.Rows L2
abbrev cls_ : Str := "__class__"
/-- names of a def that says super(): the parameters first; one captured name, the class -/
structure CScope (N ps : List Str) (sc : Scope) : Prop where
  knd : sc.kind = .function
  coR : sc.isCoroutine = false
  gnr : sc.isGenerator = false
  nod : N.Nodup
  pfx : N.take ps.length = ps
  prm : ∀ x ∈ ps, x ≠ cls_ ∧ (sc.names.lookup x = some .local ∨ sc.names.lookup x = some .cell)
  fre : ∀ y ∈ sc.names, y.2 = .free → y.1 = cls_
  frc : sc.names.lookup cls_ = some .free
  nin : cls_ ∉ N
  once : ∀ y ∈ sc.names, y.1 = cls_ → y.2 = .free
abbrev envS (qual : Str) (sc : Scope) (L f : Addr) (cd : Value) (cc : Addr) : Env := PySem.W.envX qual sc L f cd (cellsFrom (L + 1) sc.names [] ++ [(cls_, cc)])
def cxS (CX : CXT) (P : Program) (w : World) (K : PySem.W.Frag) (mg : Str → Option Value) (base : Heap) (N : List Str) (qual : Str) (sc : Scope) (f : Addr) (cd : Value) (cc : Addr) (A : Around) (outer : List Env) (s : Shared) (H : Hp) (E : XK) : Cx :=
  { prog := P, w := w, K := K, mg := mg, base := base, A := A.deeper (envS qual sc s.heap.objs.size f cd cc), N := N, s_0 := s, H_0 := H, env := envS qual sc s.heap.objs.size f cd cc, outer := outer,
    stack := envS qual sc s.heap.objs.size f cd cc :: outer, ex := [], calm := true, fn := fun y => decide (y ≠ cls_), pn := [],
    xe := fun e s' => wpAny (model P w) (A.deeper (envS qual sc s.heap.objs.size f cd cc)) (leaving (envS qual sc s.heap.objs.size f cd cc) e) (fun _ s2 => CX outer H s E e s2) (fun e2 s2 => CX outer H s E e2 s2) s' }
theorem look_app {l : List (Str × Addr)} {x : Str} {cc c : Addr} (h : (l ++ [(cls_, cc)]).lookup x = some c) : l.lookup x = some c ∨ (x = cls_ ∧ c = cc) := by
  rw [List.lookup_append] at h
  cases e : l.lookup x with
  | some d => rw [e] at h; exact .inl h
  | none =>
    rw [e] at h
    have h : List.lookup x [(cls_, cc)] = some c := h
    by_cases q : x = cls_
    · subst q
      have z : List.lookup cls_ [(cls_, cc)] = some cc := by simp [List.lookup]
      rw [z] at h
      exact .inr ⟨rfl, (Option.some.inj h).symm⟩
    · have b : (x == cls_) = false := by simpa using q
      have z : List.lookup x [(cls_, cc)] = none := by simp [List.lookup, b]
      rw [z] at h
      cases h
section
variable {CX : CXT} {P : Program} {w : World} {K : PySem.W.Frag} {mg : Str → Option Value} {base : Heap} {N ps : List Str} {qual : Str} {sc : Scope} {f cc D : Addr} {cd : Value} {A : Around} {outer : List Env} {s s1 : Shared} {H : Hp} {E : XK} {us : List Value} {vs : List V}
theorem inv_startS {kc : Value} {dc : Option Addr} {lc : Array (Option Value)} (S : CScope N ps sc) (hd : A.handled = none) (e0 : Env0 P w K mg base A outer s H) (hl : vs.length = ps.length) (r : Vals vs us) (hcc : K.lookup cc = some ⟨kc, dc, .cell (some (.ref D)), lc⟩)
    (x : InCallC s s.heap.objs.size (bindL (fun x => sc.names.lookup x) (ps.zip us) fun _ => none) (cellsFrom (s.heap.objs.size + 1) sc.names []) (bindC (fun x => sc.names.lookup x) (ps.zip us) fun _ => none) s1) :
    Inv (cxS CX P w K mg base N qual sc f cd cc A outer s H E) [] (start N vs) H s1 := by
  have hN : ps.length ≤ N.length := by
    have z := congrArg List.length S.pfx
    rw [List.length_take] at z
    omega
  obtain ⟨h1, tk, rfl, hk⟩ := x.done
  have bcc : base.get? cc = some ⟨kc, dc, .cell (some (.ref D)), lc⟩ := e0.mod.kin _ _ hcc
  have scc := e0.bs _ _ bcc
  have ltc : cc < s.heap.objs.size := Heap.lt_size scc.1
  have nm : ∀ y c, (cellsFrom (s.heap.objs.size + 1) sc.names []).lookup y = some c → y ≠ cls_ ∧ s.heap.objs.size < c := fun y c h => by
    have m := mem_of_lookup h
    refine ⟨fun z => ?_, x.above y c m⟩
    have z2 := S.once _ (cf_mem _ _ _ _ m) z
    cases z2
  have lkc : (cellsFrom (s.heap.objs.size + 1) sc.names [] ++ [(cls_, cc)]).lookup cls_ = some cc := by
    rw [List.lookup_append]
    cases e : (cellsFrom (s.heap.objs.size + 1) sc.names []).lookup cls_ with
    | some c => exact absurd rfl (nm _ _ e).1
    | none => show List.lookup cls_ [(cls_, cc)] = some cc; simp [List.lookup]
  have lko : ∀ y c, (cellsFrom (s.heap.objs.size + 1) sc.names []).lookup y = some c → (cellsFrom (s.heap.objs.size + 1) sc.names [] ++ [(cls_, cc)]).lookup y = some c := fun y c e => by
    rw [List.lookup_append, e]
    rfl
  have nx : ∀ b : Addr, b ∉ (cxS CX P w K mg base N qual sc f cd cc A outer s H E).ex := fun b z => absurd (show b ∈ ([] : List Addr) from z) (by simp)
  refine
    { ok :=
        { mod := e0.mod, kind := S.knd, glob := rfl, blt := rfl, above := Nat.le_refl _,
          inj := fun y z c g1 g2 => ?_, has := fun y hy => ?_, cab := fun y c g1 g2 => ?_, hd := fun _ => hd, frames := Around.frames_deeper e0.frames, stk := .inr ⟨rfl, rfl⟩, exf := fun b z => absurd z (nx b), bs := e0.bs, bsz := e0.bsz,
          noex := fun b _ _ => nx b, exfs := fun b z => absurd z (nx b), funs := e0.funs, frf := e0.frf },
      os := rfl, bare := e0.bare, base := Un.kept hk, loc := ⟨_, x.toInCall.ns, fun i y v g1 g2 g3 => ?_⟩, cell := fun y c g => ?_, free := e0.hok.fresh (Nat.le_refl _), freeC := fun y c g => ?_,
      pin := fun p hp => absurd (show p ∈ ([] : List (Addr × Obj)) from hp) (by simp), hok := e0.hok.kept hk, len := ?_ }
  · rcases look_app g1 with a | ⟨a, a2⟩
    · rcases look_app g2 with b | ⟨b, b2⟩
      · exact name_of_addr x.apart (mem_of_lookup a) (mem_of_lookup b)
      · exact absurd (Nat.lt_trans ((b2 : c = cc) ▸ (nm _ _ a).2) ltc) (Nat.lt_irrefl _)
    · rcases look_app g2 with b | ⟨b, b2⟩
      · exact absurd (Nat.lt_trans ((a2 : c = cc) ▸ (nm _ _ b).2) ltc) (Nat.lt_irrefl _)
      · rw [a, b]
  · have hy : sc.names.lookup y = some .cell ∨ sc.names.lookup y = some .free := hy
    rcases hy with hy | hy
    · obtain ⟨c, hc⟩ := cell_has (n := s.heap.objs.size + 1) hy
      exact ⟨c, lko _ _ hc⟩
    · have z := S.fre _ (mem_of_lookup hy) rfl
      have z : y = cls_ := z
      rw [z]
      exact ⟨cc, lkc⟩
  · have g1 : y ≠ cls_ := of_decide_eq_true g1
    rcases look_app g2 with a | ⟨a, _⟩
    · exact Nat.le_of_lt (nm _ _ a).2
    · exact absurd a g1
  · have hi : i < vs.length := by
      unfold L2.start at g2
      by_cases hi : i < vs.length
      · exact hi
      · rw [List.getElem?_append_right (by simpa using hi), List.getElem?_replicate] at g2
        split at g2 <;> cases g2
    have ha : vs[i]? = some v := by
      unfold L2.start at g2
      rw [List.getElem?_append_left (by simpa using hi), List.getElem?_map] at g2
      cases e : vs[i]? with
      | none => rw [e] at g2; cases g2
      | some a => rw [e] at g2; cases g2; rfl
    obtain ⟨u, hu, rv⟩ := r.get ha
    have hp : ps[i]? = some y := by
      rw [← S.pfx, List.getElem?_take_of_lt (by omega)]
      exact g1
    have ndP : ps.Nodup := by
      rw [← S.pfx]
      exact S.nod.sublist (List.take_sublist _ _)
    refine ⟨u, rv, ?_⟩
    rcases (S.prm y (List.mem_of_getElem? hp)).2 with k | k
    · exact .inl ⟨k, bindL_get ndP hp hu k⟩
    · obtain ⟨c, e⟩ := cell_has (n := s.heap.objs.size + 1) k
      refine .inr ⟨.inl k, c, lko _ _ e, ?_⟩
      have q := x.cell y c e
      rw [bindC_get ndP hp hu (by rw [k]; decide)] at q
      exact q
  · rcases look_app g with a | ⟨_, a⟩
    · exact ⟨_, x.cell _ _ a⟩
    · subst a
      exact ⟨_, _, hk _ _ scc.1, rfl⟩
  · rcases look_app g with a | ⟨_, a⟩
    · exact e0.hok.fresh (Nat.le_of_lt (nm _ _ a).2)
    · subst a
      exact scc.2
  · unfold L2.start
    show _ = N.length
    rw [List.length_append, List.length_map, List.length_replicate]
    omega
end
end WC

set_option maxHeartbeats 4000000
namespace WC
open PySem PySem.Spec PyProof.Rows L2
/-- a block, run in the activation c -/
structure PX (X : Cx) (c : Code) (st : List Stmt) (t : TS) : Prop where
  run : ∀ (pins : List (Addr × Obj)) (s : Shared) (σ : L2.St) (H : Hp) (D : Ends), Inv X pins σ H s → t D σ H → PySem.wpAt (model X.prog X.w) X.A c (execs st X.env) (SP X pins D) X.xe s
section
variable {X : Cx} {c : Code} {st : Stmt} {rest : List Stmt} {t u : TS}
theorem px_of {st : List Stmt} (h : PSs X st t) : PX X c st t := ⟨fun pins s σ H D I z => wpAt_of_wpAny (h.run pins s σ H D I z)⟩
theorem px_cons (h1 : PS X st t) (h2 : PX X c rest u) : PX X c (st :: rest) (tSeq t u) := by
  refine ⟨fun pins s σ H D I h => ks_wpAt_execs_cons (wpAt_of_wpAny (thn (h1.run pins s σ H { D with nx := u D } I h) fun f s1 q => ?_))⟩
  cases f with
  | next =>
    obtain ⟨σ1, H1, I1, q1⟩ := q
    exact h2.run pins s1 σ1 H1 D I1 q1
  | ret v => exact q
  | brk => exact q
  | cont => exact q
/-- what the written part says for super() in a method of the class at D, called upon an instance of the class at C; g: the def that is met -/
structure SupTxt (P : Program) (K : PySem.W.Frag) (mg : Str → Option Value) (D C g : Addr) (m : Str) : Prop where
  dCls : ∃ cdD, PySem.W.clsIn K D = some cdD
  sub : PySem.W.mroIn K C (.ref D) = some true
  sup : mg "super" = none
  nat : (m == cls_) = false
  top : (P.main.scope.names.lookup ("super" : Str)).isSome = false
  opq : PySem.W.nsIn K cStatics "thirdparty.any" = some none
  met : PySem.W.ks_superIn K C D m = some (some (.ref g))
  typ : PySem.W.typeIn K (.ref g) = some (.type "function")
  fni : PySem.W.fnIn K g = true
/-- what it says of the def that says so: where it stands, its cell, its code -/
structure SelfTxt (P : Program) (K : PySem.W.Frag) (env : Env) (D : Addr) (slf : Str) : Prop where
  kS : env.kindOf "super" = some .globalImplicit
  kC : env.kindOf cls_ = some .free
  kL : env.kindOf slf = some .local
  lc : ∃ cc k d l, env.cells.lookup cls_ = some cc ∧ K.lookup cc = some ⟨k, d, .cell (some (.ref D)), l⟩
  fn : ∃ f oc od fd sl ar, env.func = some f ∧ K.lookup f = some ⟨oc, od, .func fd, sl⟩ ∧ (fd.params.posonlyargs ++ fd.params.args).head? = some ar ∧ ar.arg = slf
  cod : ∃ c oc od vs sl file t, env.code = .ref c ∧ K.lookup c = some ⟨oc, od, .fields vs, sl⟩ ∧ vs[2]? = some (.str file t) ∧ ((P.main.file : Str) == file) = true
/-- super().m(e, ..) -/
def tSup (C : Addr) (i : Nat) (sp : Sp) (E : XK) (t : TA) : TE := fun σ H Q => ∃ x dx fs, σ[i]? = some (some (.ref x)) ∧ H x = some (.ins C dx fs) ∧ t σ H fun vs H1 => sp (.ref x :: vs) H1 Q E
section
variable {CX : CXT} {k i : Nat} {C D g : Addr} {sp : Sp} {E : XK} {e : Expr} {es : List Expr} {m slf : Str} {p0 p1 p2 p3 : Pos} {ta : TA} {body : List Stmt} {pl : Sem Bool}
theorem at_sup {pins : List (Addr × Obj)} {s : Shared} {σ : L2.St} {H : Hp} {Q : VK} (T : SupTxt X.prog X.K X.mg D C g m) (Z : SelfTxt X.prog X.K X.env D slf) (F : FnR X.prog X.w X.K X.mg X.base CX k g sp) (hr : Room k X.A) (hx : Passes CX X E) (hN : X.N[i]? = some slf) (ha : PA X (e :: es) ta)
    (he : eval (.Call (.Attribute (.Call (.Name "super" p0) [] [] p1) m p2) (e :: es) [] p3) X.env = (do
      let ov ← attributeBase (.Call (.Name "super" p0) [] [] p1) m X.env (eval (.Call (.Name "super" p0) [] [] p1) X.env)
      standAt p2.atName
      let (f, first) ← holding [ov] (getMethod ov m pl)
      callWith p3 f first (backTo p3 (starEach (e :: es) X.env)) [])) 
    (hst : starEach (e :: es) X.env = (false, eval e X.env) :: starEach es X.env) (hpl : (backTo p3 (starEach es X.env)).any (·.1) = false)
    (I : Inv X pins σ H s) (h : tSup C i sp E ta σ H Q) : PySem.wpAt (model X.prog X.w) X.A (.func body X.env) (eval (.Call (.Attribute (.Call (.Name "super" p0) [] [] p1) m p2) (e :: es) [] p3) X.env) (EP X pins σ Q) X.xe s := by
  obtain ⟨x, dx, fs, hs, hH, ht⟩ := h
  obtain ⟨f, of1, of2, fd, of3, ar, ef, kf, hd, har⟩ := Z.fn
  obtain ⟨c, oc1, oc2, vs, oc3, file, tf, ec, kc, hvs, hfile⟩ := Z.cod
  obtain ⟨cc, k1, k2, k3, lcc, kcc⟩ := Z.lc
  obtain ⟨cdD, hD⟩ := T.dCls
  have K1 := I.kIn
  obtain ⟨oD, hD1, hD2⟩ : ∃ oD, s.heap.get? D = some oD ∧ oD.data = .cls cdD := by
    unfold PySem.W.clsIn at hD
    split at hD
    · rename_i a b cd' d ho
      cases hD
      exact ⟨_, K1 _ _ ho, rfl⟩
    · cases hD
  obtain ⟨_, O, _, _, _⟩ := ins_get I.hok hH
  have hob := O.1
  refine ks_wpAt_MethodCall ?_ he
  refine ks_wpAt_super_base Z.kS Z.kC T.nat ef (K1 _ _ kf) rfl hd ec (K1 _ _ kc) rfl hvs hfile T.top ?_
  obtain ⟨mb, hb1, hb2⟩ := I.mod.blt
  refine PySem.W.ks_loadName_global I.ok.kind Z.kS (Calls.loadGlobal_builtin (by rw [I.ok.glob]; exact I.mod.glob.keeps I.bk) T.sup (by rw [I.ok.blt]; exact hb1.keeps I.bk) ((hb2 _ (by decide)).trans (show bootBuiltins "super" = some (.type "super") by decide +kernel)) ⟨rfl, ?_⟩)
  refine wpAny_loadName_free I.ok.kind Z.kC lcc ⟨_, K1 _ _ kcc, rfl⟩ ?_
  obtain ⟨mL, hn, hl⟩ := id I.loc
  obtain ⟨u, ru, lu⟩ := hl i slf _ hN hs (.inl Z.kL)
  obtain rfl : u = Value.ref x := ru
  have hm : mL slf = some (.ref x) := by
    rcases lu with ⟨_, q⟩ | ⟨q, _⟩
    · exact q
    · rw [Z.kL] at q
      rcases q with q | q <;> cases q
  rw [har]
  refine wpAny_loadName_local I.ok.kind Z.kL hn hm ?_
  refine ks_wpAny_isType_cls hD1 hD2 ⟨rfl, ?_⟩
  refine ks_wpAny_call_super hD1 hD2 hob rfl (fun c e => by cases e) (PySem.W.looks_mroIn K1 T.sub) fun h1 e1 k1 => ?_
  have I1 : Inv X pins σ H { s with heap := h1, toks := s.toks } := I.kept (t' := s.toks) k1
  have K2 := I1.kIn
  have K2 : X.K.In h1 := K2
  cases hC : PySem.W.clsIn X.K C with
  | none =>
    have z := T.met
    unfold PySem.W.ks_superIn at z
    rw [hC] at z
    cases z
  | some cd =>
    have z := T.met
    unfold PySem.W.ks_superIn at z
    rw [hC] at z
    obtain ⟨og, hog, hogc⟩ : ∃ og, h1.get? g = some og ∧ og.cls = .type "function" := by
      have y : (X.K.lookup g).map (·.cls) = some (.type "function") := T.typ
      cases q : X.K.lookup g with
      | none => rw [q] at y; cases y
      | some og =>
        rw [q] at y
        exact ⟨og, K2 _ _ q, Option.some.inj y⟩
    have hxC : x ≠ C := by
      rintro rfl
      unfold PySem.W.clsIn at hC
      split at hC
      · rename_i a b cd' d ho
        have e := K1 _ _ ho
        rw [hob] at e
        cases e
      · cases hC
    refine ks_wpAny_getMethod_super e1 (PySem.W.looks_opaque K2 T.opq) (l₀ := cd.mro) (fun A Q E s k q => wpAny_bind ((PySem.W.looks_clsIn K2 hC) A _ E s k (wpAny_pure q))) rfl K2 z hog hogc hxC T.nat ?_
    have I2 := ClX.met_new (C := x) (g := g) I1
    refine ClX.callwith_cm (C := x) (g := g) I2 (ClX.base_none I1 (Nat.le_refl _)) T.fni (thn (ha.run p3 _ _ σ H _ I2 ht) fun us s3 ⟨vs3, H3, I3, rv, q3⟩ => ⟨⟨ClX.pin_at I3, I3.kIn⟩, ?_⟩) hst hpl
    exact ClX.run_cm F hr hx I3 rv q3
end
end
end WC

set_option maxHeartbeats 4000000
namespace WC
open PySem PySem.Spec PyProof.Rows L2
section
variable {X : Cx} {CX : CXT} {k i : Nat} {C D g : Addr} {sp : Sp} {E : XK} {e : Expr} {es : List Expr} {m slf : Str} {p0 p1 p2 p3 p4 : Pos} {ta : TA} {body rest : List Stmt} {pl : Sem Bool} {u : TS}
/-- super().m(e, ..) as a statement -/
theorem px_sup (T : SupTxt X.prog X.K X.mg D C g m) (Z : SelfTxt X.prog X.K X.env D slf) (F : FnR X.prog X.w X.K X.mg X.base CX k g sp) (hr : Room k X.A) (hx : Passes CX X E) (hN : X.N[i]? = some slf) (ha : PA X (e :: es) ta) (hrest : PX X (.func body X.env) rest u)
    (he : eval (.Call (.Attribute (.Call (.Name "super" p0) [] [] p1) m p2) (e :: es) [] p3) X.env = (do
      let ov ← attributeBase (.Call (.Name "super" p0) [] [] p1) m X.env (eval (.Call (.Name "super" p0) [] [] p1) X.env)
      standAt p2.atName
      let (f, first) ← holding [ov] (getMethod ov m pl)
      callWith p3 f first (backTo p3 (starEach (e :: es) X.env)) []) := by rfl)
    (hst : starEach (e :: es) X.env = (false, eval e X.env) :: starEach es X.env := by rfl) (hpl : (backTo p3 (starEach es X.env)).any (·.1) = false := by rfl)
    (hs : swapsWith (.Call (.Attribute (.Call (.Name "super" p0) [] [] p1) m p2) (e :: es) [] p3) none p4.line X.env = pure false := by rfl) :
    PX X (.func body X.env) (.Expr (.Call (.Attribute (.Call (.Name "super" p0) [] [] p1) m p2) (e :: es) [] p3) p4 :: rest) (tSeq (tDrop (tSup C i sp E ta)) u) := by
  refine ⟨fun pins s σ H D0 I h => ks_wpAt_execs_cons (ks_wpAt_Expr_any (PySem.wpAt_mono (at_sup T Z F hr hx hN ha he hst hpl I h) (fun v s1 q => ?_) fun _ _ q => q) I.quiet hs)⟩
  obtain ⟨v1, H1, I1, r1, q1⟩ := q
  exact hrest.run pins s1 σ H1 D0 I1 q1
end
section
variable {CX : CXT} {P : Program} {w : World} {K : PySem.W.Frag} {mg : Str → Option Value} {base : Heap} {k : Nat} {f cc D : Addr} {name qual : Str} {params : Arguments} {body : List Stmt} {sc : Scope} {dV kV doc pm cdv ct oc kc : Value} {an od dc : Option Addr}
  {osl lc : Array (Option Value)} {N ps : List Str} {sp : Sp}
theorem run_bndS {A : Around} {outer : List Env} {s : Shared} {H : Hp} {args : Args} {Q : VK} {E : XK} {G : List V → Hp → Prop} (lk : K.lookup f = some ⟨oc, od, .func (PySem.W.fnX name qual params body sc [(cls_, cc)] dV kV doc pm an cdv ct), osl⟩) (hcd : PySem.W.codeIn K cdv qual = true)
    (hcc : K.lookup cc = some ⟨kc, dc, .cell (some (.ref D)), lc⟩) (S : CScope N ps sc) (hr : Room (k + 1) A) (e0 : Env0 P w K mg base A outer s H)
    (hb : StX.Bnd CX P w K mg base (PySem.W.fnX name qual params body sc [(cls_, cc)] dV kV doc pm an cdv ct) args ps A outer s H E G)
    (hbody : ∀ (s2 : Shared) (H2 : Hp) (vs : List V), G vs H2 → Room k (A.deeper (envS qual sc s2.heap.objs.size f cdv cc)) →
      ∃ t, PX (cxS CX P w K mg base N qual sc f cdv cc A outer s2 H2 E) (.func body (envS qual sc s2.heap.objs.size f cdv cc)) body t ∧ t { nx := fun _ H' => Q .non H', rt := Q } (L2.start N vs) H2) :
    codeAny (model P w) A (.call (.ref f) args) (CR CX outer P w H s Q E) s := by
  have KX : K.In s.heap := e0.mod.kin.keeps fun b o e => (e0.bs b o e).1
  refine codeAny_call_function hr.depth (KX _ _ lk) rfl S.coR S.gnr rfl (PySem.W.codeRec_of KX hcd) ?_
  refine hb _ _ _ fun s2 H2 vs us e2 un ho hx r hl g => ?_
  have lim : s2.heap.NoLimit := e0.mod.nolimit.keeps fun b o e => (e2.bs b o e).1
  refine env_made S.knd (fun y hy => ⟨(S.prm _ (List.of_mem_zip hy).1).1, ?_⟩) fun s1 x => ⟨lim.keeps x.toInCall.keep, ks_codeAny_funcAt ?_⟩
  · rcases (S.prm _ (List.of_mem_zip hy).1).2 with q | q
    · exact .inl q
    · exact .inr ⟨q, PySem.W.cellsFrom_some _ _ _ (.inl q)⟩
  obtain ⟨t, ht, hq⟩ := hbody s2 H2 vs g (hr.deeper _)
  have I : Inv (cxS CX P w K mg base N qual sc f cdv cc A outer s2 H2 E) [] (L2.start N vs) H2 s1 := inv_startS S hr.hd e2 hl r hcc x
  refine PySem.wpAt_mono (ht.run [] s1 _ _ _ I hq) (fun fl s3 hs => ?_) fun e s3 hs => ?_
  · have fin : ∀ {σ3 : L2.St} {H3 : Hp} {v3 : V} {u3 : Value}, Inv (cxS CX P w K mg base N qual sc f cdv cc A outer s2 H2 E) [] σ3 H3 s3 → RelV v3 u3 → Q v3 H3 → CE outer P w H s Q u3 s3 :=
      fun {σ3 H3 v3 u3} J rv q => ⟨v3, H3, J.os.trans ho, J.bare, un.trans J.base, J.hok, rv, q⟩
    cases fl with
    | ret u =>
      obtain ⟨v3, σ3, H3, J, rv, q⟩ := hs
      exact fin J rv q
    | next =>
      obtain ⟨σ3, H3, J, q⟩ := hs
      exact fin (v3 := V.non) (u3 := Value.none) J rfl q
    | brk =>
      obtain ⟨_, _, _, q⟩ := hs
      exact q.elim
    | cont =>
      obtain ⟨_, _, _, q⟩ := hs
      exact q.elim
  · exact wpAny_mono hs (fun _ s4 z => hx e s4 z) fun e2 s4 z => hx e2 s4 z
end
end WC

set_option maxHeartbeats 4000000
namespace WC
open PySem PySem.Spec PyProof.Rows L2
/-- def f(a, .., *pv, k = d, ..): how it binds positional values, the keywords left out (kv: the values of the keywords ks) -/
def BindStar (K : PySem.W.Frag) (fd : FuncData) (ps ks : List Str) (kv : List Value) (pv : Str) : Prop :=
  ∀ (u1 u2 : List Value), u1.length = ps.length → ∀ (M : Model) (A : Around) (Q : List (Str × Value) → Shared → Prop) (E : Value → Shared → Prop) (s : Shared), K.In s.heap →
    wpAny M A (newTuple u2 >>= fun t => pure ((ps ++ ks).zip (u1 ++ kv) ++ [(pv, t)])) Q E s → wpAny M A (bindArgs fd ⟨u1 ++ u2, []⟩) Q E s
theorem BindStar.of_eq {K : PySem.W.Frag} {fd : FuncData} {ps : List Str} {pv : Str} (h : ∀ u1 u2 : List Value, u1.length = ps.length → bindArgs fd ⟨u1 ++ u2, []⟩ = (newTuple u2 >>= fun t => pure (ps.zip u1 ++ [(pv, t)]))) : BindStar K fd ps [] [] pv := fun u1 u2 hl M A Q E s _ z => by
  rw [h u1 u2 hl]
  rw [List.append_nil, List.append_nil] at z
  exact z
/-- one keyword -/
theorem BindStar.of_kw {K : PySem.W.Frag} {fd : FuncData} {ps : List Str} {k1 pv : Str} {v : Value} {D : Addr} (hD : PySem.W.nsIn K D k1 = some (some v))
    (h : ∀ u1 u2 : List Value, u1.length = ps.length → ∃ (β γ : Type) (f1 : Option Value → Sem β) (f2 : β → Sem γ) (f3 : γ → Sem (List (Str × Value))) (a : β), bindArgs fd ⟨u1 ++ u2, []⟩ = ((nsGet D k1 >>= f1) >>= f2) >>= f3 ∧ f1 (some v) = pure a ∧
      (f2 a >>= f3) = (newTuple u2 >>= fun t => pure ((ps ++ [k1]).zip (u1 ++ [v]) ++ [(pv, t)]))) : BindStar K fd ps [k1] [v] pv := fun u1 u2 hl M A Q E s X z => by
  obtain ⟨β, γ, f1, f2, f3, a, e1, e2, e3⟩ := h u1 u2 hl
  rw [e1, bind_assoc, bind_assoc]
  refine wpAny_bind ((PySem.W.looks_nsIn X hD).here ?_)
  rw [e2, pure_bind, e3]
  exact z
section
variable {CX : CXT} {P : Program} {w : World} {K : PySem.W.Frag} {mg : Str → Option Value} {base : Heap} {k : Nat} {f cc D : Addr} {name qual : Str} {params : Arguments} {body : List Stmt} {sc : Scope} {dV kV doc pm cdv ct oc kc : Value} {an od dc : Option Addr}
  {osl lc : Array (Option Value)} {N ps ks : List Str} {sp : Sp} {pv : Str} {kvV : List V} {kv : List Value}
theorem bnd_star {fd : FuncData} {A : Around} {outer : List Env} {s : Shared} {H : Hp} {E : XK} {ws rest : List V} {us : List Value} (hCX : StX.CXUp CX) (hb : BindStar K fd ps ks kv pv) (hkv : Vals kvV kv) (hks : kv.length = ks.length) (e0 : Env0 P w K mg base A outer s H)
    (r : Vals (ws ++ rest) us) (hl : ws.length = ps.length) (hz : rest.length ≤ sizeLine) :
    StX.Bnd CX P w K mg base fd ⟨us, []⟩ (ps ++ ks ++ [pv]) A outer s H E (fun xs H2 => ∃ p, H p = none ∧ xs = ws ++ kvV ++ [V.ref p] ∧ H2 = upd H p (.tup rest)) := by
  intro A2 Ex Q2 h
  obtain ⟨u1, u2, eu, r1, r2⟩ := StX.vals_split r
  subst eu
  have hl1 : u1.length = ps.length := r1.length ▸ hl
  have hl2 : u2.length ≤ sizeLine := r2.length ▸ hz
  have hn : H s.heap.objs.size = none := e0.hok.fresh (Nat.le_refl _)
  refine hb u1 u2 hl1 _ _ _ _ _ (e0.mod.kin.keeps fun b o e => (e0.bs b o e).1) (wpAny_bind (wpAny_newTuple (wpAny_pure ?_) hl2))
  have new : ObjOk P w (upd H s.heap.objs.size (.tup rest)) (s.heap.push ({ cls := .type "tuple", data := .seq u2.toArray } : Obj)) s.heap.objs.size (.tup rest) := ⟨hz, u2, r2, _, Heap.get?_push_size _ rfl, rfl, _, rfl⟩
  have un := StX.un_laid (fs := frs outer) (s := s) (o := ({ cls := .type "tuple", data := .seq u2.toArray } : Obj)) (u := .tup rest) hn
  have z := h _ _ (ws ++ kvV ++ [V.ref s.heap.objs.size]) (u1 ++ kv ++ [Value.ref s.heap.objs.size]) (StX.env0_laid e0 new) un rfl (fun e s2 => hCX outer s H _ _ E e s2 un (fun b o q => Heap.get?_push_of_some _ q) rfl)
    ((r1.append hkv).append (.cons rfl .nil)) (by simp only [List.length_append, hl, hkv.length, hks, List.length_cons, List.length_nil]) ⟨_, hn, rfl, rfl⟩
  have q : (ps ++ ks).length = (u1 ++ kv).length := by rw [List.length_append, List.length_append, hl1, hks]
  rw [List.zip_append q] at z
  exact z
/-- the rule: a def with *pv that says super() -/
theorem fn_starS (lk : K.lookup f = some ⟨oc, od, .func (PySem.W.fnX name qual params body sc [(cls_, cc)] dV kV doc pm an cdv ct), osl⟩) (hcd : PySem.W.codeIn K cdv qual = true)
    (hcc : K.lookup cc = some ⟨kc, dc, .cell (some (.ref D)), lc⟩) (S : CScope N (ps ++ ks ++ [pv]) sc) (hCX : StX.CXUp CX) (hb : BindStar K (PySem.W.fnX name qual params body sc [(cls_, cc)] dV kV doc pm an cdv ct) ps ks kv pv) (hkv : Vals kvV kv) (hks : kv.length = ks.length)
    (hbody : ∀ (A : Around) (outer : List Env) (s : Shared) (H : Hp) (vs : List V) (Q : VK) (E : XK), Room k (A.deeper (envS qual sc s.heap.objs.size f cdv cc)) → sp vs H Q E →
      ∃ t, PX (cxS CX P w K mg base N qual sc f cdv cc A outer s H E) (.func body (envS qual sc s.heap.objs.size f cdv cc)) body t ∧ t { nx := fun _ H' => Q .non H', rt := Q } (L2.start N vs) H) :
    FnR P w K mg base CX (k + 1) f (fun vs H Q E => ∃ ws rest, vs = ws ++ rest ∧ ws.length = ps.length ∧ rest.length ≤ sizeLine ∧ ∀ p, H p = none → sp (ws ++ kvV ++ [V.ref p]) (upd H p (.tup rest)) Q E) := by
  intro A outer s H us vs Q E hr e0 r hsp
  obtain ⟨ws, rest, ev, hl, hz, hq⟩ := hsp
  subst ev
  refine run_bndS lk hcd hcc S hr e0 (bnd_star hCX hb hkv hks e0 r hl hz) fun s2 H2 xs ⟨p, hp, ex, eH⟩ hr2 => ?_
  subst ex eH
  exact hbody A outer s2 _ _ Q E hr2 (hq p hp)
/-- the same without super() -/
theorem fn_starP (lk : K.lookup f = some ⟨oc, od, .func (PySem.W.fnOf name qual params body sc dV kV doc pm an cdv ct), osl⟩) (hcd : PySem.W.codeIn K cdv qual = true)
    (S : FnScope N (ps ++ ks ++ [pv]) sc) (hCX : StX.CXUp CX) (hb : BindStar K (PySem.W.fnOf name qual params body sc dV kV doc pm an cdv ct) ps ks kv pv) (hkv : Vals kvV kv) (hks : kv.length = ks.length)
    (hbody : ∀ (A : Around) (outer : List Env) (s : Shared) (H : Hp) (vs : List V) (Q : VK) (E : XK), Room k (A.deeper (envOfC qual sc s.heap.objs.size f cdv)) → sp vs H Q E →
      ∃ t, PSs (cxOf CX P w K mg base N qual sc f cdv A outer s H E) body t ∧ t { nx := fun _ H' => Q .non H', rt := Q } (L2.start N vs) H) :
    FnR P w K mg base CX (k + 1) f (fun vs H Q E => ∃ ws rest, vs = ws ++ rest ∧ ws.length = ps.length ∧ rest.length ≤ sizeLine ∧ ∀ p, H p = none → sp (ws ++ kvV ++ [V.ref p]) (upd H p (.tup rest)) Q E) := by
  intro A outer s H us vs Q E hr e0 r hsp
  obtain ⟨ws, rest, ev, hl, hz, hq⟩ := hsp
  subst ev
  refine StX.run_bnd lk hcd S hr e0 (bnd_star hCX hb hkv hks e0 r hl hz) fun s2 H2 xs ⟨p, hp, ex, eH⟩ hr2 => ?_
  subst ex eH
  exact hbody A outer s2 _ _ Q E hr2 (hq p hp)
end
end WC

set_option maxHeartbeats 4000000
namespace WC
open PySem PySem.Spec PyProof.Rows L2
/-! calls: a def of the module by its name; a class by its name, or held by a local name; a function kept in a class -/
/-- the def that the module's name x holds keeps sp -/
structure DefR (P : Program) (w : World) (K : PySem.W.Frag) (mg : Str → Option Value) (base : Heap) (x : Str) (k : Nat) (sp : Sp) : Prop where
  ex : ∃ f, mg x = some (.ref f) ∧ PySem.W.keepIn K (.ref f) = true ∧ FnR P w K mg base (L2.CX P w) k f sp
/-- the class that stands at C is made by sp -/
structure ClsR (P : Program) (w : World) (K : PySem.W.Frag) (mg : Str → Option Value) (base : Heap) (C : Addr) (k : Nat) (sp : Sp) : Prop where
  ex : ∃ f, Mk K C f ∧ FnR P w K mg base (L2.CX P w) k f sp
def tCallR (sp : Sp) (E : XK) (t : TA) : TE := fun σ H Q => t σ H fun vs H1 => sp vs H1 Q E
def tMakeL (i : Nat) (C : Addr) (sp : Sp) (E : XK) (t : TA) : TE := fun σ H Q => σ[i]? = some (some (.ref C)) ∧ StX.tMakeR C sp E t σ H Q
section
variable {X : Cx} {j k i : Nat} {C : Addr} {sp : Sp} {E : XK} {x m : Str} {e o : Expr} {es : List Expr} {t : TA} {ta : TE} {p pos apos : Pos}
theorem pe_cd (D : DefR X.prog X.w X.K X.mg X.base x k sp) (hr : Room j X.A) (hx : Passes (L2.CX X.prog X.w) X E) (ha : PA X (e :: es) t) (hle : k ≤ j := by decide) (hg : Gl X x := by rfl) (hdb : (x == ("__debug__" : Str)) = false := by decide)
    (he : starEach (e :: es) X.env = (false, eval e X.env) :: starEach es X.env := by rfl) (hpl : (backTo pos (starEach es X.env)).any (·.1) = false := by rfl) : PE X (.Call (.Name x p) (e :: es) [] pos) (tCallR sp E t) := by
  obtain ⟨f, hm, hk, F⟩ := D.ex
  refine ⟨fun pins s σ H Q I h => wpAny_Call_Name_kw (ld_glob I hg hm ?_ hdb)⟩
  exact PySem.W.callWith_K (h₀ := X.base) I.ok.mod.kin hk (thn (ha.run pos pins s σ H _ I h) fun us s1 ⟨vs, H1, I1, r, q⟩ => ⟨I1.kIn, wpAny_call (run_fnR F (hr.mono hle) hx I1 r q)⟩) he hpl
theorem pe_cc (D : ClsR X.prog X.w X.K X.mg X.base C k sp) (hm : X.mg x = some (.ref C)) (hr : Room j X.A) (hx : Passes (L2.CX X.prog X.w) X E) (ha : PA X (e :: es) t) (hle : k + 1 ≤ j := by decide) (hg : Gl X x := by rfl) (hdb : (x == ("__debug__" : Str)) = false := by decide)
    (he : starEach (e :: es) X.env = (false, eval e X.env) :: starEach es X.env := by rfl) (hpl : (backTo pos (starEach es X.env)).any (·.1) = false := by rfl) : PE X (.Call (.Name x p) (e :: es) [] pos) (StX.tMakeR C sp E t) := by
  obtain ⟨f, M, F⟩ := D.ex
  exact StX.pe_makeR M F (hr.mono hle) hg hm hx ha hdb he hpl
/-- .. with *e among the arguments -/
theorem pe_ccs (D : ClsR X.prog X.w X.K X.mg X.base C k sp) (hm : X.mg x = some (.ref C)) (hr : Room j X.A) (hx : Passes (L2.CX X.prog X.w) X E) (ha : PA X (e :: es) t) (hle : k + 1 ≤ j := by decide) (hg : Gl X x := by rfl) (hdb : (x == ("__debug__" : Str)) = false := by decide)
    (he : starEach (e :: es) X.env = (false, eval e X.env) :: starEach es X.env := by rfl) (hst : (backTo pos (starEach es X.env)).any (·.1) = true := by rfl) : PE X (.Call (.Name x p) (e :: es) [] pos) (StX.tMakeR C sp E t) := by
  obtain ⟨f, M, F⟩ := D.ex
  refine ⟨fun pins s σ H Q I h => wpAny_Call_Name_kw (ld_glob I hg hm ?_ hdb)⟩
  exact PySem.W.callWith_S2 (h₀ := X.base) I.ok.mod.kin M.kp (thn (ha.run pos pins s σ H _ I h) fun us s1 ⟨vs, H1, I1, r, q⟩ => ⟨I1.kIn, StX.run_makeR M F (hr.mono hle) hx I1 r q⟩) he hst
/-- .. the class held by a local name -/
theorem pe_cls (D : ClsR X.prog X.w X.K X.mg X.base C k sp) (hN : X.N[i]? = some x) (hv : Vis X.env.scope x) (hr : Room j X.A) (hx : Passes (L2.CX X.prog X.w) X E) (ha : PA X (e :: es) t) (hle : k + 1 ≤ j := by decide) (hdb : (x == ("__debug__" : Str)) = false := by decide)
    (hcd : (x == ("__classdict__" : Str)) = false := by decide)
    (he : starEach (e :: es) X.env = (false, eval e X.env) :: starEach es X.env := by rfl) (hst : (backTo pos (starEach es X.env)).any (·.1) = true := by rfl) : PE X (.Call (.Name x p) (e :: es) [] pos) (tMakeL i C sp E t) := by
  obtain ⟨f, M, F⟩ := D.ex
  refine ⟨fun pins s σ H Q I h => ?_⟩
  obtain ⟨hs, ht⟩ := h
  refine wpAny_Call_Name_kw (thn ((pe_var (pos := p) hN hv hdb hcd).run pins s σ H (fun v H1 => v = .ref C ∧ H1 = H) I ⟨_, hs, rfl, rfl⟩) fun u s1 ⟨v, H1, I1, r1, ev, eH⟩ => ?_)
  subst ev eH
  cases r1
  exact PySem.W.callWith_S2 (h₀ := X.base) I.ok.mod.kin M.kp (thn (ha.run pos pins s1 σ _ _ I1 ht) fun us s2 ⟨vs, H2, I2, r, q⟩ => ⟨I2.kIn, StX.run_makeR M F (hr.mono hle) hx I2 r q⟩) he hst
/-- C.m is a staticmethod: its record at p, its def at g -/
structure SMet (K : PySem.W.Frag) (C : Addr) (mc : Value) (m : Str) (p g : Addr) : Prop where
  rd : PySem.W.readsIn K C mc = true
  ga : PySem.W.specialIn K (.ref C) "__getattribute__" = some (some (.builtin "type.__getattribute__"))
  at_ : PySem.W.findCls K (.ref C) mc m = some (.get (.builtin "staticmethod.__get__") (.ref p) .none (.ref C))
  rc : ∃ l, PySem.W.recIn K p "staticmethod" = some (.ref g :: l)
  kp : PySem.W.keepIn K (.ref g) = true
/-- the function that is kept as C.m keeps sp -/
structure StaR (P : Program) (w : World) (K : PySem.W.Frag) (mg : Str → Option Value) (base : Heap) (C : Addr) (m : Str) (k : Nat) (sp : Sp) : Prop where
  ex : ∃ mc p g, SMet K C mc m p g ∧ FnR P w K mg base (L2.CX P w) k g sp
def tSta (C : Addr) (sp : Sp) (E : XK) (ta : TE) (t : TA) : TE := fun σ H Q => ta σ H fun y H1 => y = .ref C ∧ t σ H1 fun vs H2 => sp vs H2 Q E
theorem pe_sta {pl : Sem Bool} (D : StaR X.prog X.w X.K X.mg X.base C m k sp) (ho : PE X o ta) (hr : Room j X.A) (hx : Passes (L2.CX X.prog X.w) X E) (ha : PA X (e :: es) t) (hle : k ≤ j := by decide)
    (hst : starEach (e :: es) X.env = (false, eval e X.env) :: starEach es X.env := by rfl) (hpl : (backTo pos (starEach es X.env)).any (·.1) = false := by rfl)
    (ht : eval (.Call (.Attribute o m apos) (e :: es) [] pos) X.env = (do
      let ov ← eval o X.env
      standAt apos.atName
      let (f, first) ← holding [ov] (getMethod ov m pl)
      callWith pos f first (backTo pos (starEach (e :: es) X.env)) (backToKw pos (keywordEach [] X.env))) := by rfl) : PE X (.Call (.Attribute o m apos) (e :: es) [] pos) (tSta C sp E ta t) := by
  obtain ⟨mc, p, g, S, F⟩ := D.ex
  obtain ⟨l, hl⟩ := S.rc
  refine ⟨fun pins s σ H Q I h => PySem.W.methodCall_KW (pl := pl) (thn (ho.run pins s σ H _ I h) fun u s1 ⟨y, H1, I1, ry, ey, q⟩ => ?_) ht⟩
  subst ey
  obtain rfl : u = Value.ref C := ry
  refine PySem.W.method_cls I1.kIn S.ga (PySem.W.cls_bind I1.kIn S.rd S.at_ (wpAny_call (PySem.W.sm_get (s := { s1 with toks := s1.toks + 1 }) I1.kIn hl (PySem.W.handed_on rfl ?_))))
  have I2 := I1.tok (s1.toks + 1)
  exact PySem.W.callWith_K (h₀ := X.base) I.ok.mod.kin S.kp (thn (ha.run pos pins _ σ H1 _ I2 q) fun us s2 ⟨vs, H2, I3, r, q2⟩ => ⟨I3.kIn, wpAny_call (run_fnR F (hr.mono hle) hx I3 r q2)⟩) hst hpl
end
/-- what leaves a def's body is what the def lets out -/
theorem psE {P : Program} {w : World} {K : PySem.W.Frag} {mg : Str → Option Value} {base : Heap} {N : List Str} {qual : Str} {sc : Scope} {f : Addr} {cd : Value} {A : Around} {outer : List Env} {s : Shared} {H : Hp} {E : XK} :
    Passes (L2.CX P w) (cxOf (L2.CX P w) P w K mg base N qual sc f cd A outer s H E) E := passes_call (takes_of rfl rfl rfl rfl) fun _ _ _ _ z => z
theorem psS {P : Program} {w : World} {K : PySem.W.Frag} {mg : Str → Option Value} {base : Heap} {N : List Str} {qual : Str} {sc : Scope} {f cc : Addr} {cd : Value} {A : Around} {outer : List Env} {s : Shared} {H : Hp} {E : XK} :
    Passes (L2.CX P w) (cxS (L2.CX P w) P w K mg base N qual sc f cd cc A outer s H E) E := passes_call (takes_of rfl rfl rfl rfl) fun _ _ _ _ z => z
end WC

set_option maxHeartbeats 4000000
namespace WC
open PySem PySem.Spec PyProof.Rows L2
/-! own exceptions with fields -/
/-- what __init__ keeps: the fields fl of its arguments -/
def spX (C : Addr) (n : Nat) (fl : List V → List (Str × V)) : Sp := fun vs H Q _ => ∃ (a : Addr) (ws : List V), vs = .ref a :: ws ∧ ws.length = n ∧ H a = some (exo a C none) ∧
  ∀ d, H d = none → d ≠ a → Q .non (upd (upd H d (exd d (fl ws))) a (exo a C (some d)))
structure ExcR (P : Program) (w : World) (K : PySem.W.Frag) (mg : Str → Option Value) (base : Heap) (x : Str) (C : Addr) (k n : Nat) (fl : List V → List (Str × V)) : Prop where
  txt : OexC K C
  gC : mg x = some (.ref C)
  ini : ∃ f fd ps, PySem.W.findIn K (.ref C) "__init__" = some (some (.ref f)) ∧ PySem.W.typeIn K (.ref f) = some (.type "function") ∧ Binds K fd ps [] ∧ FnOk P w K mg base (L2.CX P w) k f fd ps (spX C n fl)
section
variable {X : Cx} {x : Str} {C : Addr} {k j n : Nat} {fl : List V → List (Str × V)} {e : Expr} {es : List Expr} {ta : TA} {p pos : Pos}
theorem pmk_x (T : ExcR X.prog X.w X.K X.mg X.base x C k n fl) (hr : Room j X.A) (ha : PA X (e :: es) ta) (hle : k + 1 ≤ j := by decide) (hg : Gl X x := by rfl) (hdb : (x == ("__debug__" : Str)) = false := by decide)
    (he : starEach (e :: es) X.env = (false, eval e X.env) :: starEach es X.env := by rfl) (hpl : (backTo pos (starEach es X.env)).any (·.1) = false := by rfl) : PMk X (.Call (.Name x p) (e :: es) [] pos) (tMkO C (spX C n fl) [] ta) := by
  obtain ⟨f, fd, ps, i1, i2, i3, F⟩ := T.ini
  exact pmk_oex (dvs := []) (ds := []) T.txt i1 i2 F (hr.mono hle) i3 .nil passL hg T.gC ha hdb he hpl
end
theorem heap_x {H : Hp} {a d : Addr} {u v w : HO} (ha : H a = none) (hd : d ≠ a) : upd (del (upd (upd (upd H a u) d v) a w) a) d v = upd H d v := by
  funext b
  by_cases e : b = d
  · rw [e, upd_same, upd_same]
  · rw [upd_ne e, upd_ne e]
    by_cases e2 : b = a
    · rw [e2, del_same, ha]
    · rw [del_ne e2, upd_ne e2, upd_ne e, upd_ne e2]
/-- the making: its arguments are as many as the fields want; d is the error's own dict, new -/
theorem x_use {H1 : Hp} {C : Addr} {n : Nat} {fl : List V → List (Str × V)} {vs : List V} {Q : XK} (hl : vs.length = n) (hn : n ≤ 1000) (h : ∀ d, H1 d = none → Q (.ref C) (some d) (upd H1 d (.xd (fl vs)))) :
    vs.length ≤ 1000 ∧ ∀ a, H1 a = none → spX C n fl (.ref a :: (vs ++ [])) (upd H1 a (exo a C none)) (fun v H2 => v = .non ∧ ∃ (d : Addr) (fs : List (Str × V)), H2 a = some (exo a C (some d)) ∧ H2 d = some (exd d fs) ∧ H1 d = none ∧ Q (.ref C) (some d) (upd (del H2 a) d (.xd fs))) (fun _ _ _ => False) := by
  refine ⟨by omega, fun a ha => ⟨a, vs, by rw [List.append_nil], hl, upd_same, fun d hd hne => ⟨rfl, d, fl vs, upd_same, by rw [upd_ne hne, upd_same], ?_, ?_⟩⟩⟩
  · rw [upd_ne hne] at hd
    exact hd
  · rw [upd_ne hne] at hd
    have q : upd (del (upd (upd (upd H1 a (exo a C none)) d (exd d (fl vs))) a (exo a C (some d))) a) d (.xd (fl vs)) = upd H1 d (.xd (fl vs)) := by
      funext b
      by_cases e : b = d
      · rw [e, upd_same, upd_same]
      · rw [upd_ne e, upd_ne e]
        by_cases e2 : b = a
        · rw [e2, del_same, ha]
        · rw [del_ne e2, upd_ne e2, upd_ne e, upd_ne e2]
    rw [q]
    exact h d hd
end WC

set_option maxHeartbeats 4000000
namespace WC
open PySem PySem.Spec PyProof.Rows L2
/-! enumerate(t), t a tuple -/
set_option maxHeartbeats 1000000 in
theorem new_enum {v : Value} {o : Obj} {Hh : Heap → Prop} (B : Begins v o Hh) :
    Meets (Builtin.«enumerate.__new__» ⟨[.type "enumerate", v], []⟩) (fun _ R s => Hh s.heap ∧
      R (.ok (.ret (.ref (s.heap.push o).objs.size))) { s with heap := (s.heap.push o).push { cls := .type "enumerate", data := .fields #[.none, .bool false, .ref s.heap.objs.size, rawInt 0, .none, .none] } }) :=
  .of_wp fun prog w A R s h => by
    obtain ⟨hp, g, d, tk, os⟩ := s
    obtain ⟨h1, h⟩ := h
    have hsub := sub_enumerate
    have q1 : ∀ {A2 : Around} {E : Value → Shared → Prop} {Q : Value → Shared → Prop}, Q (.ref hp.objs.size) ⟨hp.push o, g, d, tk, os⟩ → wpAny (model prog w) A2 (pyIter v) Q E ⟨hp, g, d, tk, os⟩ := fun q => B.iter prog w _ _ ⟨hp, g, d, tk, os⟩ _ h1 q
    wp_walk using q1
    refine wpAny_stack_any fun st => wpAny_pure ?_
    split
    · rename_i c _ _ _ _ _
      cases (c == Value.type "enumerate") <;> (wp_walk using q1; exact ⟨_, rfl, h⟩)
    · wp_walk using q1
      exact ⟨_, rfl, h⟩
section
variable {prog : Program} {w : World} {A : Around} {E : Value → Shared → Prop} {s : Shared}
theorem enum1_begins {v : Value} {o : Obj} {Hh : Heap → Prop} {Q : Value → Shared → Prop} (B : Begins v o Hh) (h1 : Hh s.heap)
    (h : ∀ h2, IsEnum h2 (s.heap.objs.size + 1) s.heap.objs.size 0 .none → h2.get? s.heap.objs.size = some o → (∀ b u, s.heap.get? b = some u → h2.get? b = some u) → Q (.ref (s.heap.objs.size + 1)) { s with heap := h2 }) :
    wpAny (model prog w) A (call (.type "enumerate") [v]) Q E s := by
  refine callType_new F.called_enumerate (by decide) (F.typeCall_enumerate_1 _) (F.newCall_enumerate_1 _) (fun obj => F.args_object_init_2 obj _) F.entry_enumerate_new (new_enum B) ⟨h1, ?_⟩
  have hz : (s.heap.push o).objs.size = s.heap.objs.size + 1 := Heap.size_push ..
  show _ ∧ _
  rw [hz]
  have he : IsEnum ((s.heap.push o).push { cls := .type "enumerate", data := .fields #[.none, .bool false, .ref s.heap.objs.size, rawInt 0, .none, .none] }) (s.heap.objs.size + 1) s.heap.objs.size 0 .none := by
    have z := Heap.get?_push_size (s.heap.push o) (o := { cls := .type "enumerate", data := .fields #[.none, .bool false, .ref s.heap.objs.size, rawInt 0, .none, .none] }) rfl
    rw [hz] at z
    exact z
  exact ⟨⟨_, he, rfl⟩, h _ he (Heap.get?_push_of_some _ (Heap.get?_push_size _ B.free)) fun b u x => Heap.get?_push_of_some _ (Heap.get?_push_of_some _ x)⟩
end
def ItT (K : PySem.W.Frag) (a : Addr) : It :=
  { go := fun i H => ∃ (xs : List V) (x : V), SqT K H a xs ∧ xs[i]? = some x
    yld := fun i H v H2 => ∃ T x, v = .ref T ∧ H T = none ∧ H2 = upd H T (.tup [.int (i : Nat), x]) ∧ ∀ xs, SqT K H a xs → xs[i]? = some x
    stop := fun i H => ∃ xs : List V, SqT K H a xs ∧ xs.length ≤ i }
theorem turn_et {P : Program} {w : World} {K : PySem.W.Frag} {elts : List Expr} {kk : Nat} {tpos : Pos} (a e it : Addr) :
    Turn P w K (.Tuple elts kk tpos) (ItT K a) [e, it] e (fun i h => (∃ old, IsEnum h e it ((i : Nat) : Int) old) ∧ h.IsTupleIter it a i ∧ e ≠ it) where
  mem := by simp
  obj := fun i h st b hb => by
    obtain ⟨⟨old, he⟩, ⟨o, ho, hc, hd⟩, _⟩ := st
    have q : b = e ∨ b = it := by simpa using hb
    rcases q with z | z
    · refine ⟨_, z ▸ he, fun v q => ?_⟩
      have q : Data.fields _ = Data.cell v := q
      cases q
    · exact ⟨o, z ▸ ho, fun v q => by rw [hd] at q; cases q⟩
  keep := fun i h h2 st k => by
    obtain ⟨⟨old, he⟩, st2, st3⟩ := st
    exact ⟨⟨old, k e (by simp) _ he⟩, st2.at fun o q => k it (by simp) o q, st3⟩
  item := by
    intro X hP hw hK hc i pins s σ H E I hf st hg
    subst hP hw hK
    obtain ⟨⟨old, he⟩, hit, hne⟩ := st
    obtain ⟨xs, x, hq, hx⟩ := hg
    obtain ⟨its, rv, pt, hz⟩ := I.tuple hq
    have pt : s.heap.IsTuple a its.toArray := pt
    have hel : e < s.heap.objs.size := Heap.lt_size he
    have hil : it < s.heap.objs.size := by obtain ⟨_, q, _⟩ := hit; exact Heap.lt_size q
    have nai : a ≠ it := fun z => by
      obtain ⟨o1, q1, c1, _⟩ := pt
      obtain ⟨o2, q2, c2, _⟩ := hit
      rw [z, q2] at q1
      cases q1
      rw [c1] at c2
      injection c2 with c2
      exact absurd c2 (by decide)
    have nae : e ≠ a := fun z => by
      obtain ⟨o1, q1, c1, _⟩ := pt
      have he : s.heap.get? e = some _ := he
      rw [← z, he] at q1
      cases q1
      injection c1 with c1
      exact absurd c1 (by decide)
    have hlt : i < its.toArray.size := by
      have := (List.getElem?_eq_some_iff.mp hx).1
      rw [rv.length] at this
      simpa using this
    refine wpAny_pyNext_enum_itemD (Draws.tuple (A := X.A.in1) (I.ok.hd hc) it a nai its.toArray) he ⟨hit, pt⟩ hlt hne (by simp [nae, hne]) fun u h2 tk hu ho hst hT hsz hk => ?_
    have hu2 : its[i]? = some u := by simpa using hu
    obtain ⟨u2, hu3, ru⟩ := rv.get hx
    rw [hu2] at hu3
    cases hu3
    refine ⟨_, rfl, wpAny_letOwnedTupleGo_enum (s := { s with heap := h2, toks := tk + 1 }) ho fun h3 he3 sb => ?_⟩
    have hT2 : h3.get? s.heap.objs.size = some { cls := .type "tuple", data := .seq #[.int i tk, u] } := (sb.2 _ (Nat.ne_of_gt hel)).trans hT
    have new : ObjOk X.prog X.w (upd H s.heap.objs.size (.tup [.int (i : Nat), x])) h3 s.heap.objs.size (.tup [.int (i : Nat), x]) := ⟨by show 2 ≤ sizeLine; decide, [.int i tk, u], .cons ⟨_, rfl⟩ (.cons ru .nil), ⟨_, hT2, rfl, _, rfl⟩⟩
    have I1 : Inv X pins σ (upd H s.heap.objs.size (.tup [.int (i : Nat), x])) { s with heap := h3, toks := tk + 1 } :=
      I.turnedNew (ch := [e, it]) (fun b ob hb q => (sb.2 b (fun z => hb (by simp [z]))).trans (hk b ob (fun z => hb (by simp [z])) (fun z => hb (by simp [z])) q)) hf (Nat.le_refl _) new
    refine ⟨.ref s.heap.objs.size, _, I1, rfl, ⟨_, x, rfl, I.hok.fresh (Nat.le_refl _), rfl, fun ys hy => by rw [I.tuple_inj hy hq]; exact hx⟩, ⟨⟨u, ?_⟩, hst.1.at fun o q => (sb.2 it (Ne.symm hne)).trans q, hne⟩, fun b hb => ?_⟩
    · have e1 : ((i + 1 : Nat) : Int) = (i : Int) + 1 := by omega
      rw [e1]
      exact he3
    · have q : b = e ∨ b = it := by simpa using hb
      have hb2 : b < s.heap.objs.size := by rcases q with z | z <;> rw [z] <;> assumption
      rw [upd_ne (Nat.ne_of_lt hb2)]
      exact (hf b hb).1
  done := by
    intro X hP hw hK hc i pins s σ H E I hf st hg
    subst hP hw hK
    obtain ⟨⟨old, he⟩, hit, hne⟩ := st
    obtain ⟨xs, hq, hx⟩ := hg
    obtain ⟨its, rv, pt, hz⟩ := I.tuple hq
    have pt : s.heap.IsTuple a its.toArray := pt
    obtain ⟨f0, f1, f2, f3, f4, f5⟩ := hf it (by simp)
    have nai : a ≠ it := fun z => by
      obtain ⟨o1, q1, c1, _⟩ := pt
      obtain ⟨o2, q2, c2, _⟩ := hit
      rw [z, q2] at q1
      cases q1
      rw [c1] at c2
      injection c2 with c2
      exact absurd c2 (by decide)
    have hl := rv.length
    have D := Draws.tuple (prog := X.prog) (w := X.w) (A := X.A.in1) (I.ok.hd hc) it a nai its.toArray
    have hn : its.toArray.size ≤ i := by simp; omega
    unfold pyNext
    refine wpAny_bind (wpAny_attempt (wpAny_callSpecial?_slot (name := Str.ofString "__next__") ⟨_, he, rfl⟩ F.slot_enumerate_next (wpAny_call_entry F.slot_enumerate_next ⟨_, he, rfl⟩ F.entry_enumerate_next ?_ (F.args_enumerate_next_1 _))))
    show wpAny _ _ (field (.ref e) 2 >>= _) _ _ _
    refine wpAny_bind (wpAny_field he rfl (x := .ref it) rfl ?_)
    refine wpAny_bind (wpAny_nextOf_tuple_end (show X.A.in1.handled = none from I.ok.hd hc) hit pt (by simp; omega) fun h2 x q1 q2 => ?_)
    obtain ⟨o, ho, hcl⟩ := q2
    refine wpAny_bind (wpAny_isInstance (T := "StopIteration") (b := true) ⟨o, ho, hcl⟩ isSubtype_stop ?_)
    exact wpAny_pure ⟨rfl, I.turned (t' := s.toks) (fun b o hb q => q1 b o hb q) f0 f1 f3 f4 f5⟩
  self := fun A i s Q E st h => let ⟨⟨_, he⟩, _⟩ := st; wpAny_pyIter_enum he h
def iET (K : PySem.W.Frag) (ta : TA) : TI := fun σ H R => ta σ H fun vs H1 => ∃ a xs, vs = [.ref a] ∧ SqT K H1 a xs ∧ R (ItT K a) H1
theorem pi_et {X : Cx} {e : Expr} {ta : TA} {p pos tpos : Pos} {elts : List Expr} {kk : Nat} (hm : X.mg "enumerate" = none) (ha : PA X [e] ta) (hg : Gl X "enumerate" := by rfl) (hs : starEach [e] X.env = [(false, eval e X.env)] := by rfl) :
    PI X (.Tuple elts kk tpos) (.Call (.Name "enumerate" p) [e] [] pos) (iET X.K ta) := by
  refine ⟨fun pins s σ H R I h => Call_ (ld_blt I hg hm boot_enumerate (PyProof.Rows.callWith_type1 (thn (ha.run pos pins s σ H _ I h) fun us s1 ⟨vs, H1, I1, r1, a, xs, ex, hq, q⟩ => ?_) hs rfl))⟩
  subst ex
  cases r1 with
  | cons r rr =>
    cases rr
    cases r
    obtain ⟨its, rv, pt, hz⟩ := I1.tuple hq
    have pt : s1.heap.IsTuple a its.toArray := pt
    refine enum1_begins (begins_tuple a its.toArray) pt fun h2 he hit hk => wpAny_pyIter_enum he ?_
    have I2 : Inv X pins σ H1 { s1 with heap := h2 } := I1.kept (t' := s1.toks) hk
    refine ⟨s1.heap.objs.size + 1, [s1.heap.objs.size + 1, s1.heap.objs.size], _, _, H1, rfl, I2, turn_et a (s1.heap.objs.size + 1) s1.heap.objs.size, ⟨⟨.none, he⟩, ⟨_, hit, rfl, rfl⟩, Nat.succ_ne_self _⟩, fun b hb => ?_, q⟩
    have q : b = s1.heap.objs.size + 1 ∨ b = s1.heap.objs.size := by simpa using hb
    have hle : s1.heap.objs.size ≤ b := by rcases q with z | z <;> rw [z] <;> first | exact Nat.le_add_right _ _ | exact Nat.le_refl _
    exact I1.fpOk hle (I1.hok.fresh hle)
theorem walk_et {K : PySem.W.Frag} {a : Addr} {xs : List V} : Walk (ItT K a) xs.length (fun H => SqT K H a xs) (YPair (fun i => some (.int (i : Nat))) (fun i => xs[i]?)) := by
  refine ⟨fun i _ hi q => ⟨xs, xs[i], q, by simp [hi]⟩, fun _ q => ⟨xs, q, Nat.le_refl _⟩, fun i H v H2 _ q y => ?_⟩
  obtain ⟨T, x, h1, h2, h3, h4⟩ := y
  exact ⟨T, .int (i : Nat), x, h1, h2, h3, rfl, h4 xs q⟩
end WC

set_option maxHeartbeats 4000000
namespace WC
open PySem PySem.Spec PyProof.Rows L2
/-! data -/
theorem pr_at {α β : Type} {F : α → β → Prop} : ∀ {l : List α} {r : List β}, Paired F l r → ∀ {i : Nat} {b : β}, r[i]? = some b → ∃ a, l[i]? = some a ∧ F a b
  | _, _, .nil, i, b, h => by simp at h
  | _, _, .cons p q, 0, b, h => by
    have e := Option.some.inj h
    subst e
    exact ⟨_, rfl, p⟩
  | _, _, .cons p q, i + 1, b, h => pr_at (i := i) q (by simpa using h)
theorem pr_to {α β : Type} {F : α → β → Prop} : ∀ {l : List α} {r : List β}, Paired F l r → ∀ {i : Nat} {a : α}, l[i]? = some a → ∃ b, r[i]? = some b ∧ F a b
  | _, _, .nil, i, b, h => by simp at h
  | _, _, .cons p q, 0, b, h => by
    have e := Option.some.inj h
    subst e
    exact ⟨_, rfl, p⟩
  | _, _, .cons p q, i + 1, b, h => pr_to (i := i) q (by simpa using h)
theorem pr_snoc {α β : Type} {F : α → β → Prop} : ∀ {l : List α} {r : List β} {a : α} {b : β}, Paired F l r → F a b → Paired F (l ++ [a]) (r ++ [b])
  | _, _, _, _, .nil, h => .cons h .nil
  | _, _, _, _, .cons p q, h => .cons p (pr_snoc q h)
theorem take_snoc {α : Type} : ∀ {l : List α} {i : Nat} {x : α}, l[i]? = some x → l.take (i + 1) = l.take i ++ [x]
  | [], _, _, h => by simp at h
  | a :: l, 0, x, h => by
    have e := Option.some.inj h
    subst e
    rfl
  | a :: l, i + 1, x, h => by
    have q := take_snoc (l := l) (i := i) (x := x) (by simpa using h)
    show a :: l.take (i + 1) = a :: l.take i ++ [x]
    rw [q]
    rfl
/-- a channel, a tuple of three ints -/
abbrev Tri := Int × Int × Int
def TriA (H : Hp) (c : Tri) (v : V) : Prop := ∃ t, v = .ref t ∧ H t = some (.tup [.int c.1, .int c.2.1, .int c.2.2])
theorem TriA.same {H H2 : Hp} {c : Tri} {v : V} (s : Same H H2) (h : TriA H c v) : TriA H2 c v := let ⟨t, e, q⟩ := h; ⟨t, e, s _ _ q⟩
theorem tris_same {H H2 : Hp} {cs : List Tri} {vs : List V} (s : Same H H2) (h : Paired (TriA H) cs vs) : Paired (TriA H2) cs vs := Paired.mapP h fun _ _ z => z.same s
/-- the places where es has j, below m -/
def occ (es : List Int) (j : Int) (m : Nat) : List Int := ((List.range m).filter fun k => decide (es[k]? = some j)).map fun (k : Nat) => (k : Int)
theorem occ_zero (es : List Int) (j : Int) : occ es j 0 = [] := rfl
theorem occ_hit {es : List Int} {j : Int} {m : Nat} (h : es[m]? = some j) : occ es j (m + 1) = occ es j m ++ [(m : Int)] := by
  unfold occ
  rw [List.range_succ, List.filter_append, List.map_append]
  congr 1
  simp [h]
theorem occ_miss {es : List Int} {j e : Int} {m : Nat} (h : es[m]? = some e) (ne : e ≠ j) : occ es j (m + 1) = occ es j m := by
  unfold occ
  rw [List.range_succ, List.filter_append, List.map_append]
  simp [h, ne]
theorem occ_len (es : List Int) (j : Int) (m : Nat) : (occ es j m).length ≤ m := by
  unfold occ
  rw [List.length_map]
  exact Nat.le_trans (List.length_filter_le _ _) (by simp)
/-- at r: a tuple of n tuples, the j-th one the places of j in es -/
def RowsA (H : Hp) (r : Addr) (n : Nat) (es : List Int) : Prop := ∃ ts : List V, H r = some (.tup ts) ∧ ts.length = n ∧ ∀ (j : Nat) v, ts[j]? = some v → ∃ t, v = .ref t ∧ H t = some (.tup ((occ es (j : Int) es.length).map V.int))
theorem RowsA.same {H H2 : Hp} {r : Addr} {n : Nat} {es : List Int} (s : Same H H2) (h : RowsA H r n es) : RowsA H2 r n es := by
  obtain ⟨ts, h1, h2, h3⟩ := h
  exact ⟨ts, s _ _ h1, h2, fun j v e => let ⟨t, e1, e2⟩ := h3 j v e; ⟨t, e1, s _ _ e2⟩⟩
theorem _root_.L2.Same.new {H : Hp} {p : Addr} {o : HO} (h : H p = none) : Same H (upd H p o) := fun a u e => by
  rw [upd_ne (ne_of_none e h)]
  exact e
theorem _root_.L2.Same.newer {H H1 : Hp} {p : Addr} {o : HO} (s : Same H H1) (h : H p = none) : Same H (upd H1 p o) := fun a u e => by
  rw [upd_ne (ne_of_none e h)]
  exact s _ _ e
theorem line_of {n : Nat} (h : n ≤ 100000) : n ≤ sizeLine := Nat.le_trans h (by decide)
theorem line_lt {n : Nat} (h : n < 100000) : n < sizeLine := Nat.lt_of_lt_of_le h (by decide)
end WC
namespace WC
open PySem PySem.Spec PyProof.Rows L2
theorem bt_tuple : bootBuiltins "tuple" = some (.type "tuple") := by decide +kernel
theorem bt_list : bootBuiltins "list" = some (.type "list") := by decide +kernel
theorem bt_int : bootBuiltins "int" = some (.type "int") := by decide +kernel
theorem bt_str : bootBuiltins "str" = some (.type "str") := by decide +kernel
theorem bt_isi : bootBuiltins "isinstance" = some (.builtin "isinstance") := by decide +kernel
theorem bt_len : bootBuiltins "len" = some (.builtin "len") := by decide +kernel
theorem bt_sorted : bootBuiltins "sorted" = some (.builtin "sorted") := by decide +kernel
theorem bt_sum : bootBuiltins "sum" = some (.builtin "sum") := by decide +kernel
theorem bt_all : bootBuiltins "all" = some (.builtin "all") := by decide +kernel
theorem bt_max : bootBuiltins "max" = some (.builtin "max") := by decide +kernel
theorem bt_min : bootBuiltins "min" = some (.builtin "min") := by decide +kernel
/-- readings that name the written part (within a comprehension's block) -/
def rTupOf (K : PySem.W.Frag) : List V → Hp → VK → Prop := fun xs H Q => ∃ p ys, xs = [.ref p] ∧ ((SqL K H p ys ∧ ∀ l, H l = none → Q (.ref l) (upd H l (.tup ys))) ∨ (SqT K H p ys ∧ Q (.ref p) H))
theorem c_tup {X : Cx} {K : PySem.W.Frag} (h : X.K = K := by rfl) : CallR X (.type "tuple") (rTupOf K) := by
  subst h
  exact call_tuple_of
theorem i_tup {X : Cx} {K : PySem.W.Frag} (h : X.K = K := by rfl) : IxR X (rIxT K) := by
  subst h
  exact ix_tup
theorem i_lst {X : Cx} {K : PySem.W.Frag} (h : X.K = K := by rfl) : IxR X (rIxL K) := by
  subst h
  exact ix_list
end WC
namespace WC
open PySem PySem.Spec PyProof.Rows L2
theorem yes {σ : L2.St} {H : Hp} {A B : Bool → Hp → Prop} (h : A true H) : tYes σ H (fun b H3 => if b = true then A b H3 else B b H3) := by
  show (if true = true then A true H else B true H)
  rw [if_pos rfl]
  exact h
end WC
namespace WC
open PySem PySem.Spec PyProof.Rows L2
/-- [c[j] for c in t], t a tuple of channels -/
theorem comp_sel {K : PySem.W.Frag} {wi : TI} {H : Hp} {σ : L2.St} {tc : Addr} {cs : List Tri} {vs : List V} {s : Nat} {j : Int} {Q : VK} (g : Tri → Int) (hg : ∀ c : Tri, atI [V.int c.1, V.int c.2.1, V.int c.2.2] j = some (V.int (g c))) (hw : ∀ R : It → Hp → Prop, R (Itt K tc) H → wi σ H R)
    (h1 : H tc = some (.tup vs)) (hp : Paired (TriA H) cs vs) (hlen : cs.length ≤ 1000) (hs1 : ∀ v, wipe ((wipe σ [s]).set s (some v)) [s] = wipe σ [s]) (hs2 : ∀ v, ((wipe σ [s]).set s (some v))[s]? = some (some v))
    (k : ∀ D H2, Same H H2 → H D = none → H2 D = some (.lst ((cs.map g).map V.int)) → Q (.ref D) H2) : tLc wi (gName s) tYes (tOp (rIxT K) (tVar s) (tC (.int j))) [s] σ H Q := by
  refine hw _ fun D hD => lc_tup (K := K) (a := tc) (xs := vs) (fun i H2 => Same H H2 ∧ H2 D = some (.lst (((cs.take i).map g).map V.int))) ⟨Same.new hD, by rw [upd_same]; rfl⟩ (fun i H2 _ q => SqT.of (q.1 _ _ h1)) ?_ ?_
  · rintro i x H2 hx ⟨s2, hd⟩
    obtain ⟨c, hc, t, rfl, ht⟩ := pr_at hp hx
    have hi : i < cs.length := (List.getElem?_eq_some_iff.mp hc).1
    refine ⟨hs1 _, yes ⟨_, hs2 _, t, _, _, _, rfl, rfl, SqT.of (s2 _ _ ht), hg c, _, hd, ?_, Same.newer s2 hD, ?_⟩⟩
    · rw [List.length_map, List.length_map, List.length_take]
      exact line_lt (by omega)
    · rw [upd_same, take_snoc hc, List.map_append, List.map_append]
      rfl
  · rintro H2 ⟨s2, hd⟩
    rw [← hp.length, List.take_length] at hd
    exact k D H2 s2 hD hd
end WC

set_option maxHeartbeats 4000000
namespace WC
open PySem PySem.Spec PyProof.Rows L2
/-- {k: v for .. in a list that stays} -/
theorem dc_lst {K : PySem.W.Frag} {a : Addr} {xs : List V} {g : TG} {tt : TT} {tk tv : TE} {vs : List Nat} {σ : L2.St} {H1 : Hp} {D : Addr} {Qd : Hp → Prop} (Pv : Nat → Hp → Prop) (h0 : Pv 0 (upd H1 D (.dK []))) (hl : ∀ i H, i ≤ xs.length → Pv i H → SqL K H a xs)
    (hs : ∀ i x H, xs[i]? = some x → Pv i H → g x (wipe σ vs) H fun s2 H2 => wipe s2 vs = wipe σ vs ∧ tt s2 H2 fun b H3 =>
      if b = true then tk s2 H3 fun y H4 => tv s2 H4 fun z H5 => ∃ kvs k, y = kV k ∧ H5 D = some (.dK kvs) ∧ kvs.length < sizeLine ∧ Pv (i + 1) (upd H5 D (.dK (putK kvs k z))) else Pv (i + 1) H3) (hd : ∀ H, Pv xs.length H → Qd H) :
    ∃ W : Nat → Nat → Hp → Prop, (∃ m, W 0 m (upd H1 D (.dK []))) ∧ ∀ i m H, W i m H →
      ((Itl K a).stop i H ∧ Qd H) ∨ ((Itl K a).go i H ∧ ∃ Nx : Hp → Prop, (∀ H2, Nx H2 → ∃ m2, m2 < m ∧ W (i + 1) m2 H2) ∧ ∀ x H2, (Itl K a).yld i H x H2 → g x (wipe σ vs) H2 fun s2 H3 => wipe s2 vs = wipe σ vs ∧ tt s2 H3 fun b H4 =>
        if b = true then tk s2 H4 fun y H5 => tv s2 H5 fun z H6 => ∃ kvs k, y = kV k ∧ H6 D = some (.dK kvs) ∧ kvs.length < sizeLine ∧ Nx (upd H6 D (.dK (putK kvs k z))) else Nx H4) := by
  have w : Walk (Itl K a) xs.length (fun H => SqL K H a xs) (YAt xs) := walk_list
  refine ⟨fun i m H => m = xs.length - i ∧ i ≤ xs.length ∧ Pv i H, ⟨_, rfl, Nat.zero_le _, h0⟩, fun i m H ⟨em, hi, p⟩ => ?_⟩
  have q := hl i H hi p
  rcases Nat.lt_or_ge i xs.length with hlt | hge
  · refine .inr ⟨w.goes i H hlt q, Pv (i + 1), fun H2 p2 => ⟨xs.length - (i + 1), by omega, rfl, hlt, p2⟩, fun x H2 y => ?_⟩
    obtain ⟨e, y2⟩ := w.yields i H x H2 hlt q y
    subst e
    exact hs i x _ y2 p
  · have e : i = xs.length := by omega
    subst e
    exact .inl ⟨w.stops H q, hd H p⟩
/-- (a, b, ..) as a target within a comprehension's block -/
theorem pg_tupK {X : Cx} {K : PySem.W.Frag} {es : List Expr} {k n : Nat} {pos : Pos} {t : TGs} (hc : X.calm = true) (h : PGs X es t) (hK : X.K = K := by rfl) (hn : (assignEach es X.env).length = n := by rfl) (hst : (assignEach es X.env).findIdx? (·.1) = none := by rfl) :
    PG X (.Tuple es k pos) (gTup K n t) := by
  subst hK
  exact pg_tup hc h hn hst
theorem pk_len {κ : Type} [DecidableEq κ] (c : List (κ × V)) (k : κ) (x : V) : (putK c k x).length ≤ c.length + 1 := by
  unfold putK
  split
  · rw [List.length_map]
    omega
  · rw [List.length_append]
    exact Nat.le_refl _
/-- no circle: the stages can be ranked -/
def Acyc (cs : List Tri) : Prop := ∃ r : Int → Nat, ∀ c ∈ cs, r c.1 < r c.2.1
theorem least_of {α : Type} (f : α → Nat) : ∀ {l : List α}, l ≠ [] → ∃ a ∈ l, ∀ b ∈ l, f a ≤ f b
  | [a], _ => ⟨a, by simp, fun b hb => by simp at hb; rw [hb]; exact Nat.le_refl _⟩
  | a :: b :: l, _ => by
    obtain ⟨c, hc, h⟩ := least_of f (l := b :: l) (by simp)
    by_cases q : f a ≤ f c
    · refine ⟨a, by simp, fun d hd => ?_⟩
      rcases List.mem_cons.mp hd with e | hd
      · rw [e]; exact Nat.le_refl _
      · exact Nat.le_trans q (h d hd)
    · refine ⟨c, List.mem_cons_of_mem _ hc, fun d hd => ?_⟩
      rcases List.mem_cons.mp hd with e | hd
      · rw [e]; omega
      · exact h d hd
theorem Acyc.first {cs : List Tri} (h : Acyc cs) (ne : cs ≠ []) : ∃ c ∈ cs, ∀ d ∈ cs, d.2.1 ≠ c.1 := by
  obtain ⟨r, hr⟩ := h
  obtain ⟨c, hc, hm⟩ := least_of (fun c : Tri => r c.1) ne
  refine ⟨c, hc, fun d hd e => ?_⟩
  have h1 := hr d hd
  have h2 := hm d hd
  have h2 : r c.1 ≤ r d.1 := h2
  rw [e] at h1
  omega
theorem Acyc.sub {cs ds : List Tri} (h : Acyc cs) (s : ∀ c ∈ ds, c ∈ cs) : Acyc ds := let ⟨r, hr⟩ := h; ⟨r, fun c hc => hr c (s c hc)⟩
end WC

set_option maxHeartbeats 4000000
namespace WC
open PySem PySem.Spec PyProof.Rows L2
/-- a method that says super(), as the written part has it: its cell at cc holds the class at D -/
structure SFun (P : Program) (K : PySem.W.Frag) (x qual : Str) (st : Stmt) (f cc D : Addr) (kV : Value) : Prop where
  ex : ∃ (oc : Value) (od : Option Addr) (doc pm : Value) (an : Option Addr) (cda : Addr) (ct : Value) (osl : Array (Option Value)) (kc : Value) (dc : Option Addr) (lc : Array (Option Value)) (oc1 : Value) (oc2 : Option Addr) (vs : Array Value) (oc3 : Array (Option Value)) (file : Str) (tf : Tok),
    K.lookup f = some ⟨oc, od, .func (PySem.W.fnX x qual (defArgs st) (defBody st) (defScope st) [(cls_, cc)] .none kV doc pm an (.ref cda) ct), osl⟩ ∧ PySem.W.codeIn K (.ref cda) qual = true ∧ K.lookup cc = some ⟨kc, dc, .cell (some (.ref D)), lc⟩ ∧
    K.lookup cda = some ⟨oc1, oc2, .fields vs, oc3⟩ ∧ vs[2]? = some (.str file tf) ∧ ((P.main.file : Str) == file) = true
theorem look_cls {N ps : List Str} {sc : Scope} (S : CScope N ps sc) (n : Nat) (cc : Addr) : (cellsFrom n sc.names [] ++ [(cls_, cc)]).lookup cls_ = some cc := by
  rw [List.lookup_append]
  cases e : (cellsFrom n sc.names []).lookup cls_ with
  | some c =>
    have z := S.once _ (cf_mem _ _ _ _ (mem_of_lookup e)) rfl
    cases z
  | none => show List.lookup cls_ [(cls_, cc)] = some cc; simp [List.lookup]
section
variable {P : Program} {w : World} {K : PySem.W.Frag} {mg : Str → Option Value} {base : Heap} {k : Nat} {f cc D : Addr} {x qual : Str} {st : Stmt} {kV : Value} {N ps ks : List Str} {sp : Sp} {pv : Str} {kvV : List V} {kv : List Value}
/-- the rule for such a def with *pv and keywords ks that are left out -/
theorem SFun.star (F : SFun P K x qual st f cc D kV) (S : CScope N (ps ++ ks ++ [pv]) (defScope st)) (hkv : Vals kvV kv) (hks : kv.length = ks.length)
    (hb : ∀ (doc pm : Value) (an : Option Addr) (cdv ct : Value), BindStar K (PySem.W.fnX x qual (defArgs st) (defBody st) (defScope st) [(cls_, cc)] .none kV doc pm an cdv ct) ps ks kv pv)
    (hp : ∃ ar : Arg, ((defArgs st).posonlyargs ++ (defArgs st).args).head? = some ar ∧ ar.arg = ("self" : Str)) (h1 : (defScope st).names.lookup ("super" : Str) = some .globalImplicit) (h2 : (defScope st).names.lookup ("self" : Str) = some .local)
    (hbody : ∀ (cdv : Value) (A : Around) (outer : List Env) (s : Shared) (H : Hp) (vs : List V) (Q : VK) (E : XK), Room k (A.deeper (envS qual (defScope st) s.heap.objs.size f cdv cc)) → SelfTxt P K (envS qual (defScope st) s.heap.objs.size f cdv cc) D "self" → sp vs H Q E →
      ∃ t, PX (cxS (L2.CX P w) P w K mg base N qual (defScope st) f cdv cc A outer s H E) (.func (defBody st) (envS qual (defScope st) s.heap.objs.size f cdv cc)) (defBody st) t ∧ t { nx := fun _ H' => Q .non H', rt := Q } (L2.start N vs) H) :
    FnR P w K mg base (L2.CX P w) (k + 1) f (fun vs H Q E => ∃ ws rest, vs = ws ++ rest ∧ ws.length = ps.length ∧ rest.length ≤ sizeLine ∧ ∀ p, H p = none → sp (ws ++ kvV ++ [V.ref p]) (upd H p (.tup rest)) Q E) := by
  obtain ⟨oc, od, doc, pm, an, cda, ct, osl, kc, dc, lc, oc1, oc2, cvs, oc3, file, tf, lk, hcd, hcc, hca, hvs, hfile⟩ := F.ex
  obtain ⟨ar, har, hs⟩ := hp
  refine fn_starS lk hcd hcc S StX.cxUp (hb doc pm an (.ref cda) ct) hkv hks fun A outer s H vs Q E hr hsp => hbody (.ref cda) A outer s H vs Q E hr ?_ hsp
  exact ⟨h1, S.frc, h2, ⟨cc, kc, dc, lc, look_cls S _ _, hcc⟩, ⟨f, oc, od, _, osl, ar, rfl, lk, har, hs⟩, ⟨cda, oc1, oc2, cvs, oc3, file, tf, rfl, hca, hvs, hfile⟩⟩
end
end WC

set_option maxHeartbeats 4000000
namespace WC
open PySem PySem.Spec PyProof.Rows L2
theorem sorted_one {α : Type} {f : α → Int} : ∀ {l r : List α}, l.Perm r → l.Pairwise (fun a b => f a ≤ f b) → r.Pairwise (fun a b => f a < f b) → l = r
  | [], r, p, _, _ => (List.nil_perm.mp p).symm
  | a :: l, [], p, _, _ => absurd (p.length_eq) (by simp)
  | a :: l, b :: r, p, h1, h2 => by
    have e : a = b := by
      rcases List.mem_cons.mp (p.mem_iff.mp (List.mem_cons_self (a := a))) with e | m
      · exact e
      · have q1 := (List.pairwise_cons.mp h2).1 a m
        rcases List.mem_cons.mp (p.mem_iff.mpr (List.mem_cons_self (a := b))) with e | m2
        · exact e.symm
        · have q2 := (List.pairwise_cons.mp h1).1 b m2
          omega
    subst e
    rw [sorted_one ((List.perm_cons a).mp p) (List.pairwise_cons.mp h1).2 (List.pairwise_cons.mp h2).2]
def rowOf (ns : List Int) : List Tri := ns.mapIdx fun k c => ((k : Int), (k : Int) + 1, c)
def ringOf (ns : List Int) : List Tri := ns.mapIdx fun k c => ((k : Int), ((k : Int) + 1) % (ns.length : Int), c)
theorem rowOf_at {ns : List Int} {i : Nat} {c : Int} (h : ns[i]? = some c) : (rowOf ns)[i]? = some ((i : Int), (i : Int) + 1, c) := by
  unfold rowOf
  rw [List.getElem?_mapIdx, h]
  rfl
theorem ringOf_at {ns : List Int} {i : Nat} {c : Int} (h : ns[i]? = some c) : (ringOf ns)[i]? = some ((i : Int), ((i : Int) + 1) % (ns.length : Int), c) := by
  unfold ringOf
  rw [List.getElem?_mapIdx, h]
  rfl
theorem rowOf_len (ns : List Int) : (rowOf ns).length = ns.length := List.length_mapIdx
theorem ringOf_len (ns : List Int) : (ringOf ns).length = ns.length := List.length_mapIdx
theorem rowOf_mem {ns : List Int} {t : Tri} (h : t ∈ rowOf ns) : ∃ (i : Nat) (c : Int), ns[i]? = some c ∧ t = ((i : Int), (i : Int) + 1, c) := by
  obtain ⟨i, hi⟩ := List.mem_iff_getElem?.mp h
  have hl := (List.getElem?_eq_some_iff.mp hi).1
  rw [rowOf_len] at hl
  have q : ns[i]? = some ns[i] := by simp [hl]
  rw [rowOf_at q] at hi
  exact ⟨i, _, q, (Option.some.inj hi).symm⟩
theorem ringOf_mem {ns : List Int} {t : Tri} (h : t ∈ ringOf ns) : ∃ (i : Nat) (c : Int), ns[i]? = some c ∧ t = ((i : Int), ((i : Int) + 1) % (ns.length : Int), c) := by
  obtain ⟨i, hi⟩ := List.mem_iff_getElem?.mp h
  have hl := (List.getElem?_eq_some_iff.mp hi).1
  rw [ringOf_len] at hl
  have q : ns[i]? = some ns[i] := by simp [hl]
  rw [ringOf_at q] at hi
  exact ⟨i, _, q, (Option.some.inj hi).symm⟩
/-- channels by rising producers -/
def Inc (cs : List Tri) : Prop := cs.Pairwise fun a b => a.1 < b.1
theorem rowOf_inc (ns : List Int) : Inc (rowOf ns) := by
  unfold Inc
  rw [List.pairwise_iff_getElem]
  intro i j hi hj hij
  simp only [rowOf, List.getElem_mapIdx]
  omega
theorem ringOf_inc (ns : List Int) : Inc (ringOf ns) := by
  unfold Inc
  rw [List.pairwise_iff_getElem]
  intro i j hi hj hij
  simp only [ringOf, List.getElem_mapIdx]
  omega
theorem nodup_of_inc {α : Type} {cs : List α} {f : α → Int} {g : α → Int × Int} (hg : ∀ a, (g a).1 = f a) (h : cs.Pairwise fun a b => f a < f b) : (cs.map g).Nodup := by
  rw [List.Nodup, List.pairwise_map]
  refine h.imp fun {a b} z e => ?_
  have q := congrArg Prod.fst e
  rw [hg, hg] at q
  omega
end WC

set_option maxHeartbeats 4000000
namespace WC
open PySem PySem.Spec PyProof.Rows L2
abbrev Lk := Int × Int
def PairA (H : Hp) (c : Lk) (v : V) : Prop := ∃ t, v = .ref t ∧ H t = some (.tup [.int c.1, .int c.2])
theorem pairs_same {H H2 : Hp} {cs : List Lk} {vs : List V} (s : Same H H2) (h : Paired (PairA H) cs vs) : Paired (PairA H2) cs vs := Paired.mapP h fun _ _ ⟨t, e, q⟩ => ⟨t, e, s _ _ q⟩
/-- b is a or lies behind links from a -/
inductive Reach (ls : List Lk) (a : Int) : Int → Prop
  | refl : Reach ls a a
  | step {y z : Int} : Reach ls a y → (y, z) ∈ ls → Reach ls a z
theorem nodup_le : ∀ (n : Nat) (l : List Int), l.Nodup → (∀ x ∈ l, 0 ≤ x ∧ x < n) → l.length ≤ n
  | 0, l, _, h => by
    cases l with
    | nil => exact Nat.le_refl _
    | cons a l =>
      have := h a List.mem_cons_self
      omega
  | n + 1, l, nd, h => by
    by_cases m : (n : Int) ∈ l
    · have q := nodup_le n (l.erase (n : Int)) (nd.erase _) fun x hx => by
        obtain ⟨h1, h2⟩ := (nd.mem_erase_iff).mp hx
        have := h x h2
        omega
      rw [List.length_erase_of_mem m] at q
      omega
    · have q := nodup_le n l nd fun x hx => by
        have := h x hx
        have : x ≠ n := fun e => m (e ▸ hx)
        omega
      omega
/-- the search: found so far, still waiting -/
structure Srch (ls : List Lk) (a : Int) (n : Nat) (F W : List Int) : Prop where
  nd : F.Nodup
  rng : ∀ x ∈ F, 0 ≤ x ∧ x < n
  fst : a ∈ F
  sub : ∀ x ∈ W, x ∈ F
  rch : ∀ x ∈ F, Reach ls a x
  clo : ∀ x ∈ F, x ∈ W ∨ ∀ z, (x, z) ∈ ls → z ∈ F
  wl : W.length ≤ F.length
theorem Srch.all {ls : List Lk} {a : Int} {n : Nat} {F : List Int} (h : Srch ls a n F []) : ∀ x, x ∈ F ↔ Reach ls a x := fun x => by
  constructor
  · exact h.rch x
  · intro r
    induction r with
    | refl => exact h.fst
    | step r m ih =>
      rcases h.clo _ ih with q | q
      · cases q
      · exact q _ m
/-- while the links of y are gone through: those of the first m links are seen -/
structure Mid (ls : List Lk) (a : Int) (n : Nat) (y : Int) (m : Nat) (F W : List Int) : Prop where
  nd : F.Nodup
  rng : ∀ x ∈ F, 0 ≤ x ∧ x < n
  fst : a ∈ F
  sub : ∀ x ∈ W, x ∈ F
  rch : ∀ x ∈ F, Reach ls a x
  yF : y ∈ F
  clo : ∀ x ∈ F, x ∈ W ∨ x = y ∨ ∀ z, (x, z) ∈ ls → z ∈ F
  sn : ∀ z, (y, z) ∈ ls.take m → z ∈ F
  wl : W.length ≤ F.length
theorem Srch.mid {ls : List Lk} {a : Int} {n : Nat} {F W : List Int} {y : Int} (h : Srch ls a n F (W ++ [y])) : Mid ls a n y 0 F W :=
  ⟨h.nd, h.rng, h.fst, fun x hx => h.sub x (List.mem_append_left _ hx), h.rch, h.sub y (by simp), fun x hx => by
    rcases h.clo x hx with q | q
    · rcases List.mem_append.mp q with q | q
      · exact .inl q
      · exact .inr (.inl (List.mem_singleton.mp q))
    · exact .inr (.inr q), fun z hz => by simp at hz, by have q := h.wl; rw [List.length_append] at q; omega⟩
theorem Mid.srch {ls : List Lk} {a : Int} {n : Nat} {F W : List Int} {y : Int} (h : Mid ls a n y ls.length F W) : Srch ls a n F W :=
  ⟨h.nd, h.rng, h.fst, h.sub, h.rch, fun x hx => by
    rcases h.clo x hx with q | q | q
    · exact .inl q
    · exact .inr fun z hz => h.sn z (by rw [List.take_length, ← q]; exact hz)
    · exact .inr q, h.wl⟩
theorem Mid.skip {ls : List Lk} {a : Int} {n : Nat} {F W : List Int} {y : Int} {m : Nat} {c : Lk} (h : Mid ls a n y m F W) (hc : ls[m]? = some c) (hz : c.1 = y → c.2 ∈ F) : Mid ls a n y (m + 1) F W :=
  ⟨h.nd, h.rng, h.fst, h.sub, h.rch, h.yF, h.clo, fun z hm => by
    rw [take_snoc hc] at hm
    rcases List.mem_append.mp hm with q | q
    · exact h.sn z q
    · have e := List.mem_singleton.mp q
      have e1 : c.1 = y := by rw [← e]
      have e2 : c.2 = z := by rw [← e]
      rw [← e2]
      exact hz e1, h.wl⟩
theorem Mid.add {ls : List Lk} {a : Int} {n : Nat} {F W : List Int} {y : Int} {m : Nat} {c : Lk} (h : Mid ls a n y m F W) (hc : ls[m]? = some c) (h1 : c.1 = y) (h2 : c.2 ∉ F) (h3 : 0 ≤ c.2 ∧ c.2 < n) : Mid ls a n y (m + 1) (F ++ [c.2]) (W ++ [c.2]) := by
  have hm : (y, c.2) ∈ ls := by
    have q := List.mem_of_getElem? hc
    rw [← h1]
    exact q
  refine ⟨?_, fun x hx => ?_, List.mem_append_left _ h.fst, fun x hx => ?_, fun x hx => ?_, List.mem_append_left _ h.yF, fun x hx => ?_, fun z hz => ?_, by have q := h.wl; rw [List.length_append, List.length_append]; simp only [List.length_cons, List.length_nil]; omega⟩
  · rw [List.nodup_append]
    exact ⟨h.nd, by simp, fun p hp q hq e => h2 (by rw [← List.mem_singleton.mp hq, ← e]; exact hp)⟩
  · rcases List.mem_append.mp hx with q | q
    · exact h.rng x q
    · rw [List.mem_singleton.mp q]; exact h3
  · rcases List.mem_append.mp hx with q | q
    · exact List.mem_append_left _ (h.sub x q)
    · exact List.mem_append_right _ q
  · rcases List.mem_append.mp hx with q | q
    · exact h.rch x q
    · rw [List.mem_singleton.mp q]; exact .step (h.rch y h.yF) hm
  · rcases List.mem_append.mp hx with q | q
    · rcases h.clo x q with r | r | r
      · exact .inl (List.mem_append_left _ r)
      · exact .inr (.inl r)
      · exact .inr (.inr fun z hz => List.mem_append_left _ (r z hz))
    · exact .inl (List.mem_append_right _ q)
  · rw [take_snoc hc] at hz
    rcases List.mem_append.mp hz with q | q
    · exact List.mem_append_left _ (h.sn z q)
    · have e := List.mem_singleton.mp q
      have e2 : c.2 = z := by rw [← e]
      rw [e2]
      exact List.mem_append_right _ (by simp)
end WC

set_option maxHeartbeats 4000000
namespace WC
open PySem PySem.Spec PyProof.Rows L2
/-- a value that has no address -/
def plainV : V → Bool
  | .int _ => true
  | .bl _ => true
  | .non => true
  | .str _ => true
  | _ => false
/-- x is True, x is False, x a plain value -/
theorem op_isB {X : Cx} : OpR X (compareOp .Is) (fun x y H Q => ∃ k : Bool, y = .bl k ∧ plainV x = true ∧ Q (.bl (decide (x = .bl k))) H) := by
  intro pins s σ H x y v u Q I rx ry h
  obtain ⟨k, rfl, hp, q⟩ := h
  obtain rfl : u = Value.bool k := ry
  have fin : ∀ b, decide (x = V.bl k) = b → EP X pins σ Q (.bool b) s := fun b e => ⟨.bl b, H, I, rfl, by rw [← e]; exact q⟩
  cases x with
  | int i =>
    obtain ⟨t, rfl⟩ := rx
    exact wpAny_pure (fin false (by simp))
  | bl b =>
    obtain rfl : v = Value.bool b := rx
    by_cases e : b = k
    · subst e
      exact wpAny_is_self rfl (fin true (by simp))
    · exact wpAny_is_other rfl (fun z => e (Value.bool.inj z)) (fin false (by simp [e]))
  | non =>
    obtain rfl : v = Value.none := rx
    exact wpAny_pure (fin false (by simp))
  | str z =>
    obtain ⟨t, rfl⟩ := rx
    exact wpAny_pure (fin false (by simp))
  | ref a => cases hp
  | byt b => cases hp
  | flt b => cases hp
  | ty n => cases hp
/-- all but what stands at b is as it was -/
def SameB (b : Addr) (H H2 : Hp) : Prop := ∀ c o, H c = some o → c ≠ b → H2 c = some o
theorem SameB.refl (b : Addr) (H : Hp) : SameB b H H := fun _ _ e _ => e
theorem SameB.trans {b : Addr} {H H1 H2 : Hp} (s : SameB b H H1) (t : SameB b H1 H2) : SameB b H H2 := fun c o e n => t c o (s c o e n) n
theorem SameB.of {b : Addr} {H H1 : Hp} (s : Same H H1) : SameB b H H1 := fun c o e _ => s c o e
theorem SameB.upd {b : Addr} {H H1 : Hp} {o : HO} (s : SameB b H H1) : SameB b H (upd H1 b o) := fun c u e n => by
  rw [upd_ne n]
  exact s c u e n
theorem SameB.put {b p : Addr} {H H1 : Hp} {o : HO} (s : SameB b H H1) (hp : H p = none) : SameB b H (L2.upd H1 p o) := fun c u e n => by
  rw [upd_ne (ne_of_none e hp)]
  exact s c u e n
/-- the bag of draws -/
def BagAt (H : Hp) (b : Addr) : Prop := ∃ x f : Int, H b = some (.lst [.int x, .int f])
theorem BagAt.same {H H2 : Hp} {b : Addr} (h : BagAt H b) (s : Same H H2) : BagAt H2 b := let ⟨x, f, e⟩ := h; ⟨x, f, s _ _ e⟩
theorem SameB.free {b p : Addr} {H H2 : Hp} (s : SameB b H H2) (hb : BagAt H2 b) (hp : H2 p = none) : H p = none := by
  cases e : H p with
  | none => rfl
  | some o =>
    by_cases n : p = b
    · obtain ⟨x, f, q⟩ := hb
      rw [n, q] at hp
      cases hp
    · rw [s p o e n] at hp
      cases hp
end WC

set_option maxHeartbeats 4000000
namespace WC
open PySem PySem.Spec PyProof.Rows L2
/-! a def that lets nothing out, called wherever: also while an exception is handled -/
def cxQ (CX : CXT) (P : Program) (w : World) (K : PySem.W.Frag) (mg : Str → Option Value) (base : Heap) (N : List Str) (qual : Str) (sc : Scope) (f : Addr) (cd : Value) (A : Around) (outer : List Env) (s : Shared) (H : Hp) : Cx :=
  { cxOf CX P w K mg base N qual sc f cd A outer s H E0 with calm := false, xe := fun _ _ => False }
structure FnQ (P : Program) (w : World) (K : PySem.W.Frag) (mg : Str → Option Value) (base : Heap) (k : Nat) (f : Addr) (fd : FuncData) (ps : List Str) (sp : Sp) : Prop where
  len : ∀ vs H Q E, sp vs H Q E → vs.length = ps.length
  run : ∀ (A : Around) (outer : List Env) (s : Shared) (H : Hp) (args : Args) (us : List Value) (vs : List V) (Q : VK), L2H.RoomH k A → Env0 P w K mg base A outer s H → BindsTo s fd args (ps.zip us) → Vals vs us → sp vs H Q E0 →
    codeAny (model P w) A (.call (.ref f) args) (fun r s' => match r with | .ok (.ret u) => CE outer P w H s Q u s' | _ => False) s
theorem inv_startQ {CX : CXT} {P : Program} {w : World} {K : PySem.W.Frag} {mg : Str → Option Value} {base : Heap} {N ps : List Str} {qual : Str} {scope : Scope} {f : Addr} {cd : Value} {A : Around} {outer : List Env} {s s1 : Shared} {H : Hp} {us : List Value} {vs : List V}
    (S : FnScope N ps scope) (e0 : Env0 P w K mg base A outer s H) (hl : vs.length = ps.length) (r : Vals vs us)
    (x : InCallC s s.heap.objs.size (bindL (envOfC qual scope s.heap.objs.size f cd).kindOf (ps.zip us) fun _ => none) (cellsFrom (s.heap.objs.size + 1) scope.names []) (bindC (envOfC qual scope s.heap.objs.size f cd).kindOf (ps.zip us) fun _ => none) s1) :
    Inv (cxQ CX P w K mg base N qual scope f cd A outer s H) [] (L2.start N vs) H s1 := by
  have hpl : ps.length ≤ N.length := by have := congrArg List.length S.pre; rw [List.length_take] at this; omega
  obtain ⟨h1, tk, rfl, hk⟩ := x.done
  have noA : ∀ b : Addr, b ∉ (cxQ CX P w K mg base N qual scope f cd A outer s H).ex := fun b z => absurd (show b ∈ ([] : List Addr) from z) (by simp)
  refine ⟨⟨e0.mod, S.kind, rfl, rfl, Nat.le_refl _, fun y z c h1 h2 => ?_, fun y hy => ?_, fun y c _ h => ?_, (fun z => Bool.noConfusion (show false = true from z)), Around.frames_deeper e0.frames, .inr ⟨rfl, rfl⟩, fun b z => absurd z (noA b), e0.bs, e0.bsz, fun b _ _ => noA b, fun b z => absurd z (noA b), e0.funs, e0.frf⟩,
    rfl, e0.bare, Un.kept hk, ⟨_, x.toInCall.ns, fun i y v h1 h2 h3 => ?_⟩, fun y c h => ⟨_, x.cell y c h⟩, e0.hok.fresh (Nat.le_refl _), fun y c h => ?_, fun q hq => ?_, e0.hok.kept hk, ?_⟩
  · exact name_of_addr x.apart (PySem.mem_of_lookup h1) (PySem.mem_of_lookup h2)
  · have hy : scope.names.lookup y = some .cell ∨ scope.names.lookup y = some .free := hy
    rcases hy with hy | hy
    · exact cell_has hy
    · exact absurd rfl (S.nofree _ (PySem.mem_of_lookup hy))
  · exact Nat.le_of_lt (x.above y c (PySem.mem_of_lookup h))
  · have hi : i < vs.length := by
      unfold L2.start at h2
      by_cases hi : i < vs.length
      · exact hi
      · rw [List.getElem?_append_right (by simpa using hi)] at h2
        rw [List.getElem?_replicate] at h2
        split at h2 <;> cases h2
    have ha : vs[i]? = some v := by
      unfold L2.start at h2
      rw [List.getElem?_append_left (by simpa using hi), List.getElem?_map] at h2
      cases e : vs[i]? with
      | none => rw [e] at h2; cases h2
      | some a => rw [e] at h2; cases h2; rfl
    obtain ⟨u, hu, rv⟩ := r.get ha
    have hp : ps[i]? = some y := by
      rw [← S.pre, List.getElem?_take_of_lt (by omega)]; exact h1
    have ndP : ps.Nodup := by rw [← S.pre]; exact S.nd.sublist (List.take_sublist _ _)
    refine ⟨u, rv, ?_⟩
    rcases S.par y (List.mem_of_getElem? hp) with k | k
    · exact .inl ⟨k, bindL_get ndP hp hu k⟩
    · obtain ⟨c, e⟩ := cell_has (n := s.heap.objs.size + 1) k
      refine .inr ⟨.inl k, c, e, ?_⟩
      have q := x.cell y c e
      rw [bindC_get ndP hp hu (by show scope.names.lookup y ≠ _; rw [k]; decide)] at q
      exact q
  · exact e0.hok.fresh (Nat.le_of_lt (x.above y c (PySem.mem_of_lookup h)))
  · exact absurd (show q ∈ ([] : List (Addr × Obj)) from hq) (by simp)
  · unfold L2.start
    show _ = N.length
    rw [List.length_append, List.length_map, List.length_replicate]
    omega
theorem fn_ofQ {CX : CXT} {P : Program} {w : World} {K : PySem.W.Frag} {mg : Str → Option Value} {base : Heap} {k : Nat} {f : Addr} {name qual : Str} {params : Arguments} {body : List Stmt} {scope : Scope} {dV kV doc pm cdv ct oc : Value} {an od : Option Addr}
    {osl : Array (Option Value)} {N ps : List Str} {sp : Sp} (lk : K.lookup f = some ⟨oc, od, .func (PySem.W.fnOf name qual params body scope dV kV doc pm an cdv ct), osl⟩) (hcd : PySem.W.codeIn K cdv qual = true) (S : FnScope N ps scope)
    (len : ∀ vs H Q E, sp vs H Q E → vs.length = ps.length)
    (hbody : ∀ (A : Around) (outer : List Env) (s : Shared) (H : Hp) (vs : List V) (Q : VK), L2H.RoomH k (A.deeper (envOfC qual scope s.heap.objs.size f cdv)) → sp vs H Q E0 →
      ∃ t, PSs (cxQ CX P w K mg base N qual scope f cdv A outer s H) body t ∧ t { nx := fun _ H' => Q .non H', rt := Q } (L2.start N vs) H) :
    FnQ P w K mg base (k + 1) f (PySem.W.fnOf name qual params body scope dV kV doc pm an cdv ct) ps sp := by
  refine ⟨len, fun A outer s H args us vs Q hr e0 hb r hsp => ?_⟩
  have hl := len _ _ _ _ hsp
  have KX : K.In s.heap := e0.mod.kin.keeps fun b o e => (e0.bs b o e).1
  have lim : s.heap.NoLimit := e0.mod.nolimit.keeps fun b o e => (e0.bs b o e).1
  have hkind : ∀ y ∈ ps.zip us, scope.names.lookup y.1 = some .local ∨ (scope.names.lookup y.1 = some .cell ∧ ((cellsFrom (s.heap.objs.size + 1) scope.names []).lookup y.1).isSome = true) := fun ⟨n, v⟩ hy => by
    rcases S.par n (List.of_mem_zip hy).1 with q | q
    · exact .inl q
    · exact .inr ⟨q, PySem.W.cellsFrom_some _ _ _ (.inl q)⟩
  refine codeAny_call_function hr.depth (KX _ _ lk) rfl S.co S.gen rfl (PySem.W.codeRec_of KX hcd) (hb _ _ _ _ ?_)
  refine wpAny_newFunctionEnv_cells S.kind hkind fun env he s1 x => ?_
  subst he
  refine ⟨lim.keeps x.toInCall.keep, codeAny_func ?_⟩
  obtain ⟨t, ht, hq⟩ := hbody A outer s H vs Q (hr.deeper _) hsp
  have I : Inv (cxQ CX P w K mg base N qual scope f cdv A outer s H) [] (L2.start N vs) H s1 := inv_startQ S e0 hl r x
  refine wpAny_mono (ht.run [] s1 (L2.start N vs) H _ I hq) (fun fl s' hs => ?_) fun e s' hs => False.elim hs
  have fin : ∀ {σ' : L2.St} {H' : Hp} {v : V} {u : Value}, Inv (cxQ CX P w K mg base N qual scope f cdv A outer s H) [] σ' H' s' → RelV v u → Q v H' → CE outer P w H s Q u s' :=
    fun {σ' H' v u} J rv q => ⟨v, H', J.os, J.bare, J.base, J.hok, rv, q⟩
  cases fl with
  | ret u =>
    obtain ⟨v, σ', H', J, rv, q⟩ := hs
    exact fin J rv q
  | next =>
    obtain ⟨σ', H', J, q⟩ := hs
    exact fin (v := V.non) (u := Value.none) J rfl q
  | brk =>
    obtain ⟨_, _, _, q⟩ := hs
    exact False.elim q
  | cont =>
    obtain ⟨_, _, _, q⟩ := hs
    exact False.elim q
section
variable {X : Cx} {CX : CXT} {k : Nat} {f C : Addr} {fd : FuncData} {ps : List Str} {sp : Sp} {x m : Str} {q pos apos : Pos} {e o : Expr} {es : List Expr} {ta : TE} {t : TA}
theorem run_fnQ {pins : List (Addr × Obj)} {σ : L2.St} {H : Hp} {s : Shared} {Q : VK} {us : List Value} {vs : List V} (F : FnQ X.prog X.w X.K X.mg X.base k f fd ps sp) (hr : L2H.RoomH k X.A) (hb : Binds X.K fd ps [])
    (I : Inv X pins σ H s) (r : Vals vs us) (h : sp vs H Q E0) : wpAny (model X.prog X.w) X.A (call (.ref f) us) (EP X pins σ Q) X.xe s := by
  have hl : us.length = ps.length := by rw [← r.length]; exact F.len _ _ _ _ h
  have b := hb s us I.kIn (by rw [List.append_nil]; exact hl)
  rw [List.append_nil] at b
  refine wpAny_call (codeAny_mono (F.run X.A X.stack s H ⟨us, []⟩ us vs Q hr I.env0 b r h) fun r s' hq => ?_)
  cases r with
  | error e => exact False.elim hq
  | ok fl =>
    cases fl with
    | ret u => exact I.after hq
    | next => exact False.elim hq
    | brk => exact False.elim hq
    | cont => exact False.elim hq
end
/-- the def that the module's name x holds keeps sp, wherever it is called -/
structure DefQ (P : Program) (w : World) (K : PySem.W.Frag) (mg : Str → Option Value) (base : Heap) (x : Str) (k : Nat) (sp : Sp) : Prop where
  ex : ∃ f fd ps, mg x = some (.ref f) ∧ PySem.W.keepIn K (.ref f) = true ∧ Binds K fd ps [] ∧ FnQ P w K mg base k f fd ps sp
def tCallQ (sp : Sp) (t : TA) : TE := fun σ H Q => t σ H fun vs H1 => sp vs H1 Q E0
theorem pe_cq {X : Cx} {j k : Nat} {sp : Sp} {x : Str} {e : Expr} {es : List Expr} {t : TA} {p pos : Pos} (D : DefQ X.prog X.w X.K X.mg X.base x k sp) (hr : L2H.RoomH j X.A) (ha : PA X (e :: es) t) (hle : k ≤ j := by decide) (hg : Gl X x := by rfl) (hdb : (x == ("__debug__" : Str)) = false := by decide)
    (he : starEach (e :: es) X.env = (false, eval e X.env) :: starEach es X.env := by rfl) (hpl : (backTo pos (starEach es X.env)).any (·.1) = false := by rfl) : PE X (.Call (.Name x p) (e :: es) [] pos) (tCallQ sp t) := by
  obtain ⟨f, fd, ps, hm, hk, hb, F⟩ := D.ex
  refine ⟨fun pins s σ H Q I h => wpAny_Call_Name_kw (ld_glob I hg hm ?_ hdb)⟩
  exact PySem.W.callWith_K (h₀ := X.base) I.ok.mod.kin hk (thn (ha.run pos pins s σ H _ I h) fun us s1 ⟨vs, H1, I1, r, q⟩ => ⟨I1.kIn, run_fnQ F (hr.mono hle) hb I1 r q⟩) he hpl
end WC

set_option maxHeartbeats 4000000
namespace WC
open PySem PySem.Spec PyProof.Rows L2
/-! channels kept in a dict by their pair -/
abbrev pairOf2 (c : Tri) : Int × Int := (c.1, c.2.1)
def entK (c : Tri) : List Key := [Sum.inl c.1, Sum.inl c.2.1]
def ent (c : Tri) : List Key × V := (entK c, .int c.2.2)
theorem entK_inj {a c : Tri} : entK a = entK c ↔ pairOf2 a = pairOf2 c := by
  unfold entK pairOf2
  simp
theorem put_ent (ms : List Tri) (c : Tri) : ∃ ms2 : List Tri, putK (ms.map ent) (entK c) (.int c.2.2) = ms2.map ent ∧ (∀ p : Tri → Prop, (∀ m ∈ ms, p m) → p c → ∀ m ∈ ms2, p m) ∧ ((ms.map pairOf2).Nodup → (ms2.map pairOf2).Nodup) ∧ ms2.length ≤ ms.length + 1 := by
  unfold putK
  by_cases h : ((ms.map ent).any fun kv => decide (kv.1 = entK c)) = true
  · rw [if_pos h]
    refine ⟨ms.map fun m => if entK m = entK c then c else m, ?_, fun p h1 h2 m hm => ?_, fun nd => ?_, by rw [List.length_map]; omega⟩
    · rw [List.map_map, List.map_map]
      refine List.map_congr_left fun m _ => ?_
      show (if entK m = entK c then (entK m, V.int c.2.2) else ent m) = ent (if entK m = entK c then c else m)
      by_cases e : entK m = entK c
      · rw [if_pos e, if_pos e, e]
        rfl
      · rw [if_neg e, if_neg e]
    · obtain ⟨m0, hm0, e⟩ := List.mem_map.mp hm
      by_cases e2 : entK m0 = entK c
      · rw [if_pos e2] at e
        rw [← e]; exact h2
      · rw [if_neg e2] at e
        rw [← e]; exact h1 m0 hm0
    · have q : (ms.map fun m => if entK m = entK c then c else m).map pairOf2 = ms.map pairOf2 := by
        rw [List.map_map]
        refine List.map_congr_left fun m _ => ?_
        show pairOf2 (if entK m = entK c then c else m) = pairOf2 m
        by_cases e : entK m = entK c
        · rw [if_pos e]
          exact (entK_inj.mp e).symm
        · rw [if_neg e]
      rw [q]
      exact nd
  · rw [if_neg h]
    refine ⟨ms ++ [c], by rw [List.map_append]; rfl, fun p h1 h2 m hm => ?_, fun nd => ?_, by rw [List.length_append]; exact Nat.le_refl _⟩
    · rcases List.mem_append.mp hm with q | q
      · exact h1 m q
      · rw [List.mem_singleton.mp q]; exact h2
    · rw [List.map_append, List.nodup_append]
      refine ⟨nd, by simp, fun x hx y hy e => h ?_⟩
      obtain ⟨m, hm, e1⟩ := List.mem_map.mp hx
      have e2 : y = pairOf2 c := by simpa using hy
      rw [List.any_eq_true]
      exact ⟨ent m, List.mem_map_of_mem hm, decide_eq_true (entK_inj.mpr (e1.trans (e.trans e2)))⟩
theorem val_ent : ∀ {ms : List Tri} {c : Tri}, (ms.map pairOf2).Nodup → c ∈ ms → valV (ms.map ent) (entK c) = some (.int c.2.2)
  | [], _, _, h => by cases h
  | m :: ms, c, nd, h => by
    rw [List.map_cons, List.nodup_cons] at nd
    rw [List.map_cons]
    by_cases e : entK m = entK c
    · rw [valV_pos (p := ent m) e]
      rcases List.mem_cons.mp h with q | q
      · rw [q]; rfl
      · exact absurd (List.mem_map.mpr ⟨c, q, (entK_inj.mp e).symm⟩) nd.1
    · rw [valV_neg (p := ent m) e]
      rcases List.mem_cons.mp h with q | q
      · rw [q] at e; exact absurd rfl e
      · exact val_ent nd.2 q
theorem seq_mid {a b : TS} {D : Ends} {σ : L2.St} {H : Hp} (Pv : L2.St → Hp → Prop) (h1 : ∀ N : L2.St → Hp → Prop, (∀ σ H, Pv σ H → N σ H) → a { D with nx := N } σ H) (h2 : ∀ σ H, Pv σ H → b D σ H) : tSeq a b D σ H := h1 _ h2
/-- a channel from an earlier stage of ts to a later one -/
def LkOk (ts : List Int) (c : Tri) : Prop := (∃ i j : Nat, i < j ∧ ts[i]? = some c.1 ∧ ts[j]? = some c.2.1) ∧ 1 ≤ c.2.2 ∧ c.2.2 ≤ 999
theorem acyc_of {ts : List Int} {ms : List Tri} (nd : ts.Nodup) (h : ∀ c ∈ ms, LkOk ts c) : Acyc ms := by
  refine ⟨fun x => ts.idxOf x, fun c hc => ?_⟩
  obtain ⟨⟨i, j, hij, h1, h2⟩, _⟩ := h c hc
  have at_ : ∀ {k : Nat} {x : Int}, ts[k]? = some x → ts.idxOf x = k := fun {k x} e => by
    obtain ⟨hk, e2⟩ := List.getElem?_eq_some_iff.mp e
    have hx : ts.idxOf x < ts.length := List.idxOf_lt_length_of_mem (e2 ▸ List.getElem_mem hk)
    have e3 : ts[ts.idxOf x]? = some x := by rw [List.getElem?_eq_getElem hx, List.getElem_idxOf hx]
    exact (List.getElem?_inj hx nd).mp (e3.trans e.symm)
  show ts.idxOf c.1 < ts.idxOf c.2.1
  rw [at_ h1, at_ h2]
  exact hij
end WC

set_option maxHeartbeats 4000000
namespace WC
open PySem PySem.Spec PyProof.Rows L2
/-! all that lies behind a, by going over the links n times -/
abbrev On (bs : List Bool) (k : Int) : Prop := bs[k.toNat]? = some true
def Shut (ls : List Lk) (a : Int) (bs : List Bool) : Prop := ∀ y z, (y, z) ∈ ls → y = a ∨ On bs y → On bs z
structure Wlk (ls : List Lk) (a : Int) (n : Nat) (bs : List Bool) : Prop where
  len : bs.length = n
  snd : ∀ k : Nat, bs[k]? = some true → Reach ls a k
theorem set_same {bs : List Bool} {k : Nat} (h : bs[k]? = some true) : bs.set k true = bs := by
  apply List.ext_getElem?
  intro i
  rw [List.getElem?_set]
  by_cases e : k = i
  · subst e
    rw [if_pos rfl, if_pos (List.getElem?_eq_some_iff.mp h).1, h]
  · rw [if_neg e]
theorem count_set : ∀ {bs : List Bool} {k : Nat}, bs[k]? = some false → (bs.set k true).count true = bs.count true + 1
  | [], k, h => by simp at h
  | a :: bs, 0, h => by
    have e : a = false := by simpa using h
    subst e
    simp
  | a :: bs, k + 1, h => by
    have h : bs[k]? = some false := by simpa using h
    rw [List.set_cons_succ, List.count_cons, List.count_cons, count_set h]
    omega
structure WMid (ls : List Lk) (a : Int) (n : Nat) (m : Nat) (bs0 bs : List Bool) : Prop where
  w : Wlk ls a n bs
  up : ∀ k : Int, On bs0 k → On bs k
  dn : ∀ y z, (y, z) ∈ ls.take m → y = a ∨ On bs0 y → On bs z
  sh : Shut ls a bs0 → bs = bs0
  ct : bs = bs0 ∨ bs0.count true < bs.count true
theorem WMid.start {ls : List Lk} {a : Int} {n : Nat} {bs : List Bool} (w : Wlk ls a n bs) : WMid ls a n 0 bs bs := ⟨w, fun _ h => h, fun y z h => by simp at h, fun _ => rfl, .inl rfl⟩
theorem WMid.hit {ls : List Lk} {a : Int} {n m : Nat} {bs0 bs : List Bool} {y z : Int} (h : WMid ls a n m bs0 bs) (hc : ls[m]? = some (y, z)) (hy : 0 ≤ y) (hz : 0 ≤ z ∧ z < n) (c : y = a ∨ On bs y) : WMid ls a n (m + 1) bs0 (bs.set z.toNat true) := by
  have hm : (y, z) ∈ ls := List.mem_of_getElem? hc
  have zl : z.toNat < bs.length := by rw [h.w.len]; omega
  have at1 : ∀ {k : Int}, On bs k → On (bs.set z.toNat true) k := fun {k} e => by
    show (bs.set z.toNat true)[k.toNat]? = some true
    rw [List.getElem?_set]
    by_cases q : z.toNat = k.toNat
    · rw [if_pos q, if_pos zl]
    · rw [if_neg q]; exact e
  have atz : On (bs.set z.toNat true) z := by
    show (bs.set z.toNat true)[z.toNat]? = some true
    rw [List.getElem?_set, if_pos rfl, if_pos zl]
  refine ⟨⟨by rw [List.length_set]; exact h.w.len, fun k e => ?_⟩, fun k e => at1 (h.up k e), fun y2 z2 e c2 => ?_, fun s => ?_, ?_⟩
  · rw [List.getElem?_set] at e
    by_cases q : z.toNat = k
    · have ek : (k : Int) = z := by omega
      rw [ek]
      refine .step ?_ hm
      rcases c with c | c
      · rw [c]; exact .refl
      · have := h.w.snd y.toNat c
        have e3 : ((y.toNat : Nat) : Int) = y := by omega
        rw [e3] at this
        exact this
    · rw [if_neg q] at e
      exact h.w.snd k e
  · rw [take_snoc hc] at e
    rcases List.mem_append.mp e with e | e
    · exact at1 (h.dn y2 z2 e c2)
    · have e := List.mem_singleton.mp e
      cases e
      exact atz
  · have e0 := h.sh s
    rw [e0] at c
    have z0 : On bs0 z := s y z hm c
    rw [e0]
    exact set_same z0
  · cases hb : bs[z.toNat]? with
    | none => rw [List.getElem?_eq_none_iff] at hb; omega
    | some v =>
      cases v with
      | true => rw [set_same hb]; exact h.ct
      | false =>
        refine .inr ?_
        rw [count_set hb]
        rcases h.ct with e | e
        · rw [e]; omega
        · omega
theorem WMid.miss {ls : List Lk} {a : Int} {n m : Nat} {bs0 bs : List Bool} {y z : Int} (h : WMid ls a n m bs0 bs) (hc : ls[m]? = some (y, z)) (c : ¬ (y = a ∨ On bs y)) : WMid ls a n (m + 1) bs0 bs :=
  ⟨h.w, h.up, fun y2 z2 e c2 => by
    rw [take_snoc hc] at e
    rcases List.mem_append.mp e with e | e
    · exact h.dn y2 z2 e c2
    · have e := List.mem_singleton.mp e
      cases e
      exact absurd (c2.imp id (h.up _)) c, h.sh, h.ct⟩
theorem WMid.fin {ls : List Lk} {a : Int} {n t : Nat} {bs0 bs : List Bool} (h : WMid ls a n ls.length bs0 bs) (q : Shut ls a bs0 ∨ t ≤ bs0.count true) : Shut ls a bs ∨ t + 1 ≤ bs.count true := by
  rcases h.ct with e | e
  · refine .inl fun y z hm c => ?_
    rw [e] at c
    exact h.dn y z (by rw [List.take_length]; exact hm) c
  · rcases q with q | q
    · have := h.sh q
      rw [this] at e
      omega
    · exact .inr (by omega)
theorem all_on {bs : List Bool} {n : Nat} (hl : bs.length = n) (h : n ≤ bs.count true) {k : Nat} (hk : k < n) : bs[k]? = some true := by
  have e : bs.count true = bs.length := Nat.le_antisymm List.count_le_length (by omega)
  have q := List.count_eq_length.mp e
  have hk2 : k < bs.length := by omega
  have := q (bs[k]) (List.getElem_mem hk2)
  rw [List.getElem?_eq_getElem hk2, ← this]
theorem Wlk.shut {ls : List Lk} {a : Int} {n : Nat} {bs : List Bool} (h : Wlk ls a n bs) (r : ∀ y z, (y, z) ∈ ls → 0 ≤ z ∧ z < n) (q : Shut ls a bs ∨ n ≤ bs.count true) : Shut ls a bs := by
  rcases q with q | q
  · exact q
  · intro y z hm _
    obtain ⟨z0, z1⟩ := r y z hm
    exact all_on h.len q (by omega)
theorem Wlk.all {ls : List Lk} {a : Int} {n : Nat} {bs : List Bool} (h : Wlk ls a n bs) (r : ∀ y z, (y, z) ∈ ls → 0 ≤ z ∧ z < n) (q : Shut ls a bs ∨ n ≤ bs.count true) : ∀ z, Reach ls a z → z = a ∨ On bs z := by
  have s := h.shut r q
  intro z hr
  induction hr with
  | refl => exact .inl rfl
  | step r m ih => exact .inr (s _ _ m ih)
end WC

set_option maxHeartbeats 4000000
namespace WC
open PySem PySem.Spec PyProof.Rows L2
/-! a caught exception with fields: its classes; a method called in a try -/
theorem inst_x {X : Cx} {a D dd : Addr} {oe : Obj} {cls : Value} {d : Option Addr} {pn pins : List (Addr × Obj)} {σ : L2.St} {H : Hp} {s : Shared} {fs : List (Str × V)} (hz : Zc cls d oe) (hf : ∃ vs, oe.data = .fields vs) (I : Inv (X.suite a ((a, oe) :: pn)) pins σ H s) (ec : cls = .ref D) (ed : d = some dd) (ea : H dd = some (.xd fs)) :
    ∃ od, PySem.W.InstAt s.heap a oe D (some od) := by
  subst ec ed
  obtain ⟨ha, _⟩ := I.pin (a, oe) (List.mem_append_left _ List.mem_cons_self)
  obtain ⟨vs, hd⟩ := hf
  have hx : ObjOk X.prog X.w H s.heap dd (.xd fs) := I.hok dd _ ea
  obtain ⟨mA, hns, hr⟩ := hx
  obtain ⟨od, ho, hl⟩ := lookIn_ns hns
  exact ⟨od, ha, hz.1, by unfold PySem.W.notCls; rw [hd] <;> rfl, by rw [hz.2]; exact ho⟩
theorem exc_is {K : PySem.W.Frag} {D : Addr} (C : ExcC K D) : (PySem.W.clsIn K D).isSome = true := by
  obtain ⟨cd, hc, _⟩ := PySem.W.any_some C.hd
  rw [hc]
  rfl
def rIsX (K : PySem.W.Frag) (D a : Addr) (cls : Value) (d : Option Addr) : List V → Hp → VK → Prop := fun xs H Q => ∃ (c : V) (cv : Value) (b : Bool) (dd : Addr) (fs : List (Str × V)), xs = [.ref a, c] ∧ ClsV c cv ∧ PySem.W.kitOne K (.ref D) cv = some b ∧ cls = .ref D ∧ d = some dd ∧ H dd = some (.xd fs) ∧ Q (.bl b) H
def rIsXT (K : PySem.W.Frag) (D a : Addr) (cls : Value) (d : Option Addr) : List V → Hp → VK → Prop := fun xs H Q => ∃ (tp : Addr) (cs : List V) (cvs : List Value) (b : Bool) (dd : Addr) (fs : List (Str × V)), xs = [.ref a, .ref tp] ∧ H tp = some (.tup cs) ∧ Paired ClsV cs cvs ∧ PySem.W.kitAny K (.ref D) cvs = some b ∧ cls = .ref D ∧ d = some dd ∧ H dd = some (.xd fs) ∧ Q (.bl b) H
section
variable {X : Cx} {a D : Addr} {oe : Obj} {cls : Value} {d : Option Addr} {pn : List (Addr × Obj)}
theorem call_isX (C : ExcC X.K D) (hz : Zc cls d oe) (hf : ∃ vs, oe.data = .fields vs) : CallR (X.suite a ((a, oe) :: pn)) (.builtin "isinstance") (rIsX X.K D a cls d) := by
  intro pins s σ H xs us Q I r h
  obtain ⟨c, cv, b, dd, fs, rfl, hcv, e, ec, ed, ea, q⟩ := h
  obtain ⟨u1, u2, rfl, r1, r2⟩ := vals2 r
  have e2 := hcv.eq r2
  subst e2
  obtain rfl : u1 = Value.ref a := r1
  obtain ⟨od, J⟩ := inst_x hz hf I ec ed ea
  exact PySem.W.kia_one (PySem.W.kitx_exc (exc_is C) C.hg C.hk C.hs C.ha C.hn C.ht C.hm) I.kIn J e (fun z => nomatch z) fun tk => ⟨.bl b, H, I.kept (t' := tk) fun _ _ z => z, rfl, q⟩
theorem call_isXT (C : ExcC X.K D) (hz : Zc cls d oe) (hf : ∃ vs, oe.data = .fields vs) : CallR (X.suite a ((a, oe) :: pn)) (.builtin "isinstance") (rIsXT X.K D a cls d) := by
  intro pins s σ H xs us Q I r h
  obtain ⟨tp, cs, cvs, b, dd, fs, rfl, hT, k, e, ec, ed, ea, q⟩ := h
  obtain ⟨u1, u2, rfl, r1, r2⟩ := vals2 r
  obtain rfl : u1 = Value.ref a := r1
  cases (show u2 = Value.ref tp from r2)
  obtain ⟨od, J⟩ := inst_x hz hf I ec ed ea
  obtain ⟨_, its, rv, o, h1, h2, n, h3⟩ := (show ObjOk X.prog X.w H s.heap tp (.tup cs) from I.hok tp _ hT)
  have e3 := ClsV.all k rv
  subst e3
  obtain ⟨oc, od2, dt, sl⟩ := o
  simp only at h2 h3
  subst h2 h3
  exact PySem.W.kia_tup (PySem.W.kitx_exc (exc_is C) C.hg C.hk C.hs C.ha C.hn C.ht C.hm) I.kIn J h1 e (fun z => nomatch z) fun tk => ⟨.bl b, H, I.kept (t' := tk) fun _ _ z => z, rfl, q⟩
end
/-- the method m that is found at C keeps sp -/
structure MetR (P : Program) (w : World) (K : PySem.W.Frag) (mg : Str → Option Value) (base : Heap) (C : Addr) (m : Str) (k : Nat) (sp : Sp) : Prop where
  ex : ∃ f fd ps, Cls K C ∧ Meth K C m f ∧ Binds K fd ps [] ∧ FnOk P w K mg base (L2.CX P w) k f fd ps sp
def tMtS (C : Addr) (m : Str) (sp : Sp) (E : L2.St → XK) (ta : TE) (t : TA) : TE := fun σ H Q => ta σ H fun x H1 => ∃ a dx fs, x = .ref a ∧ H1 a = some (.ins C dx fs) ∧ fs.lookup m = none ∧ t σ H1 fun vs H2 => sp (x :: vs) H2 Q (E σ)
theorem pe_mtS {X : Cx} {C : Addr} {m : Str} {j k : Nat} {sp : Sp} {W : WX} {o e : Expr} {es : List Expr} {ta : TE} {t : TA} {pos apos : Pos} {pl : Sem Bool} (D : MetR X.prog X.w X.K X.mg X.base C m k sp) (ho : PE X o ta) (hr : Room j X.A) (tk : Takes X W) (ha : PA X (e :: es) t) (hle : k ≤ j := by decide)
    (hst : starEach (e :: es) X.env = (false, eval e X.env) :: starEach es X.env := by rfl) (hpl : (backTo pos (starEach es X.env)).any (·.1) = false := by rfl)
    (ht : eval (.Call (.Attribute o m apos) (e :: es) [] pos) X.env = (do
      let ov ← eval o X.env
      standAt apos.atName
      let (f, first) ← holding [ov] (getMethod ov m pl)
      callWith pos f first (backTo pos (starEach (e :: es) X.env)) (backToKw pos (keywordEach [] X.env))) := by rfl) : PE X (.Call (.Attribute o m apos) (e :: es) [] pos) (tMtS C m sp (WE W) ta t) := by
  obtain ⟨f, fd, ps, c, hm, hb, F⟩ := D.ex
  refine ⟨fun pins s σ H Q I h => ?_⟩
  refine PySem.W.methodCall_KW (pl := pl) (thn (ho.run pins s σ H _ I h) fun u s1 ⟨x, H1, I1, rx, a, dx, fs, ex, ea, l, q⟩ => ?_) ht
  subst ex
  obtain rfl : u = Value.ref a := rx
  refine getmeth_ok I1 ea c hm l ?_
  refine PySem.W.callWith_K (first := [.ref a]) (h₀ := X.base) I.ok.mod.kin hm.kp (thn (ha.run pos pins s1 σ H1 _ I1 q) fun us s2 ⟨vs, H2, I2, r, q2⟩ => ⟨I2.kIn, ?_⟩) hst hpl
  exact run_fnS (E := WE W) (us := .ref a :: us) (vs := .ref a :: vs) F (hr.mono hle) hb (passAt tk σ) I2 (.cons rfl r) q2
end WC

set_option maxHeartbeats 4000000
namespace WC
open PySem PySem.Spec PyProof.Rows L2 ClX
/-! a classmethod called with thirty arguments or more -/
section
variable {X : Cx} {CX : CXT} {k : Nat} {C p g : Addr} {mc : Value} {sp : Sp} {E : XK} {o e : Expr} {es : List Expr} {f m : Str} {pos apos : Pos} {ta : TE} {t : TA}
theorem pe_cmethL (he : PE X o ta) (r : CRead X.K C mc) (c : CMet X.K C mc m p g) (F : FnR X.prog X.w X.K X.mg X.base CX k g sp) (hr : Room k X.A) (hx : Passes CX X E) (ha : PA X (e :: es) t)
    (hst : starEach (e :: es) X.env = (false, eval e X.env) :: starEach es X.env := by rfl) (hpl : (backTo pos (starEach es X.env)).any (·.1) = false := by rfl)
    (ht : eval (.Call (.Attribute o m apos) (e :: es) [] pos) X.env = (do
      let ov ← eval o X.env
      standAt apos.atName
      let (f, first) ← holding [ov] (do pure (← getAttr ov m true, ([] : List Value)))
      callWith pos f first (backTo pos (starEach (e :: es) X.env)) (backToKw pos (keywordEach [] X.env))) := by rfl) :
    PE X (.Call (.Attribute o m apos) (e :: es) [] pos) (tCMeth C sp E ta t) := by
  refine ⟨fun pins s σ H Q I h => ?_⟩
  show wpAny _ _ (eval (.Call (.Attribute o m apos) (e :: es) [] pos) X.env) _ _ _
  rw [ht]
  refine wpAny_bind (thn (he.run pins s σ H _ I h) fun u s1 ⟨x, H1, I1, rx, ex, q⟩ => ?_)
  subst ex
  obtain rfl : u = Value.ref C := rx
  refine wpAny_bind (wpAny_standAt (wpAny_bind (wpAny_holding (wpAny_bind (getcmet_ok I1 r c fun s2 I2 => wpAny_pure ?_)))))
  show wpAny _ _ (callWith pos (.ref s1.heap.objs.size) [] (backTo pos (starEach (e :: es) X.env)) []) _ _ _
  refine callwith_cm I2 (base_none I1 (Nat.le_refl _)) c.fi (thn (ha.run pos _ s2 σ H1 _ I2 q) fun us s3 ⟨vs, H2, I3, rv, q2⟩ => ⟨⟨pin_at I3, I3.kIn⟩, ?_⟩) hst hpl
  exact run_cm F hr hx I3 rv q2
end
end WC

set_option maxHeartbeats 4000000
namespace WC
open PySem PySem.Spec PyProof.Rows L2
/-! an own exception made outside a raise, and its field -/
def tNewO (C : Addr) (sp : Sp) (ta : TA) : TE := fun σ H Q => ta σ H fun vs H1 => vs.length ≤ 1000 ∧ ∀ a, H1 a = none → sp (.ref a :: vs) (upd H1 a (exo a C none)) (fun v H2 => v = .non ∧ Q (.ref a) H2) (fun _ _ _ => False)
section
variable {X : Cx} {x : Str} {C : Addr} {k j n : Nat} {fl : List V → List (Str × V)} {e : Expr} {es : List Expr} {ta : TA} {p pos : Pos}
theorem pe_oex {CX : CXT} {fI : Addr} {fd : FuncData} {ps : List Str} {sp : Sp} (T : OexC X.K C) (iC : PySem.W.findIn X.K (.ref C) "__init__" = some (some (.ref fI))) (tI : PySem.W.typeIn X.K (.ref fI) = some (.type "function"))
    (F1 : FnOk X.prog X.w X.K X.mg X.base CX k fI fd ps sp) (hr : Room (k + 1) X.A) (hb : Binds X.K fd ps []) (hx : Passes CX X (fun _ _ _ => False)) (hg : Gl X x) (hm : X.mg x = some (.ref C)) (ha : PA X (e :: es) ta)
    (hdb : (x == ("__debug__" : Str)) = false := by decide) (he : starEach (e :: es) X.env = (false, eval e X.env) :: starEach es X.env := by rfl) (hpl : (backTo pos (starEach es X.env)).any (·.1) = false := by rfl) :
    PE X (.Call (.Name x p) (e :: es) [] pos) (tNewO C sp ta) := by
  refine ⟨fun pins s σ H Q I h => ?_⟩
  obtain ⟨nm, q, N, bs, bm, sn, sub, ab, col, dd, k0, k1, k2, k3, k5, hC, hbm⟩ := T.cls
  refine wpAny_Call_Name_kw (ld_glob I hg hm ?_ hdb)
  refine PySem.W.callWith_K (h₀ := X.base) I.ok.mod.kin T.kC (thn (ha.run pos pins s σ H _ I h) fun us s1 ⟨vs, H1, I1, r1, hz, q1⟩ => ⟨I1.kIn, ?_⟩) he hpl
  show wpAny _ _ (call (.ref C) us) _ _ _
  obtain ⟨hp, g, dr, tk, os⟩ := s1
  have hsz : hp.objs.size ≤ hp.objs.size + 1 := Nat.le_succ _
  have hn : H1 (hp.objs.size + 1) = none := I1.hok.fresh hsz
  have hq := q1 (hp.objs.size + 1) hn
  have kk : ∀ b o, hp.get? b = some o → ((hp.push (PySem.W.kdv_tup us)).push (PySem.HandSPX.excO C hp.objs.size)).get? b = some o := fun b o e => Heap.get?_push_of_some _ (Heap.get?_push_of_some _ e)
  have hget : ((hp.push (PySem.W.kdv_tup us)).push (PySem.HandSPX.excO C hp.objs.size)).get? (hp.objs.size + 1) = some (PySem.HandSPX.excO C hp.objs.size) := by heap_get
  have I2 : Inv X pins σ (upd H1 (hp.objs.size + 1) (exo (hp.objs.size + 1) C none)) ⟨(hp.push (PySem.W.kdv_tup us)).push (PySem.HandSPX.excO C hp.objs.size), g, dr, tk, os⟩ :=
    I1.laid (t' := tk) (a := hp.objs.size + 1) (o := exo (hp.objs.size + 1) C none) (h' := (hp.push (PySem.W.kdv_tup us)).push (PySem.HandSPX.excO C hp.objs.size)) kk hsz (exo_ok hget)
  have r2 : Vals (V.ref (hp.objs.size + 1) :: vs) (Value.ref (hp.objs.size + 1) :: us) := .cons rfl r1
  have hl : (Value.ref (hp.objs.size + 1) :: us).length = ps.length := by
    have e := r2.length
    rw [F1.len _ _ _ _ hq] at e
    exact e.symm
  have hus : us.length ≤ sizeLine := by
    rw [← Paired.length r1, sizeLine_eq]
    omega
  have bnd := hb _ (Value.ref (hp.objs.size + 1) :: us) I2.kIn (by rw [List.append_nil]; exact hl)
  rw [List.append_nil] at bnd
  refine wpAny_call (PySem.HandSPX.call_own F.excBase_ValueError (fun Y => PySem.HandSPX.refsVE_contains Y bm hbm) (I1.kIn _ _ hC) (PySem.W.looks_findIn I1.kIn iC) (fun self => PySem.W.bind_fn I1.kIn self tI) hus
    (codeAny_mono (F1.run _ X.stack _ _ ⟨Value.ref (hp.objs.size + 1) :: us, []⟩ (Value.ref (hp.objs.size + 1) :: us) _ _ (fun _ _ _ => False) (hr.make C us []) (I2.env0.make C us []) bnd r2 hq) fun r s' hq' => ?_))
  cases r with
  | error er => exact hx pins σ _ _ er s' I2 hq'
  | ok fl =>
    cases fl with
    | ret u =>
      obtain ⟨v, H2, J, rv, ev, q2⟩ := I2.after hq'
      subst ev
      exact ⟨rv, .ref (hp.objs.size + 1), H2, J, rfl, q2⟩
    | next => exact False.elim hq'
    | brk => exact False.elim hq'
    | cont => exact False.elim hq'
theorem pe_newx (T : ExcR X.prog X.w X.K X.mg X.base x C k n fl) (hr : Room j X.A) (ha : PA X (e :: es) ta) (hle : k + 1 ≤ j := by decide) (hg : Gl X x := by rfl) (hdb : (x == ("__debug__" : Str)) = false := by decide)
    (he : starEach (e :: es) X.env = (false, eval e X.env) :: starEach es X.env := by rfl) (hpl : (backTo pos (starEach es X.env)).any (·.1) = false := by rfl) : PE X (.Call (.Name x p) (e :: es) [] pos) (tNewO C (spX C n fl) ta) := by
  obtain ⟨f, fd, ps, i1, i2, i3, F⟩ := T.ini
  exact pe_oex T.txt i1 i2 F (hr.mono hle) i3 passL hg T.gC ha hdb he hpl
def tXo (C : Addr) (f : Str) (te : TE) : TE := fun σ H Q => te σ H fun x H1 => ∃ (a d : Addr) (fs : List (Str × V)) (v : V), x = .ref a ∧ H1 a = some (exo a C (some d)) ∧ H1 d = some (exd d fs) ∧ fs.lookup f = some v ∧ Q v H1
theorem pe_xo {te : TE} {f : Str} (T : XfC X.K C) (hno : PySem.W.findIn X.K (.ref C) f = some none) (he : PE X e te) (hb : attributeBase e f X.env (eval e X.env) = eval e X.env := by rfl) : PE X (.Attribute e f pos) (tXo C f te) := by
  refine ⟨fun pins s σ H Q I h => ?_⟩
  refine attr_of hb (thn (he.run pins s σ H _ I h) fun u s1 hh => ?_)
  obtain ⟨x, H1, I1, rx, a, d, fs, v, ex, ea, ed, l, q⟩ := hh
  subst ex
  obtain rfl : u = Value.ref a := rx
  obtain ⟨⟨t1, ho⟩, _⟩ := (show ObjOk X.prog X.w H1 s1.heap a (exo a C (some d)) from I1.hok a _ ea)
  obtain ⟨⟨mA, hns, hr⟩, _⟩ := (show ObjOk X.prog X.w H1 s1.heap d (exd d fs) from I1.hok d _ ed)
  obtain ⟨od, hd, hl⟩ := lookIn_ns hns
  obtain ⟨u, hu, ru⟩ := RelO.some_of (v := v) (o := mA f) (by rw [← l]; exact hr f)
  have J : PySem.W.InstAt s1.heap a _ C (some od) := ⟨ho, rfl, rfl, hd⟩
  exact PySem.HandSPX.exc_get I1.kIn J T.ga T.gg T.exC (PySem.W.findObj_own T.hdC hno rfl (by rw [hl, hu])) (handed_of ru) ⟨v, H1, I1.tok _, ru, q⟩
end
end WC

set_option maxHeartbeats 4000000
namespace WC
open PySem PySem.Spec PyProof.Rows L2
/-! zip(x, y), each a list or a tuple -/
def SqX (K : PySem.W.Frag) (H : Hp) (k : Bool) (a : Addr) (xs : List V) : Prop := match k with
  | true => SqT K H a xs
  | false => SqL K H a xs
def IsX (h : Heap) (k : Bool) (l : Addr) (items : Array Value) : Prop := match k with
  | true => h.IsTuple l items
  | false => h.IsList l items
def ItX (h : Heap) (k : Bool) (it l : Addr) (i : Nat) : Prop := match k with
  | true => h.IsTupleIter it l i
  | false => h.IsListIter it l i
theorem begX (k : Bool) (l : Addr) (items : Array Value) : ∃ o, Begins (.ref l) o (fun h => IsX h k l items) ∧ ∀ h it, h.get? it = some o → ItX h k it l 0 := by
  cases k with
  | true => exact ⟨_, begins_tuple l items, fun h it e => ⟨_, e, rfl, rfl⟩⟩
  | false => exact ⟨_, begins_list l items, fun h it e => ⟨_, e, rfl, rfl⟩⟩
theorem drX {prog : Program} {w : World} {A : Around} (hh : A.handled = none) (k : Bool) (it l : Addr) (hne : l ≠ it) (items : Array Value) : Draws prog w A it [it, l] items.size (fun i v => items[i]? = some v) (fun i h => ItX h k it l i ∧ IsX h k l items) := by
  cases k with
  | true => exact Draws.tuple hh it l hne items
  | false => exact Draws.list hh it l hne items
theorem itx_at {h h2 : Heap} {k : Bool} {it l : Addr} {i : Nat} (x : ItX h k it l i) (e : ∀ o, h.get? it = some o → h2.get? it = some o) : ItX h2 k it l i := by
  cases k with
  | true => exact Heap.IsTupleIter.at x e
  | false => exact Heap.IsListIter.at x e
theorem itx_obj {h : Heap} {k : Bool} {it l : Addr} {i : Nat} (x : ItX h k it l i) : ∃ o, h.get? it = some o ∧ (∀ v, o.data ≠ .cell v) ∧ ∃ vs, o.data = .fields vs := by
  cases k with
  | true =>
    obtain ⟨o, e, _, d⟩ := x
    refine ⟨o, e, ?_, _, d⟩
    intro v q
    rw [d] at q
    cases q
  | false =>
    obtain ⟨o, e, _, d⟩ := x
    refine ⟨o, e, ?_, _, d⟩
    intro v q
    rw [d] at q
    cases q
theorem isx_ne {h : Heap} {k k2 : Bool} {a b it : Addr} {i : Nat} {items : Array Value} (x : IsX h k a items) (y : ItX h k2 it b i) : a ≠ it := fun z => by
  obtain ⟨o2, e2, _, vs, d2⟩ := itx_obj y
  cases k with
  | true =>
    obtain ⟨o1, q1, c1, _, d1⟩ := x
    rw [z, e2] at q1
    cases q1
    rw [d1] at d2
    cases d2
  | false =>
    obtain ⟨o1, q1, c1, _, d1⟩ := x
    rw [z, e2] at q1
    cases q1
    rw [d1] at d2
    cases d2
theorem sqx_is {X : Cx} {pins : List (Addr × Obj)} {σ : L2.St} {H : Hp} {s : Shared} {k : Bool} {a : Addr} {xs : List V} (I : Inv X pins σ H s) (q : SqX X.K H k a xs) : ∃ its : List Value, Vals xs its ∧ IsX s.heap k a its.toArray := by
  cases k with
  | true =>
    obtain ⟨its, rv, p, _⟩ := I.tuple q
    exact ⟨its, rv, p⟩
  | false =>
    obtain ⟨its, rv, p, _⟩ := I.list q
    exact ⟨its, rv, p.isList⟩
theorem sqx_inj {X : Cx} {pins : List (Addr × Obj)} {σ : L2.St} {H : Hp} {s : Shared} {k : Bool} {a : Addr} {xs ys : List V} (I : Inv X pins σ H s) (q : SqX X.K H k a xs) (r : SqX X.K H k a ys) : xs = ys := by
  cases k with
  | true => exact I.tuple_inj q r
  | false => exact I.list_inj q r
def ItzM (K : PySem.W.Frag) (k1 k2 : Bool) (a b : Addr) : It :=
  ⟨fun i H => ∃ (xs ys : List V) (x y : V), SqX K H k1 a xs ∧ SqX K H k2 b ys ∧ xs[i]? = some x ∧ ys[i]? = some y,
    fun i H v H' => ∃ T x y, v = .ref T ∧ H T = none ∧ H' = upd H T (.tup [x, y]) ∧ (∀ xs, SqX K H k1 a xs → xs[i]? = some x) ∧ ∀ ys, SqX K H k2 b ys → ys[i]? = some y,
    fun i H => ∃ xs ys : List V, SqX K H k1 a xs ∧ SqX K H k2 b ys ∧ i ≤ xs.length ∧ i ≤ ys.length ∧ (xs.length = i ∨ ys.length = i)⟩
structure ZpM (z TI TO i1 i2 a b : Addr) : Prop where
  s : ZipSep2 z TI TO i1 i2 [i1, a] [i2, b]
  n1 : a ≠ i1
  n2 : b ≠ i2
theorem turn_zipM {P : Program} {w : World} {K : PySem.W.Frag} {elts : List Expr} {kk : Nat} {tpos : Pos} {k1 k2 : Bool} {a b z TI TO i1 i2 : Addr} (D : ZpM z TI TO i1 i2 a b) :
    Turn P w K (.Tuple elts kk tpos) (ItzM K k1 k2 a b) [z, TI, TO, i1, i2] z (fun i h => IsZip h z TI TO .none ∧ IsTupOf2 h TI (.ref i1) (.ref i2) ∧ (∃ x y, IsTupOf2 h TO x y) ∧ ItX h k1 i1 a i ∧ ItX h k2 i2 b i) where
  mem := by simp
  obj := fun i h st c hc => by
    obtain ⟨hz, hTI, ⟨x, y, hTO⟩, h1, h2⟩ := st
    obtain ⟨o1, e1, d1, _⟩ := itx_obj h1
    obtain ⟨o2, e2, d2, _⟩ := itx_obj h2
    have e' : c = z ∨ c = TI ∨ c = TO ∨ c = i1 ∨ c = i2 := by simpa using hc
    rcases e' with q | q | q | q | q
    · rw [q]; exact ⟨_, hz, fun v q => nomatch q⟩
    · rw [q]; exact ⟨_, hTI, fun v q => nomatch q⟩
    · rw [q]; exact ⟨_, hTO, fun v q => nomatch q⟩
    · rw [q]; exact ⟨o1, e1, d1⟩
    · rw [q]; exact ⟨o2, e2, d2⟩
  keep := fun i h h' st k => by
    obtain ⟨hz, hTI, ⟨x, y, hTO⟩, h1, h2⟩ := st
    exact ⟨k z (by simp) _ hz, k TI (by simp) _ hTI, ⟨x, y, k TO (by simp) _ hTO⟩, itx_at h1 fun o q => k i1 (by simp) o q, itx_at h2 fun o q => k i2 (by simp) o q⟩
  item := by
    intro X hP hw hK hc i pins s σ H E I hf st hg
    subst hP hw hK
    obtain ⟨hz, hTI, ⟨x0, y0, hTO⟩, h1, h2⟩ := st
    obtain ⟨xs, ys, x, y, hqx, hqy, hx, hy⟩ := hg
    obtain ⟨its, rv, p⟩ := sqx_is I hqx
    obtain ⟨its2, rv2, p2⟩ := sqx_is I hqy
    obtain ⟨u, hu, ru⟩ := rv.get hx
    obtain ⟨u2, hu2, ru2⟩ := rv2.get hy
    have hzl : z < s.heap.objs.size := Heap.lt_size hz
    have S := D.s
    have hl1 : i < its.toArray.size := by have := (List.getElem?_eq_some_iff.mp hu).1; simpa using this
    have hl2 : i < its2.toArray.size := by have := (List.getElem?_eq_some_iff.mp hu2).1; simpa using this
    refine wpAny_pyNext_zipD2_item S (drX (A := X.A.in1) (I.ok.hd hc) k1 i1 a D.n1 its.toArray) (drX (A := X.A.in1) (I.ok.hd hc) k2 i2 b D.n2 its2.toArray) hz hTI hTO ⟨h1, p⟩ ⟨h2, p2⟩ hl1 hl2 fun v1 v2 h' tk e1 e2 z' TO' h1' h2' hT hsz hk => ?_
    have e1 : its[i]? = some v1 := by simpa using e1
    have e2 : its2[i]? = some v2 := by simpa using e2
    rw [hu] at e1
    rw [hu2] at e2
    cases e1
    cases e2
    refine ⟨_, rfl, wpAny_letOwnedTupleGo_zip (s := { s with heap := h', toks := tk }) z' fun h'' z'' sb => ?_⟩
    have hT2 : h''.get? s.heap.objs.size = some { cls := .type "tuple", data := .seq #[u, u2] } := (sb.2 _ (Nat.ne_of_gt hzl)).trans hT
    have new : ObjOk X.prog X.w (upd H s.heap.objs.size (.tup [x, y])) h'' s.heap.objs.size (.tup [x, y]) :=
      ⟨by show 2 ≤ sizeLine; decide, [u, u2], .cons ru (.cons ru2 .nil), ⟨_, hT2, rfl, _, rfl⟩⟩
    have I1 : Inv X pins σ (upd H s.heap.objs.size (.tup [x, y])) { s with heap := h'', toks := tk } :=
      I.turnedNew (t' := tk) (ch := [z, TI, TO, i1, i2]) (fun c o hb q => (sb.2 c (fun q' => hb (by simp [q']))).trans (hk c o (fun q' => hb (by simp [q'])) (fun q' => hb (by simp [q'])) (fun q' => hb (by simp [q'])) (fun q' => hb (by simp [q'])) q)) hf (Nat.le_refl _) new
    refine ⟨.ref s.heap.objs.size, _, I1, rfl, ⟨_, x, y, rfl, I.hok.fresh (Nat.le_refl _), rfl, fun l hl => by rw [sqx_inj I hl hqx]; exact hx, fun l hl => by rw [sqx_inj I hl hqy]; exact hy⟩, ⟨z'', ?_, ⟨u, u2, ?_⟩, ?_, ?_⟩, fun c hcm => ?_⟩
    · exact (sb.2 _ S.TIz).trans (hk _ _ S.TIz S.TITO S.TIi1 S.TIi2 hTI)
    · exact (sb.2 _ S.TOz).trans TO'
    · exact itx_at h1'.1 fun o q => (sb.2 _ (Ne.symm S.zi1)).trans q
    · exact itx_at h2'.1 fun o q => (sb.2 _ (Ne.symm S.zi2)).trans q
    · have hlt : c < s.heap.objs.size := by
        have e' : c = z ∨ c = TI ∨ c = TO ∨ c = i1 ∨ c = i2 := by simpa using hcm
        rcases e' with q | q | q | q | q
        · rw [q]; exact hzl
        · rw [q]; exact Heap.lt_size hTI
        · rw [q]; exact Heap.lt_size hTO
        · rw [q]; obtain ⟨_, e1, _⟩ := itx_obj h1; exact Heap.lt_size e1
        · rw [q]; obtain ⟨_, e2, _⟩ := itx_obj h2; exact Heap.lt_size e2
      rw [upd_ne (Nat.ne_of_lt hlt)]
      exact (hf c hcm).1
  done := by
    intro X hP hw hK hc i pins s σ H E I hf st hg
    subst hP hw hK
    obtain ⟨hz, hTI, ⟨x0, y0, hTO⟩, h1, h2⟩ := st
    obtain ⟨xs, ys, hqx, hqy, g1, g2, hend⟩ := hg
    obtain ⟨its, rv, p⟩ := sqx_is I hqx
    obtain ⟨its2, rv2, p2⟩ := sqx_is I hqy
    have l1 := rv.length
    have l2 := rv2.length
    refine wpAny_pyNext_zipD2_end D.s (drX (A := X.A.in1) (I.ok.hd hc) k1 i1 a D.n1 its.toArray) (drX (A := X.A.in1) (I.ok.hd hc) k2 i2 b D.n2 its2.toArray) hz hTI hTO ⟨h1, p⟩ ⟨h2, p2⟩ (by simp; omega) (by simp; omega) (by simp; omega) fun h' tk hk => ⟨rfl, I.turnedL (t' := tk) (ch := [z, TI, TO, i1, i2]) (fun c o hb q =>
      hk c o (fun q' => hb (by simp [q'])) (fun q' => hb (by simp [q'])) (fun q' => hb (by simp [q'])) (fun q' => hb (by simp [q'])) q) hf⟩
  self := fun A i s Q E st h => wpAny_pyIter_zip st.1 h
def iZipM (K : PySem.W.Frag) (ta : TA) : TI := fun σ H R => ta σ H fun vs H1 => ∃ a b xs ys k1 k2, vs = [.ref a, .ref b] ∧ SqX K H1 k1 a xs ∧ SqX K H1 k2 b ys ∧ R (ItzM K k1 k2 a b) H1
theorem isx_lt {h : Heap} {k : Bool} {a : Addr} {items : Array Value} (x : IsX h k a items) : a < h.objs.size := by
  cases k with
  | true => obtain ⟨o, e, _⟩ := x; exact Heap.lt_size e
  | false => obtain ⟨o, e, _⟩ := x; exact Heap.lt_size e
theorem pi_zipM {X : Cx} {e e2 : Expr} {ta : TA} {p pos tpos : Pos} {elts : List Expr} {kk : Nat} (hm : X.mg "zip" = none) (ha : PA X [e, e2] ta) (hg : Gl X "zip" := by rfl)
    (hs : starEach [e, e2] X.env = (false, eval e X.env) :: starEach [e2] X.env := by rfl) (hpl : (backTo pos (starEach [e2] X.env)).any (·.1) = false := by rfl) :
    PI X (.Tuple elts kk tpos) (.Call (.Name "zip" p) [e, e2] [] pos) (iZipM X.K ta) := by
  refine ⟨fun pins s σ H R I h => ?_⟩
  refine Call_ (ld_blt I hg hm PyProof.Rows.boot_zip (PyProof.Rows.callWith_type1 (thn (ha.run pos pins s σ H _ I h) fun us s1 ⟨vs, H1, I1, r1, q1⟩ => ?_) hs hpl))
  obtain ⟨a, b, xs, ys, k1, k2, ex, hqx, hqy, q⟩ := q1
  subst ex
  cases r1 with
  | cons r rr =>
    cases rr with
    | cons r' rr =>
      cases rr
      cases r
      cases r'
      obtain ⟨its, rv, p1⟩ := sqx_is I1 hqx
      obtain ⟨its2, rv2, p2⟩ := sqx_is I1 hqy
      obtain ⟨o1, B1, g1⟩ := begX k1 a its.toArray
      obtain ⟨o2, B2, g2⟩ := begX k2 b its2.toArray
      have l1 := isx_lt p1
      have l2 := isx_lt p2
      refine zip_begins2 B1 B2 p1 p2 fun h' hz hTI hTO ho1 ho2 hsz hk => wpAny_pyIter_zip hz ?_
      have I2 : Inv X pins σ H1 { s1 with heap := h' } := I1.kept (t' := s1.toks) hk
      have D : ZpM (s1.heap.objs.size + 4) (s1.heap.objs.size + 2) (s1.heap.objs.size + 3) s1.heap.objs.size (s1.heap.objs.size + 1) a b :=
        ⟨zip_sep2 (fun c hc => by rw [List.mem_singleton.mp hc]; exact l1) (fun c hc => by rw [List.mem_singleton.mp hc]; exact l2), Nat.ne_of_lt l1, Nat.ne_of_lt (Nat.lt_succ_of_lt l2)⟩
      refine ⟨s1.heap.objs.size + 4, [s1.heap.objs.size + 4, s1.heap.objs.size + 2, s1.heap.objs.size + 3, s1.heap.objs.size, s1.heap.objs.size + 1], _, _, H1, rfl, I2, turn_zipM D, ⟨hz, hTI, ⟨_, _, hTO⟩, g1 _ _ ho1, g2 _ _ ho2⟩, fun c hcm => ?_, q⟩
      have e' : c = s1.heap.objs.size + 4 ∨ c = s1.heap.objs.size + 2 ∨ c = s1.heap.objs.size + 3 ∨ c = s1.heap.objs.size ∨ c = s1.heap.objs.size + 1 := by simpa using hcm
      have hle : s1.heap.objs.size ≤ c := by
        rcases e' with z | z | z | z | z
        · rw [z]; exact Nat.le_add_right _ _
        · rw [z]; exact Nat.le_add_right _ _
        · rw [z]; exact Nat.le_add_right _ _
        · rw [z]; exact Nat.le_refl _
        · rw [z]; exact Nat.le_add_right _ _
      exact I1.fpOk hle (I1.hok.fresh hle)
theorem walk_zipM {K : PySem.W.Frag} {k1 k2 : Bool} {a b : Addr} {xs ys : List V} (hl : xs.length = ys.length) : Walk (ItzM K k1 k2 a b) xs.length (fun H => SqX K H k1 a xs ∧ SqX K H k2 b ys) (YPair (fun i => xs[i]?) (fun i => ys[i]?)) := by
  refine ⟨fun i _ hi q => ⟨xs, ys, xs[i], ys[i], q.1, q.2, by simp [hi], by simp [hl ▸ hi]⟩, fun _ q => ⟨xs, ys, q.1, q.2, Nat.le_refl _, by omega, .inl rfl⟩, fun i H v H2 _ q y => ?_⟩
  obtain ⟨T, x, z, h1, h2, h3, h4, h5⟩ := y
  exact ⟨T, x, z, h1, h2, h3, h4 xs q.1, h5 ys q.2⟩
/-- readings that name the written part -/
theorem c_isi {X : Cx} {K : PySem.W.Frag} (h : X.K = K := by rfl) : CallR X (.builtin "isinstance") (rIsi K) := by
  subst h
  exact call_isi
theorem c_lenS {X : Cx} {K : PySem.W.Frag} (h : X.K = K := by rfl) : CallR X (.builtin "len") (fun xs H Q => ∃ p ys, xs = [.ref p] ∧ (SqL K H p ys ∨ SqT K H p ys) ∧ Q (.int ys.length) H) := by
  subst h
  exact call_len_seq
end WC

set_option maxHeartbeats 4000000
namespace WC
open PySem PySem.Spec PyProof.Rows L2
/-! small rules -/
theorem pe_mtr {X : Cx} {C : Addr} {m : Str} {j k : Nat} {sp : Sp} {E : XK} {o e : Expr} {es : List Expr} {ta : TE} {t : TA} {pos apos : Pos} {pl : Sem Bool} (D : MetR X.prog X.w X.K X.mg X.base C m k sp) (ho : PE X o ta) (hr : Room j X.A) (hx : Passes (L2.CX X.prog X.w) X E) (ha : PA X (e :: es) t) (hle : k ≤ j := by decide)
    (hst : starEach (e :: es) X.env = (false, eval e X.env) :: starEach es X.env := by rfl) (hpl : (backTo pos (starEach es X.env)).any (·.1) = false := by rfl)
    (ht : eval (.Call (.Attribute o m apos) (e :: es) [] pos) X.env = (do
      let ov ← eval o X.env
      standAt apos.atName
      let (f, first) ← holding [ov] (getMethod ov m pl)
      callWith pos f first (backTo pos (starEach (e :: es) X.env)) (backToKw pos (keywordEach [] X.env))) := by rfl) : PE X (.Call (.Attribute o m apos) (e :: es) [] pos) (tMeth C m sp [] E ta t) := by
  obtain ⟨f, fd, ps, c, hm, hb, F⟩ := D.ex
  exact pe_meth (pl := pl) ho c hm F (hr.mono hle) hb .nil hx ha hst hpl ht
theorem pe_mtr0 {X : Cx} {C : Addr} {m : Str} {j k : Nat} {sp : Sp} {E : XK} {o : Expr} {ta : TE} {pos apos : Pos} {pl : Sem Bool} (D : MetR X.prog X.w X.K X.mg X.base C m k sp) (ho : PE X o ta) (hr : Room j X.A) (hx : Passes (L2.CX X.prog X.w) X E) (hle : k ≤ j := by decide)
    (ht : eval (.Call (.Attribute o m apos) [] [] pos) X.env = (do
      let ov ← eval o X.env
      standAt apos.atName
      let (f, first) ← holding [ov] (getMethod ov m pl)
      callWith pos f first (backTo pos (starEach [] X.env)) (backToKw pos (keywordEach [] X.env))) := by rfl) : PE X (.Call (.Attribute o m apos) [] [] pos) (tMeth C m sp [] E ta tNil) := by
  obtain ⟨f, fd, ps, c, hm, hb, F⟩ := D.ex
  exact pe_meth0 (pl := pl) ho c hm F (hr.mono hle) hb .nil hx ht
/-- C(*e) -/
def tMake1 (K : PySem.W.Frag) (C : Addr) (sp : Sp) (E : XK) (te : TE) : TE := fun σ H Q => te σ H fun y H1 => ∃ a xs, y = V.ref a ∧ (SqT K H1 a xs ∨ SqL K H1 a xs) ∧ ∀ x dx, H1 x = none → H1 dx = none → dx ≠ x →
  sp (V.ref x :: xs) (upd (upd H1 dx (.own x)) x (.ins C dx [])) (fun v H2 => v = .non ∧ Q (.ref x) H2) E
theorem pe_ccs1 {X : Cx} {j k : Nat} {C : Addr} {sp : Sp} {E : XK} {x : Str} {e : Expr} {te : TE} {p sp_ pos : Pos} (D : ClsR X.prog X.w X.K X.mg X.base C k sp) (hm : X.mg x = some (.ref C)) (hr : Room j X.A) (hx : Passes (L2.CX X.prog X.w) X E) (he : PE X e te) (hle : k + 1 ≤ j := by decide) (hg : Gl X x := by rfl) (hdb : (x == ("__debug__" : Str)) = false := by decide)
    (hst : starEach [.Starred e sp_] X.env = [(true, eval e X.env)] := by rfl) : PE X (.Call (.Name x p) [.Starred e sp_] [] pos) (tMake1 X.K C sp E te) := by
  obtain ⟨f, M, F⟩ := D.ex
  refine ⟨fun pins s σ H Q I h => ?_⟩
  refine wpAny_Call_Name_kw (ld_glob I hg hm ?_ hdb)
  refine PySem.W.callWith_S (h₀ := X.base) I.ok.mod.kin M.kp (thn (he.run pins s σ H _ I h) fun v s1 ⟨y, H1, I1, ry, a, xs, ey, hxs, q⟩ => ?_) hst
  subst ey
  obtain rfl : v = Value.ref a := ry
  exact StX.star_any I1 hxs fun us s2 I2 rv => ⟨I2.kIn, StX.run_makeR M F (hr.mono hle) hx I2 rv q⟩
theorem pe_cvalK {X : Cx} {K : PySem.W.Frag} {e : Expr} {ta : TE} {f : Str} {pos : Pos} (he : PE X e ta) (hb : attributeBase e f X.env (eval e X.env) = eval e X.env := by rfl) (h : X.K = K := by rfl) : PE X (.Attribute e f pos) (ClX.tCVal K ta f) := by
  subst h
  exact ClX.pe_cval he hb
theorem pi_revK {X : Cx} {K : PySem.W.Frag} {tg e : Expr} {te : TE} {p pos : Pos} (hm : X.mg "reversed" = none) (he : PE X e te) (hg : Gl X "reversed" := by rfl) (hs : starEach [e] X.env = (false, eval e X.env) :: starEach [] X.env := by rfl) (h : X.K = K := by rfl) : PI X tg (.Call (.Name "reversed" p) [e] [] pos) (RT.iRevA K te) := by
  subst h
  exact RT.pi_revA hg hm he hs
theorem i_seq {X : Cx} {K : PySem.W.Frag} (h : X.K = K := by rfl) : IxR X (rIx K) := by
  subst h
  exact ix_seq
theorem walk_revT {K : PySem.W.Frag} {a : Addr} {xs : List V} : Walk (RT.ItvT K a xs.length) xs.length (fun H => SqT K H a xs) (fun i H x H' => H' = H ∧ xs[xs.length - 1 - i]? = some x) := by
  refine ⟨fun i _ hi q => ⟨hi, xs, xs[xs.length - 1 - i]'(by omega), q, by rw [List.getElem?_eq_getElem]⟩, fun _ q => Nat.le_refl _, fun i H v H2 _ q y => ⟨y.1, y.2 xs q⟩⟩
/-- an own error leaves: its dict is new, all else stands -/
def ErrX (E : XK) (C : Addr) (H : Hp) (fs : List (Str × V)) : Prop := ∀ H2 d, Same H H2 → H d = none → H2 d = some (.xd fs) → E (.ref C) (some d) H2
theorem ErrX.on {E : XK} {C : Addr} {H H1 : Hp} {fs : List (Str × V)} (h : ErrX E C H fs) (s : Same H H1) : ErrX E C H1 fs := fun H2 d s2 hd e => h H2 d (s.trans s2) (s.free hd) e
theorem ErrX.new {E : XK} {C : Addr} {H : Hp} {fs : List (Str × V)} (h : ErrX E C H fs) : ∀ d, H d = none → E (.ref C) (some d) (upd H d (.xd fs)) := fun d hd => h _ d (Same.new hd) hd upd_same
theorem fld4_none {m : Str} {a b c d : V} (h1 : m ≠ "stages") (h2 : m ≠ "channels") (h3 : m ≠ "_incoming") (h4 : m ≠ "_outgoing") : List.lookup m [(("stages" : Str), a), (("channels" : Str), b), (("_incoming" : Str), c), (("_outgoing" : Str), d)] = none := by
  simp only [List.lookup_cons, beq_eq_false_iff_ne.mpr h1, beq_eq_false_iff_ne.mpr h2, beq_eq_false_iff_ne.mpr h3, beq_eq_false_iff_ne.mpr h4, List.lookup_nil]
theorem bt_bool : bootBuiltins "bool" = some (.type "bool") := by decide +kernel
theorem bt_reversed : bootBuiltins "reversed" = some (.type "reversed") := by decide +kernel
end WC

set_option maxHeartbeats 4000000
namespace WC
open PySem PySem.Spec PyProof.Rows L2
/-! an own exception without fields: X(), and isinstance of it -/
structure ExcN (K : PySem.W.Frag) (mg : Str → Option Value) (x : Str) (C : Addr) : Prop where
  ex : ∃ B newId initId bmB, ExcBaseFacts B newId initId bmB ∧ PySem.W.excIn K C bmB newId = true
  gC : mg x = some (.ref C)
  kC : PySem.W.keepIn K (.ref C) = true
  sub : PySem.W.subIn K (.ref C) (.type "BaseException") = some true
  ty : PySem.W.typeIn K (.ref C) = some (.type "type")
def ErrN (E : XK) (C : Addr) (H : Hp) : Prop := ∀ H2, Same H H2 → E (.ref C) none H2
theorem ErrN.on {E : XK} {C : Addr} {H H1 : Hp} (h : ErrN E C H) (s : Same H H1) : ErrN E C H1 := fun H2 s2 => h H2 (s.trans s2)
section
variable {X : Cx} {x : Str} {C : Addr} {p pos : Pos}
theorem pmk_n (T : ExcN X.K X.mg x C) (hg : Gl X x := by rfl) (hdb : (x == ("__debug__" : Str)) = false := by decide) : PMk X (.Call (.Name x p) [] [] pos) (fun _ H Q => Q (.ref C) none H) := by
  obtain ⟨B, newId, initId, bmB, F, q⟩ := T.ex
  intro pins s σ H Q I h
  refine wpAny_Call_Name_kw (ld_glob I hg T.gC ?_ hdb)
  refine PySem.W.callWith_K0 I.kIn T.kC ?_
  show wpAny _ _ (call (.ref C) []) _ _ _
  obtain ⟨bm, N, nm, qn, bs, hdct, sn, sub, ab, col, dd, k0, k1, k2, k3, k5, mN, hC, hN, hni, Z⟩ := exc_obj I.kIn q
  refine wpAny_call_exc_subT F Z hC hN hni (fun h' e hm => ?_) (Nat.zero_le _)
  exact mk_of I hm (raises_own T.sub T.ty) h (I.hok.gone hm.new)
end
def rIsN (K : PySem.W.Frag) (D a : Addr) (cls : Value) (d : Option Addr) : List V → Hp → VK → Prop := fun xs H Q => ∃ (c : V) (cv : Value) (b : Bool), xs = [.ref a, c] ∧ ClsV c cv ∧ PySem.W.kitOne K (.ref D) cv = some b ∧ cls = .ref D ∧ d = none ∧ Q (.bl b) H
def rIsNT (K : PySem.W.Frag) (D a : Addr) (cls : Value) (d : Option Addr) : List V → Hp → VK → Prop := fun xs H Q => ∃ (tp : Addr) (cs : List V) (cvs : List Value) (b : Bool), xs = [.ref a, .ref tp] ∧ H tp = some (.tup cs) ∧ Paired ClsV cs cvs ∧ PySem.W.kitAny K (.ref D) cvs = some b ∧ cls = .ref D ∧ d = none ∧ Q (.bl b) H
section
variable {X : Cx} {a D : Addr} {oe : Obj} {cls : Value} {d : Option Addr} {pn : List (Addr × Obj)}
theorem inst_n {pins : List (Addr × Obj)} {σ : L2.St} {H : Hp} {s : Shared} (hz : Zc cls d oe) (hf : ∃ vs, oe.data = .fields vs) (I : Inv (X.suite a ((a, oe) :: pn)) pins σ H s) (ec : cls = .ref D) (ed : d = none) : PySem.W.InstAt s.heap a oe D none := by
  subst ec ed
  obtain ⟨hget, _⟩ := I.pin (a, oe) (List.mem_append_left _ List.mem_cons_self)
  obtain ⟨vs, hv⟩ := hf
  obtain ⟨oc, od, oda, osl⟩ := oe
  obtain ⟨h1, h2⟩ := hz
  dsimp only at h1 h2 hv
  subst h1 h2 hv
  exact ⟨hget, rfl, rfl, trivial⟩
theorem call_isN (C : ExcC X.K D) (hz : Zc cls d oe) (hf : ∃ vs, oe.data = .fields vs) : CallR (X.suite a ((a, oe) :: pn)) (.builtin "isinstance") (rIsN X.K D a cls d) := by
  intro pins s σ H xs us Q I r h
  obtain ⟨c, cv, b, rfl, hcv, e, ec, ed, q⟩ := h
  obtain ⟨u1, u2, rfl, r1, r2⟩ := vals2 r
  have e2 := hcv.eq r2
  subst e2
  obtain rfl : u1 = Value.ref a := r1
  exact PySem.W.kia_one (PySem.W.kitx_exc (exc_is C) C.hg C.hk C.hs C.ha C.hn C.ht C.hm) I.kIn (inst_n hz hf I ec ed) e (fun z => nomatch z) fun tk => ⟨.bl b, H, I.kept (t' := tk) fun _ _ z => z, rfl, q⟩
theorem call_isNT (C : ExcC X.K D) (hz : Zc cls d oe) (hf : ∃ vs, oe.data = .fields vs) : CallR (X.suite a ((a, oe) :: pn)) (.builtin "isinstance") (rIsNT X.K D a cls d) := by
  intro pins s σ H xs us Q I r h
  obtain ⟨tp, cs, cvs, b, rfl, hT, k, e, ec, ed, q⟩ := h
  obtain ⟨u1, u2, rfl, r1, r2⟩ := vals2 r
  obtain rfl : u1 = Value.ref a := r1
  cases (show u2 = Value.ref tp from r2)
  obtain ⟨_, its, rv, o, h1, h2, n, h3⟩ := (show ObjOk X.prog X.w H s.heap tp (.tup cs) from I.hok tp _ hT)
  have e3 := ClsV.all k rv
  subst e3
  obtain ⟨oc, od2, dt, sl⟩ := o
  simp only at h2 h3
  subst h2 h3
  exact PySem.W.kia_tup (PySem.W.kitx_exc (exc_is C) C.hg C.hk C.hs C.ha C.hn C.ht C.hm) I.kIn (inst_n hz hf I ec ed) h1 e (fun z => nomatch z) fun tk => ⟨.bl b, H, I.kept (t' := tk) fun _ _ z => z, rfl, q⟩
end
/-- a tuple of texts at the top -/
structure TupG (K : PySem.W.Frag) (mg : Str → Option Value) (x : Str) (xs : List V) : Prop where
  ex : ∃ a, mg x = some (.ref a) ∧ ∀ H : Hp, SqT K H a xs
end WC

set_option maxHeartbeats 4000000
namespace WC
open PySem PySem.Spec PyProof.Rows L2 L2H HotX
/-! lists gone over, and comprehensions, while an exception is handled -/
section
variable {prog : Program} {w : World} {A : Around} {E : Value → Shared → Prop} {s : Shared}
/-- a list iterator's end there: its StopIteration gets the handled one as its context -/
theorem list_out_hot {it l x1 : Addr} {i : Nat} {items : Array Value} {Q : Option Value → Shared → Prop} (hot : HotAt A x1 s.heap) (hi : s.heap.IsListIter it l i) (hl : s.heap.IsList l items) (ho : items[i]? = none)
    (q : ∀ g : Heap, (∀ b o, b ≠ it → s.heap.get? b = some o → g.get? b = some o) → Q none { s with heap := g }) : wpAny (model prog w) A (pyNext (.ref it)) Q E s := by
  obtain ⟨hh, oH, vH, gH, dH, cH⟩ := hot
  obtain ⟨oi, gi_, ci, di⟩ := id hi
  obtain ⟨ol, gl, _, nl, dl⟩ := hl
  have x1it : x1 ≠ it := fun z => by
    rw [z, gi_] at gH
    cases gH
    rw [di] at dH
    cases dH
    cases cH
  unfold pyNext
  refine wpAny_bind (wpAny_attempt (wpAny_callSpecial?_slot (name := Str.ofString "__next__") hi.typeIs slot_listiter_next (wpAny_call_entry slot_listiter_next hi.typeIs entry_listiter_next ?_ (args_listiter_next _))))
  show wpAny _ _ (field (.ref it) 0 >>= _) _ _ _
  refine wpAny_bind (wpAny_field gi_ di (x := .ref l) rfl ?_)
  show wpAny _ _ (if (Value.ref l == Value.none) = true then _ else _) _ _ _
  rw [if_neg (by simp : ¬ (Value.ref l == Value.none) = true)]
  show wpAny _ _ (field (.ref it) 1 >>= _) _ _ _
  refine wpAny_bind (wpAny_field gi_ di (x := .int i 0) rfl ?_)
  show wpAny _ _ (seqItems? (.ref l) >>= _) _ _ _
  refine wpAny_bind (wpAny_seqItems gl dl ?_)
  simp only [Int.toNat_natCast, ho]
  refine wpAny_bind (wpAny_rule (wpAny_bind (wpAny_setField gi_ di (by simp) ?_)))
  show wpAny _ _ (newExc (.type "StopIteration") [] >>= _) _ _ _
  simp only [newExc, newTuple]
  refine wpAny_bind (wpAny_bind (wpAny_newObj_type ?_ (by size_fits)))
  refine wpAny_bind (m := firstArgMember _ _) (wpAny_of_eq (a := Value.none) (by first | rfl | (simp only [firstArgMember]; rfl)) ?_)
  refine wpAny_newObj_type ?_ (by size_fits)
  have st : ∀ {b : Addr} {o : Obj} {f : Obj → Obj} {u1 u2 : Obj}, b ≠ it → s.heap.get? b = some o → (((s.heap.update it f).push u1).push u2).get? b = some o := fun {b o f u1 u2} n e => Heap.get?_push_of_some _ (Heap.get?_push_of_some _ (by rw [Heap.get?_update_other _ _ (Ne.symm n)]; exact e))
  refine raiseNew_hot ⟨hh, oH, vH, st x1it gH, dH, cH⟩ (Nat.ne_of_lt (Heap.lt_size (Heap.get?_push_of_some _ (by rw [Heap.get?_update_other _ _ (Ne.symm x1it)]; exact gH)))) (Heap.get?_push_size _ rfl) rfl (by first | (simp; done) | (simp; omega)) ?_
  refine wpAny_bind (wpAny_isInstance (T := "StopIteration") (b := true) ⟨_, Heap.get?_update_self _ (Heap.get?_push_size _ rfl) rfl, rfl⟩ isSubtype_stop ?_)
  refine wpAny_pure (q _ fun b o n e => ?_)
  rw [Heap.get?_update_other _ _ (Nat.ne_of_gt (Heap.lt_size (Heap.get?_push_of_some _ (by rw [Heap.get?_update_other _ _ (Ne.symm n)]; exact e))))]
  exact st n e
end
theorem turn_listH {P : Program} {w : World} {K : PySem.W.Frag} {tg : Expr} (a it : Addr) : TurnH P w K tg (Itl K a) [it] it (fun i h => h.IsListIter it a i) where
  mem := (turn_list (P := P) (w := w) (K := K) (tg := tg) a it).mem
  obj := (turn_list (P := P) (w := w) (K := K) (tg := tg) a it).obj
  keep := (turn_list (P := P) (w := w) (K := K) (tg := tg) a it).keep
  item := by
    rintro X rfl rfl rfl hc i pins s σ H E I hf st ⟨xs, x, hq, hx⟩
    obtain ⟨its, rv, p, _⟩ := I.list hq
    obtain ⟨u, hu, ru⟩ := rv.get hx
    obtain ⟨f0, f1, f2, f3, f4, f5⟩ := hf it (List.mem_singleton.mpr rfl)
    refine wpAny_pyNext_list_item st p.isList (x := u) (by simpa using hu) fun g sg sb => ?_
    have J : Inv X pins σ H { s with heap := g } := I.turned (t' := s.toks) (fun b o nb eb => (sb.2 b nb).trans eb) f0 f1 f3 f4 f5
    obtain ⟨o, e, c, d⟩ := id sg
    exact ⟨u, rfl, go_of (s := { s with heap := g }) e c d (by decide) ⟨x, H, J, ru, ⟨rfl, fun ys hy => by rw [I.list_inj hy hq]; exact hx⟩, sg, fun b hb => (hf b hb).1⟩⟩
  done := by
    rintro X rfl rfl rfl hc i pins s σ H E I hf st ⟨xs, hq, hx⟩
    obtain ⟨its, rv, p, _⟩ := I.list hq
    obtain ⟨f0, f1, f2, f3, f4, f5⟩ := hf it (List.mem_singleton.mpr rfl)
    have hl := rv.length
    obtain ⟨x1, hot⟩ := hc.at I
    exact list_out_hot hot st p.isList (by simp; omega) fun g eg => ⟨rfl, I.turned (t' := s.toks) (fun b o nb eb => eg b o nb eb) f0 f1 f3 f4 f5⟩
  self := (turn_list (P := P) (w := w) (K := K) (tg := tg) a it).self
theorem pi_listH {X : Cx} {tg l : Expr} {tl : TE} (hl : PE X l tl) : PIH X tg l (iList X.K tl) := by
  refine ⟨fun pins s σ H R I h => thn (hl.run pins s σ H _ I h) fun v s1 ⟨x, H1, I1, r1, a, ex, ⟨xs, hq⟩, q⟩ => ?_⟩
  subst ex
  cases r1
  obtain ⟨its, rv, p, _⟩ := I1.list hq
  refine wpAny_pyIter_list p.isList ⟨s1.heap.objs.size, [s1.heap.objs.size], _, _, H1, rfl, I1.kept (t' := s1.toks) fun b o e => Heap.get?_push_of_some _ e, turn_listH a _, ⟨_, Heap.get?_push_size _ rfl, rfl, rfl⟩, fun b hb => ?_, q⟩
  rw [List.mem_singleton.mp hb]
  exact I1.fpOk (Nat.le_refl _) (I1.hok.fresh (Nat.le_refl _))
end WC

set_option maxHeartbeats 4000000
namespace WC
open PySem PySem.Spec PyProof.Rows L2 L2H HotX
/-- a comprehension while an exception is handled: its block keeps the handled one among the pins -/
theorem pe_lcH {X : Cx} {elt tg iter : Expr} {ifs : List Expr} {scope : Scope} {own : List (Str × Nat)} {pos : Pos} {wi : TI} {g : TG} {tt : TT} {te : TE} (hc : HotC X) (hN : X.N.Nodup) (hi : PIH X tg iter wi) (ok : BlkOk X.N X.env.scope scope own)
    (hg : ∀ (s0 : Shared) (G : Hp) (C : Addr) (cl : List (Str × Addr)) (ip : List Addr), PG (X.blk s0 G scope (compEnvC scope cl C X.env) ip) tg g) (ht : ∀ (s0 : Shared) (G : Hp) (C : Addr) (cl : List (Str × Addr)) (ip : List Addr), PTs (X.blk s0 G scope (compEnvC scope cl C X.env) ip) ifs tt)
    (he : ∀ (s0 : Shared) (G : Hp) (C : Addr) (cl : List (Str × Addr)) (ip : List Addr), PE (X.blk s0 G scope (compEnvC scope cl C X.env) ip) elt te) (hs : ∀ x, foldedSetIterable iter X.env x = pure x := by intro _; rfl) :
    PE X (.ListComp elt [⟨tg, iter, ifs, 0⟩] scope pos) (tLc wi g tt te (own.map (·.2))) := by
  refine ⟨fun pins s σ H Q I h => ?_⟩
  rw [eval_ListComp]
  obtain ⟨p, hot, hp⟩ := hc
  have fr : ∀ y ∈ scope.names, y.2 = .free → ∃ c, X.env.cells.lookup y.1 = some c := fun y hy e => (ok.free y hy e).elim (fun k => I.ok.has _ (.inl k)) (fun k => I.ok.has _ (.inr k))
  refine wpAny_comprehension_free (use := none) rfl hs (closure_ok fr) ok.kind (fun y hy e => by rw [ok.uniq y hy, e]) (thn (hi.run pins s σ H _ I h) fun _ sA hx => thn hx fun _ sB hB => ?_)
  obtain ⟨it, ip, tn, J, HB, rfl, IB, T, tB, fB, q⟩ := hB
  refine wpAny_newObj_type (newEnv_comp ?_) (Nat.zero_le _)
  obtain ⟨D, eD⟩ : ∃ D, D = sB.heap.objs.size := ⟨_, rfl⟩
  rw [← eD]
  obtain ⟨W, ⟨m0, w0⟩, turn⟩ := q D (IB.hok.fresh (Nat.le_of_eq eD.symm))
  obtain ⟨sC, eC⟩ : ∃ sC : Shared, sC = { sB with heap := sB.heap.push { cls := .type "list", data := .seq ([] : List Value).toArray } } := ⟨_, rfl⟩
  have pC : sC.heap = sB.heap.push { cls := .type "list", data := .seq ([] : List Value).toArray } := by rw [eC]
  have IC : Inv X pins σ (upd HB D (.lst [])) sC := by
    rw [eC]
    exact IB.laid (t' := sB.toks) (fun b o e => Heap.get?_push_of_some _ e) (Nat.le_of_eq eD.symm) ⟨Nat.zero_le _, [], 0, .nil, by rw [eD]; exact Heap.get?_push_size _ rfl⟩
  have low : ∀ b ∈ ip, b < D := fun b hb => by
    obtain ⟨o, e, _⟩ := T.obj _ _ tB b hb
    rw [eD]
    exact Heap.lt_size e
  have fC : ∀ b ∈ ip, FpOk X pins (upd HB D (.lst [])) b ∧ b < sC.heap.objs.size := fun b hb => by
    refine ⟨⟨by rw [upd_ne (Nat.ne_of_lt (low b hb))]; exact (fB b hb).1, (fB b hb).2⟩, ?_⟩
    rw [pC, Heap.size_push, ← eD]
    exact Nat.lt_succ_of_lt (low b hb)
  have tC : tn 0 sC.heap := T.keep _ _ _ tB fun b _ o e => by rw [pC]; exact Heap.get?_push_of_some _ e
  have ID := block_start IC ok hN fC
  have kg := hg sC (upd HB D (.lst [])) sC.heap.objs.size (cellsFrom (sC.heap.objs.size + 1) scope.names (cloFrom X.env.cells scope.names [])) ip
  have kt := ht sC (upd HB D (.lst [])) sC.heap.objs.size (cellsFrom (sC.heap.objs.size + 1) scope.names (cloFrom X.env.cells scope.names [])) ip
  have ke := he sC (upd HB D (.lst [])) sC.heap.objs.size (cellsFrom (sC.heap.objs.size + 1) scope.names (cloFrom X.env.cells scope.names [])) ip
  -- the handled exception's object
  have hpC := IC.pin p (List.mem_append_left _ hp)
  have pFs : p.1 ∉ frs X.stack := fun hm => (List.mem_cons.mp (IC.stkSub p.1 hm)).elim hpC.2.2.1 hpC.2.2.2.1
  have pIp : ∀ b ∈ ip, p.1 ≠ b := fun b hb => (fC b hb).1.2.2.2.2.2 p (List.mem_append_left _ hp)
  rw [← eC]
  show codeAny _ _ (.compStart (.ListComp elt [⟨tg, iter, ifs, 0⟩] scope pos) 0 (.ref it) (.ref D) (compEnvC scope (cellsFrom (sC.heap.objs.size + 1) scope.names (cloFrom X.env.cells scope.names [])) sC.heap.objs.size X.env)) (compPost (model X.prog X.w) X.A X.xe none (EP X pins σ Q) (.ref D) sC.heap.objs.size) { sC with heap := pushCells (sC.heap.push { cls := .type "dict", data := .dict #[] }) scope.names }
  obtain ⟨ce, ece⟩ : ∃ ce, ce = compEnvC scope (cellsFrom (sC.heap.objs.size + 1) scope.names (cloFrom X.env.cells scope.names [])) sC.heap.objs.size X.env := ⟨_, rfl⟩
  have ceL : ce.locals = sC.heap.objs.size := by rw [ece]; rfl
  obtain ⟨HC, eHC⟩ : ∃ HC, HC = upd HB D (.lst []) := ⟨_, rfl⟩
  obtain ⟨sD, eSD⟩ : ∃ sD : Shared, sD = { sC with heap := pushCells (sC.heap.push { cls := .type "dict", data := .dict #[] }) scope.names } := ⟨_, rfl⟩
  rw [← ece, ← eHC] at kg kt ke
  rw [← ece, ← eHC, ← eSD] at ID
  rw [← eHC] at IC fC w0 hpC
  rw [← ece, ← eSD]
  have kp : ∀ {b : Addr} {o : Obj}, sC.heap.get? b = some o → sD.heap.get? b = some o := fun {b o} e => by rw [eSD]; exact pushCells_keeps _ _ _ _ (Heap.get?_push_of_some _ e)
  have tD : tn 0 sD.heap := T.keep _ _ _ tC fun b _ o e => kp e
  -- the block with the handled exception among its own pins
  obtain ⟨Y, eY⟩ : ∃ Y : Cx, Y = { X.blk sC HC scope ce ip with pn := [p] } := ⟨_, rfl⟩
  have toY : ∀ {ps : List (Addr × Obj)} {τ : L2.St} {G : Hp} {s' : Shared}, Inv (X.blk sC HC scope ce ip) (p :: ps) τ G s' → Inv Y ps τ G s' := fun {ps τ G s'} Z => by
    rw [eY]
    exact ⟨⟨Z.ok.mod, Z.ok.kind, Z.ok.glob, Z.ok.blt, Z.ok.above, Z.ok.inj, Z.ok.has, Z.ok.cab, Z.ok.hd, Z.ok.frames, Z.ok.stk, Z.ok.exf, Z.ok.bs, Z.ok.bsz, Z.ok.noex, Z.ok.exfs, Z.ok.funs, Z.ok.frf⟩, Z.os, Z.bare, Z.base, Z.loc, Z.cell, Z.free, Z.freeC, Z.pin, Z.hok, Z.len⟩
  have ofY : ∀ {ps : List (Addr × Obj)} {τ : L2.St} {G : Hp} {s' : Shared}, Inv Y ps τ G s' → Inv (X.blk sC HC scope ce ip) (p :: ps) τ G s' := fun {ps τ G s'} Z => by
    rw [eY] at Z
    exact ⟨⟨Z.ok.mod, Z.ok.kind, Z.ok.glob, Z.ok.blt, Z.ok.above, Z.ok.inj, Z.ok.has, Z.ok.cab, Z.ok.hd, Z.ok.frames, Z.ok.stk, Z.ok.exf, Z.ok.bs, Z.ok.bsz, Z.ok.noex, Z.ok.exfs, Z.ok.funs, Z.ok.frf⟩, Z.os, Z.bare, Z.base, Z.loc, Z.cell, Z.free, Z.freeC, Z.pin, Z.hok, Z.len⟩
  have hotY : HotC Y := by
    rw [eY]
    exact ⟨p, hot, List.mem_singleton.mpr rfl⟩
  have I0 : Inv (X.blk sC HC scope ce ip) [p] (wipe σ (own.map (·.2))) HC sD := ⟨ID.ok, ID.os, ID.bare, ID.base, ID.loc, ID.cell, ID.free, ID.freeC, fun z hz => by
    have ez : z = p := by
      rcases List.mem_append.mp hz with m | m
      · cases m
      · exact List.mem_singleton.mp m
    subst ez
    refine ⟨kp hpC.1, hpC.2.1, ?_, pFs, hpC.2.2.2.2⟩
    show z.1 ≠ ce.locals
    rw [ceL]
    exact Nat.ne_of_lt (Heap.lt_size hpC.1), ID.hok, ID.len⟩
  have okF : ∀ {τ : L2.St} {G : Hp} {s' : Shared}, Inv (X.blk sC HC scope ce ip) [p] τ G s' → (∀ b ∈ ip, G b = none) → ∀ b ∈ ip, FpOk Y [] G b := fun {τ G s'} Z zn b hb => by
    rw [eY]
    exact ⟨zn b hb, (Z.ok.exf b hb).1, Z.ok.exfs b hb, .inl hb, fun x c e => (Z.ok.exf b hb).2 x c e, fun z hz => by
      rcases List.mem_append.mp hz with m | m
      · rw [List.mem_singleton.mp m]; exact pIp b hb
      · cases m⟩
  have TY : TurnH Y.prog Y.w Y.K tg J ip it tn := by
    rw [eY]
    exact T
  have YA : Y.A = X.A := by rw [eY]
  have Ym : Y.prog = X.prog ∧ Y.w = X.w ∧ Y.K = X.K := by rw [eY]; exact ⟨rfl, rfl, rfl⟩
  have loop : codeAny (model X.prog X.w) X.A (.compLoop (.ListComp elt [⟨tg, iter, ifs, 0⟩] scope pos) 0 (.ref it) (.ref D) ce) (compPost (model X.prog X.w) X.A X.xe none (EP X pins σ Q) (.ref D) sC.heap.objs.size) sD := by
    refine compLoop_any (fun m s' => ∃ i G, Inv (X.blk sC HC scope ce ip) [p] (wipe σ (own.map (·.2))) G s' ∧ tn i s'.heap ∧ (∀ b ∈ ip, G b = none) ∧ W i m G) ?_ m0 ⟨0, HC, I0, tD, fun b hb => (fC b hb).1.1, w0⟩
    rintro m s5 ⟨i, G5, I5, t5, n5, w5⟩
    rcases turn i m G5 w5 with ⟨stop, qq⟩ | ⟨go, Nx, hNx, step⟩
    · have td := T.done Y Ym.1 Ym.2.1 Ym.2.2 hotY i [] s5 _ G5 (fun _ _ => False) (toY I5) (okF I5 n5) t5 stop
      rw [YA] at td
      refine thnF td fun r s6 ⟨er, J6⟩ => ?_
      subst er
      have I6 := ofY J6
      have I7 : Inv X pins σ G5 s6 := IC.call' (ch := ip) I6.os I6.base I6.hok I6.bare fun b hb => ⟨(fC b hb).1.2.2.2.1, (fC b hb).1.2.1, (fC b hb).1.2.2.2.2.1, (fC b hb).1.2.2.2.2.2⟩
      have nC : G5 sC.heap.objs.size = none := by
        rw [← ceL]
        exact I6.free
      obtain ⟨mm, hn, _⟩ := I6.loc
      have hn : s6.heap.Ns sC.heap.objs.size mm := by rw [← ceL]; exact hn
      obtain ⟨f0, f1, f2, f3, f4, f5⟩ := IC.fpOk (Nat.le_refl _) nC
      exact ⟨mm, hn, fun h'' sb => ⟨.ref D, G5, I7.turned (t' := s6.toks) (fun b o hb e => (sb.2 b hb).trans e) f0 f1 f3 f4 f5, rfl, qq⟩⟩
    · have tv := T.item Y Ym.1 Ym.2.1 Ym.2.2 hotY i [] s5 _ G5 (fun _ _ => False) (toY I5) (okF I5 n5) t5 go
      rw [YA] at tv
      refine thnF tv fun r s6 ⟨u, er, h6⟩ => ?_
      subst er
      refine thnF h6 fun _ s7 ⟨x, G7, J7, r7, y7, t7, n7⟩ => ?_
      have I7 := ofY ((J7).pinned (okF (ofY J7) n7) (T.obj _ _ t7))
      refine thnF (kg.run _ s7 _ G7 x u _ I7 r7 (step x G7 y7)) fun _ s8 ⟨τ8, G8, I8, hw8, q8⟩ => ?_
      refine thnF (kt.run _ s8 τ8 G8 _ I8 q8) fun b s9 ⟨G9, I9, q9⟩ => ?_
      have close : ∀ {s' : Shared} {G' : Hp}, Inv (X.blk sC HC scope ce ip) (p :: ([] ++ pinsAt ip s7.heap)) τ8 G' s' → Nx G' → ∃ m', m' < m ∧ ∃ i G, Inv (X.blk sC HC scope ce ip) [p] (wipe σ (own.map (·.2))) G s' ∧ tn i s'.heap ∧ (∀ b ∈ ip, G b = none) ∧ W i m' G := fun {s' G'} Z nx => by
        obtain ⟨m', lt, w'⟩ := hNx G' nx
        have at_ : ∀ b ∈ ip, ∀ o, s7.heap.get? b = some o → s'.heap.get? b = some o ∧ G' b = none := fun b hb o e =>
          ⟨(Z.pin (b, o) (List.mem_append_right _ (List.mem_cons_of_mem _ (List.mem_append_right _ (mem_pinsAt hb e))))).1, (Z.pin (b, o) (List.mem_append_right _ (List.mem_cons_of_mem _ (List.mem_append_right _ (mem_pinsAt hb e))))).2.1⟩
        have Z1 : Inv (X.blk sC HC scope ce ip) ([p] ++ pinsAt ip s7.heap) τ8 G' s' := Z
        refine ⟨m', lt, i + 1, G', (Z1.unpinned (pins := [p])).weak (by rw [← hw8, wipe_length]) (fun j v e => ?_), T.keep _ _ _ t7 fun b hb o e => (at_ b hb o e).1, fun b hb => ?_, w'⟩
        · rw [← hw8] at e
          exact (wipe_some e).1
        · obtain ⟨o, e, _⟩ := T.obj _ _ t7 b hb
          exact (at_ b hb o e).2
      cases b with
      | false => exact close I9 q9
      | true =>
        simp only [if_true] at q9 ⊢
        refine thnF (ke.run _ s9 τ8 G9 _ I9 q9) fun z sX ⟨yv, GX, IX, rX, acc, dX, lX, nx⟩ => ?_
        exact app_ok (X := X.blk sC HC scope ce ip) IX dX lX rX fun sY IY => close IY nx
  exact codeAny_compStart_list loop (T.self X.A 0 _ _ _ tD loop)
end WC

set_option maxHeartbeats 4000000
namespace WC
open PySem PySem.Spec PyProof.Rows L2 L2H HotX
/-! errors that are known to have no context (L2N), and defs called while one of them is handled -/
theorem okN {P : Program} {w : World} {K : PySem.W.Frag} {mg : Str → Option Value} {base : Heap} {x qual : Str} {st : Stmt} {f : Addr} {fd : FuncData} {N ps : List Str} {k : Nat} {sp : Sp} (F : Fun K x qual st f fd) (S : FnScope N ps (defScope st)) (len : ∀ vs H Q E, sp vs H Q E → vs.length = ps.length)
    (body : ∀ (cdv : Value) (A : Around) (outer : List Env) (s : Shared) (H : Hp) (vs : List V) (Q : VK) (E : XK), Room k (A.deeper (envOfC qual (defScope st) s.heap.objs.size f cdv)) → sp vs H Q E →
      ∃ t, PSs (cxOf (L2N.CX P w) P w K mg base N qual (defScope st) f cdv A outer s H E) (defBody st) t ∧ t { nx := fun _ H' => Q .non H', rt := Q } (start N vs) H) : FnOk P w K mg base (L2N.CX P w) (k + 1) f fd ps sp := by
  obtain ⟨oc, od, kV, doc, pm, an, cdv, ct, osl, rfl, lk, hcd⟩ := F.ex
  exact fn_of lk hcd S len fun A outer s H vs Q E hr hsp => body cdv A outer s H vs Q E hr hsp
theorem okH {P : Program} {w : World} {K : PySem.W.Frag} {mg : Str → Option Value} {base : Heap} {x qual : Str} {st : Stmt} {f : Addr} {fd : FuncData} {N ps : List Str} {k : Nat} {sp : Sp} (F : Fun K x qual st f fd) (S : FnScope N ps (defScope st)) (len : ∀ vs H Q E, sp vs H Q E → vs.length = ps.length)
    (body : ∀ (cdv : Value) (A : Around) (outer : List Env) (s : Shared) (H : Hp) (vs : List V) (Q : VK) (E : XK) (p : Addr × Obj), RoomH k (A.deeper (envOfC qual (defScope st) s.heap.objs.size f cdv)) → HotC (cxH (L2.CX P w) P w K mg base N qual (defScope st) f cdv A outer s H E p) → sp vs H Q E →
      ∃ t, PSs (cxH (L2.CX P w) P w K mg base N qual (defScope st) f cdv A outer s H E p) (defBody st) t ∧ t { nx := fun _ H' => Q .non H', rt := Q } (start N vs) H) : FnH P w K mg base (L2.CX P w) (k + 1) f fd ps sp := by
  obtain ⟨oc, od, kV, doc, pm, an, cdv, ct, osl, rfl, lk, hcd⟩ := F.ex
  exact fn_ofH lk hcd S len fun A outer s H vs Q E p hot hr hsp => body cdv A outer s H vs Q E p hr ⟨p, hot, List.mem_singleton.mpr rfl⟩ hsp
/-- a def of the module that lets out errors without context -/
structure DefN (P : Program) (w : World) (K : PySem.W.Frag) (mg : Str → Option Value) (base : Heap) (x : Str) (k : Nat) (sp : Sp) : Prop where
  ex : ∃ f, mg x = some (.ref f) ∧ PySem.W.keepIn K (.ref f) = true ∧ FnR P w K mg base (L2N.CX P w) k f sp
/-- a def of the module as it runs while an error is handled -/
structure DefH (P : Program) (w : World) (K : PySem.W.Frag) (mg : Str → Option Value) (base : Heap) (x : Str) (k : Nat) (sp : Sp) : Prop where
  ex : ∃ f fd ps, mg x = some (.ref f) ∧ PySem.W.keepIn K (.ref f) = true ∧ Binds K fd ps [] ∧ FnH P w K mg base (L2.CX P w) k f fd ps sp
section
variable {X : Cx} {j k n : Nat} {sp : Sp} {W : WX} {C : Addr} {x : Str} {e : Expr} {es : List Expr} {t ta : TA} {p pos : Pos} {fl : List V → List (Str × V)}
theorem pe_cdN (D : DefN X.prog X.w X.K X.mg X.base x k sp) (hr : Room j X.A) (tk : L2N.Takes X W) (ha : PA X (e :: es) t) (hle : k ≤ j := by decide) (hg : Gl X x := by rfl) (hdb : (x == ("__debug__" : Str)) = false := by decide)
    (he : starEach (e :: es) X.env = (false, eval e X.env) :: starEach es X.env := by rfl) (hpl : (backTo pos (starEach es X.env)).any (·.1) = false := by rfl) : PE X (.Call (.Name x p) (e :: es) [] pos) (fun σ H Q => t σ H fun vs H1 => sp vs H1 Q (WE W σ)) := by
  obtain ⟨f, hm, hk, F⟩ := D.ex
  refine ⟨fun pins s σ H Q I h => wpAny_Call_Name_kw (ld_glob I hg hm ?_ hdb)⟩
  refine PySem.W.callWith_K (h₀ := X.base) I.ok.mod.kin hk (thn (ha.run pos pins s σ H _ I h) fun us s1 ⟨vs, H1, I1, r, q⟩ => ⟨I1.kIn, wpAny_call ?_⟩) he hpl
  refine codeAny_mono (F X.A X.stack s1 H1 us vs Q (WE W σ) (hr.mono hle) I1.env0 r q) fun rr s' hq => ?_
  match rr, hq with
  | .error er, hq => exact tk er s' (L2N.XE.of_call I1 (fun _ _ _ z => z) hq)
  | .ok (.ret u), hq => exact I1.after hq
  | .ok .next, hq => exact False.elim hq
  | .ok .brk, hq => exact False.elim hq
  | .ok .cont, hq => exact False.elim hq
theorem pe_cdH (D : DefH X.prog X.w X.K X.mg X.base x k sp) (hr : RoomH j X.A) (hc : HotC X) (ha : PA X (e :: es) t) (hle : k ≤ j := by decide) (hg : Gl X x := by rfl) (hdb : (x == ("__debug__" : Str)) = false := by decide)
    (he : starEach (e :: es) X.env = (false, eval e X.env) :: starEach es X.env := by rfl) (hpl : (backTo pos (starEach es X.env)).any (·.1) = false := by rfl) : PE X (.Call (.Name x p) (e :: es) [] pos) (tCallS sp (fun _ => E0) t) := by
  obtain ⟨f, fd, ps, hm, hk, hb, F⟩ := D.ex
  exact pe_callH F (hr.mono hle) hc hg hm hk hb (fun σ pins H s er s' I c => passL pins σ H s er s' I c) ha hdb he hpl
/-- an own exception with fields, raised where none is handled: it has no context -/
theorem pmk_xN (T : ExcR X.prog X.w X.K X.mg X.base x C k n fl) (hr : Room j X.A) (ha : PA X (e :: es) ta) (hle : k + 1 ≤ j := by decide) (hg : Gl X x := by rfl) (hdb : (x == ("__debug__" : Str)) = false := by decide)
    (he : starEach (e :: es) X.env = (false, eval e X.env) :: starEach es X.env := by rfl) (hpl : (backTo pos (starEach es X.env)).any (·.1) = false := by rfl) : L2N.PMk X (.Call (.Name x p) (e :: es) [] pos) (tMkO C (spX C n fl) [] ta) := by
  obtain ⟨fI, fd, ps, iC, tI, hb, F1⟩ := T.ini
  have Z := T.txt
  have hr := hr.mono hle
  intro pins s σ H Q I h
  obtain ⟨nm, qn, N, bs, bm, sn, sub, ab, col, dd, k0, k1, k2, k3, k5, hC, hbm⟩ := Z.cls
  refine wpAny_Call_Name_kw (ld_glob I hg T.gC ?_ hdb)
  refine PySem.W.callWith_K (h₀ := X.base) I.ok.mod.kin Z.kC (thn (ha.run pos pins s σ H _ I h) fun us ⟨hp, g, dr, tk, os⟩ ⟨vs, H1, I1, r1, hz, q1⟩ => ⟨I1.kIn, ?_⟩) he hpl
  show wpAny _ _ (call (.ref C) us) _ _ _
  have up : hp.objs.size ≤ hp.objs.size + 1 := Nat.le_succ _
  have hn : H1 (hp.objs.size + 1) = none := I1.hok.fresh up
  have hq := q1 (hp.objs.size + 1) hn
  rw [List.append_nil] at hq
  obtain ⟨g2, eg2⟩ : ∃ g2 : Heap, g2 = (hp.push (PySem.W.kdv_tup us)).push (PySem.HandSPX.excO C hp.objs.size) := ⟨_, rfl⟩
  have kk : ∀ b o, hp.get? b = some o → g2.get? b = some o := fun b o e => by rw [eg2]; exact Heap.get?_push_of_some _ (Heap.get?_push_of_some _ e)
  have at_ : g2.get? (hp.objs.size + 1) = some (PySem.HandSPX.excO C hp.objs.size) := by
    rw [eg2]
    heap_get
  have I2 : Inv X pins σ (upd H1 (hp.objs.size + 1) (exo (hp.objs.size + 1) C none)) ⟨g2, g, dr, tk, os⟩ := I1.laid (t' := tk) (a := hp.objs.size + 1) (o := exo (hp.objs.size + 1) C none) (h' := g2) kk up (exo_ok at_)
  have r2 : Vals (V.ref (hp.objs.size + 1) :: vs) (Value.ref (hp.objs.size + 1) :: us) := .cons rfl r1
  have hl : ((Value.ref (hp.objs.size + 1) :: us) ++ []).length = ps.length := by
    rw [List.append_nil, ← F1.len _ _ _ _ hq]
    exact r2.length.symm
  have hus : us.length ≤ sizeLine := by
    rw [← Paired.length r1, sizeLine_eq]
    omega
  have bnd := hb _ (Value.ref (hp.objs.size + 1) :: us) I2.kIn hl
  rw [List.append_nil] at bnd
  rw [eg2] at I2 bnd
  refine wpAny_call (PySem.HandSPX.call_own F.excBase_ValueError (fun Y => PySem.HandSPX.refsVE_contains Y bm hbm) (I1.kIn _ _ hC) (PySem.W.looks_findIn I1.kIn iC) (fun self => PySem.W.bind_fn I1.kIn self tI) hus
    (codeAny_mono (F1.run _ X.stack _ _ ⟨Value.ref (hp.objs.size + 1) :: us, []⟩ (Value.ref (hp.objs.size + 1) :: us) _ _ (fun _ _ _ => False) (hr.make C us []) (I2.env0.make C us []) bnd r2 hq) fun rr s' hq' => ?_))
  match rr, s', hq' with
  | .error er, s', hq' => exact passL pins σ _ _ er s' I2 hq'
  | .ok (.ret u), ⟨h2, gg, d2, t2, os2⟩, hq' =>
    obtain ⟨v, H2, osE, bare, un, hok, rv, ev, d, fs, ea, ed, hd1, q2⟩ := hq'
    subst ev
    obtain ⟨t0, G, J, kG, ge, hoe, na⟩ := mk_end0 (d2 := d2) (t2 := t2) I1 up (by rw [← eg2]; exact kk) un hok osE bare ea ed hd1
    exact ⟨rv, hp.objs.size + 1, _, _, ⟨G, gg, d2, t2, os2⟩, _, .ref C, some d, rfl, J, kG, ge, hoe, ⟨rfl, rfl, fun ws e => by cases e; rfl⟩, rfl, rfl, na, rfl, bare, raises_own Z.exC Z.tyC, q2⟩
  | .ok .next, s', hq' => exact False.elim hq'
  | .ok .brk, s', hq' => exact False.elim hq'
  | .ok .cont, s', hq' => exact False.elim hq'
end
/-- what never raises may stand in either book -/
theorem off_N {P : Program} {w : World} {K : PySem.W.Frag} {mg : Str → Option Value} {base : Heap} {k : Nat} {f : Addr} {fd : FuncData} {ps : List Str} {sp : Sp} (F : FnOk P w K mg base (L2N.CX P w) k f fd ps sp) (h : ∀ vs H Q E, sp vs H Q E → sp vs H Q E0) : FnOk P w K mg base (L2.CX P w) k f fd ps sp := by
  refine ⟨F.len, fun A outer s H args us vs Q E hr e0 hb r q => codeAny_mono (F.run A outer s H args us vs Q E0 hr e0 hb r (h _ _ _ _ q)) fun rr s' hq => ?_⟩
  match rr, hq with
  | .error er, hq =>
    obtain ⟨_, _, _, _, _, _, _, _, _, _, _, _, z⟩ := hq
    exact z.elim
  | .ok (.ret u), hq => exact hq
  | .ok .next, hq => exact False.elim hq
  | .ok .brk, hq => exact False.elim hq
  | .ok .cont, hq => exact False.elim hq
/-- the handled error of a suite -/
theorem hot_suite {X : Cx} {a : Addr} {oe : Obj} {cls : Value} {d : Option Addr} {pn : List (Addr × Obj)} (hz : L2N.Zn cls d oe) (hf : ∃ vs, oe.data = .fields vs) : HotC (X.suite a ((a, oe) :: pn)) := by
  obtain ⟨vs, e⟩ := hf
  exact ⟨(a, oe), ⟨rfl, vs, e, hz.2.2 vs e⟩, List.mem_cons_self⟩
end WC

set_option maxHeartbeats 4000000
namespace WC
open PySem PySem.Spec PyProof.Rows L2 L2H HotX
/-! a tuple unpacked while an error is handled -/
section
variable {prog : Program} {w : World} {A : Around} {E : Value → Shared → Prop} {s : Shared}
theorem tup_out_hot {it t x1 : Addr} {i : Nat} {items : Array Value} {Q : Option Value → Shared → Prop} (hot : HotAt A x1 s.heap) (hi : IsTupIter s.heap it t i) (ht : IsTup s.heap t items) (ho : items[i]? = none)
    (q : ∀ g : Heap, (∀ b o, b ≠ it → s.heap.get? b = some o → g.get? b = some o) → Q none { s with heap := g }) : wpAny (model prog w) A (pyNext (.ref it)) Q E s := by
  obtain ⟨hh, oH, vH, gH, dH, cH⟩ := hot
  obtain ⟨oi, gi_, ci, di⟩ := id hi
  obtain ⟨ol, gl, _, nl, dl⟩ := ht
  have x1it : x1 ≠ it := fun z => by
    rw [z, gi_] at gH
    cases gH
    rw [di] at dH
    cases dH
    cases cH
  unfold pyNext
  refine wpAny_bind (wpAny_attempt (wpAny_callSpecial?_slot (name := Str.ofString "__next__") hi.typeIs slot_tupleiter_next (wpAny_call_entry slot_tupleiter_next hi.typeIs entry_tupleiter_next ?_ (args_tupleiter_next _))))
  show wpAny _ _ (field (.ref it) 0 >>= _) _ _ _
  refine wpAny_bind (wpAny_field gi_ di (x := .ref t) rfl ?_)
  show wpAny _ _ (if (Value.ref t == Value.none) = true then _ else _) _ _ _
  rw [if_neg (by simp : ¬ (Value.ref t == Value.none) = true)]
  show wpAny _ _ (field (.ref it) 1 >>= _) _ _ _
  refine wpAny_bind (wpAny_field gi_ di (x := .int i 0) rfl ?_)
  show wpAny _ _ (seqItems? (.ref t) >>= _) _ _ _
  refine wpAny_bind (wpAny_seqItems gl dl ?_)
  simp only [Int.toNat_natCast, ho]
  refine wpAny_bind (wpAny_rule (wpAny_bind (wpAny_setField gi_ di (by simp) ?_)))
  show wpAny _ _ (newExc (.type "StopIteration") [] >>= _) _ _ _
  simp only [newExc, newTuple]
  refine wpAny_bind (wpAny_bind (wpAny_newObj_type ?_ (by size_fits)))
  refine wpAny_bind (m := firstArgMember _ _) (wpAny_of_eq (a := Value.none) (by first | rfl | (simp only [firstArgMember]; rfl)) ?_)
  refine wpAny_newObj_type ?_ (by size_fits)
  have st : ∀ {b : Addr} {o : Obj} {f : Obj → Obj} {u1 u2 : Obj}, b ≠ it → s.heap.get? b = some o → (((s.heap.update it f).push u1).push u2).get? b = some o := fun {b o f u1 u2} n e => Heap.get?_push_of_some _ (Heap.get?_push_of_some _ (by rw [Heap.get?_update_other _ _ (Ne.symm n)]; exact e))
  refine raiseNew_hot ⟨hh, oH, vH, st x1it gH, dH, cH⟩ (Nat.ne_of_lt (Heap.lt_size (Heap.get?_push_of_some _ (by rw [Heap.get?_update_other _ _ (Ne.symm x1it)]; exact gH)))) (Heap.get?_push_size _ rfl) rfl (by first | (simp; done) | (simp; omega)) ?_
  refine wpAny_bind (wpAny_isInstance (T := "StopIteration") (b := true) ⟨_, Heap.get?_update_self _ (Heap.get?_push_size _ rfl) rfl, rfl⟩ isSubtype_stop ?_)
  refine wpAny_pure (q _ fun b o n e => ?_)
  rw [Heap.get?_update_other _ _ (Nat.ne_of_gt (Heap.lt_size (Heap.get?_push_of_some _ (by rw [Heap.get?_update_other _ _ (Ne.symm n)]; exact e))))]
  exact st n e
theorem unpack_hot {t x1 : Addr} {items : Array Value} {targets : List (Bool × (Value → Sem Unit))} {Q : Unit → Shared → Prop} (hot : HotAt A x1 s.heap) (ht : IsTup s.heap t items) (hn : targets.length = items.size) (hs : targets.findIdx? (·.1) = none)
    (h : ∀ g : Heap, (∀ b o, s.heap.get? b = some o → g.get? b = some o) → wpAny (model prog w) A (assignInOrder (targets.map (·.2)) items.toList) Q E { s with heap := g }) : wpAny (model prog w) A (unpack (.ref t) targets) Q E s := by
  have low : t ≠ s.heap.objs.size := by
    obtain ⟨o, e, _⟩ := ht
    exact Nat.ne_of_lt (Heap.lt_size e)
  unfold unpack
  rw [hn, hs]
  refine wpAny_bind (wpAny_holding ?_)
  unfold unpackItems notIterableAtAll
  refine wpAny_bind (wpAny_bind (wpAny_specialOf ht.typeIs slot_tuple_iter.lookup (wpAny_pure ?_)))
  simp only [Bool.false_eq_true, if_false]
  refine wpAny_bind (wpAny_holding (iter_tuple ht (wpAny_bind (wpAny_holding (draw_tuple low items.size 0 _ _ ⟨_, Heap.get?_push_size _ rfl, rfl, rfl⟩ (ht.push _) (by omega) fun g1 i1 b1 => ?_)))))
  rw [List.drop_zero, List.take_of_length_le (by simp), if_neg (by simp)]
  have keep1 : ∀ b o, s.heap.get? b = some o → g1.get? b = some o := fun b o e => b1.extBut b o (Nat.ne_of_lt (Heap.lt_size e)) (Heap.get?_push_of_some _ e)
  obtain ⟨hh, oH, vH, gH, dH, cH⟩ := hot
  refine wpAny_bind (wpAny_holding (tup_out_hot (x1 := x1) ⟨hh, oH, vH, keep1 _ _ gH, dH, cH⟩ i1 ((ht.push _).extBut b1.extBut low) (by simp) fun g2 e2 => ?_))
  simp only [Option.isSome_none, Bool.false_eq_true, if_false]
  exact wpAny_pure (h g2 fun b o e => e2 b o (Nat.ne_of_lt (Heap.lt_size e)) (keep1 b o e))
end
theorem pg_tupH {X : Cx} {es : List Expr} {k n : Nat} {t : TGs} {pos : Pos} (hc : HotC X) (h : PGs X es t) (hn : (assignEach es X.env).length = n := by rfl) (hs : (assignEach es X.env).findIdx? (·.1) = none := by rfl) : PG X (.Tuple es k pos) (gTup X.K n t) := by
  refine ⟨fun pins s σ H v u Q I r ⟨a, xs, e1, hq, hl, hw⟩ => ?_⟩
  subst e1
  cases r
  obtain ⟨its, rv, ht, _⟩ := I.tuple hq
  obtain ⟨x1, hot⟩ := hc.at I
  rw [assign_Tuple]
  refine wpAny_bind (wpAny_standAt (unpack_hot hot ht (by simp [hn, ← hl, rv.length]) hs fun g kg => ?_))
  exact h.run pins _ σ H xs _ Q (I.kept (t' := s.toks) fun b o e => kg b o e) (by simpa using rv) hw
end WC

set_option maxHeartbeats 4000000
namespace WC
open PySem PySem.Spec PyProof.Rows L2
/-! return e + super().m(); == by an own __eq__; a method kept raw -/
def tSup0 (C : Addr) (i : Nat) (sp : Sp) (E : XK) : TE := fun σ H Q => ∃ x dx fs, σ[i]? = some (some (.ref x)) ∧ H x = some (.ins C dx fs) ∧ sp [.ref x] H Q E
section
variable {X : Cx} {CX : CXT} {k i : Nat} {C D g : Addr} {sp : Sp} {E : XK} {e : Expr} {es : List Expr} {m slf : Str} {p0 p1 p2 p3 p4 p5 : Pos} {ta : TA} {te : TE} {body : List Stmt} {pl : Sem Bool}
theorem at_sup0 {pins : List (Addr × Obj)} {s : Shared} {σ : L2.St} {H : Hp} {Q : VK} (T : SupTxt X.prog X.K X.mg D C g m) (Z : SelfTxt X.prog X.K X.env D slf) (F : FnR X.prog X.w X.K X.mg X.base CX k g sp) (hr : Room k X.A) (hx : Passes CX X E) (hN : X.N[i]? = some slf) 
    (he : eval (.Call (.Attribute (.Call (.Name "super" p0) [] [] p1) m p2) [] [] p3) X.env = (do
      let ov ← attributeBase (.Call (.Name "super" p0) [] [] p1) m X.env (eval (.Call (.Name "super" p0) [] [] p1) X.env)
      standAt p2.atName
      let (f, first) ← holding [ov] (getMethod ov m pl)
      callWith p3 f first (backTo p3 (starEach [] X.env)) [])) 
    (I : Inv X pins σ H s) (h : tSup0 C i sp E σ H Q) : PySem.wpAt (model X.prog X.w) X.A (.func body X.env) (eval (.Call (.Attribute (.Call (.Name "super" p0) [] [] p1) m p2) [] [] p3) X.env) (EP X pins σ Q) X.xe s := by
  obtain ⟨x, dx, fs, hs, hH, ht⟩ := h
  obtain ⟨f, of1, of2, fd, of3, ar, ef, kf, hd, har⟩ := Z.fn
  obtain ⟨c, oc1, oc2, vs, oc3, file, tf, ec, kc, hvs, hfile⟩ := Z.cod
  obtain ⟨cc, k1, k2, k3, lcc, kcc⟩ := Z.lc
  obtain ⟨cdD, hD⟩ := T.dCls
  have K1 := I.kIn
  obtain ⟨oD, hD1, hD2⟩ : ∃ oD, s.heap.get? D = some oD ∧ oD.data = .cls cdD := by
    unfold PySem.W.clsIn at hD
    split at hD
    · rename_i a b cd' d ho
      cases hD
      exact ⟨_, K1 _ _ ho, rfl⟩
    · cases hD
  obtain ⟨_, O, _, _, _⟩ := ins_get I.hok hH
  have hob := O.1
  refine ks_wpAt_MethodCall ?_ he
  refine ks_wpAt_super_base Z.kS Z.kC T.nat ef (K1 _ _ kf) rfl hd ec (K1 _ _ kc) rfl hvs hfile T.top ?_
  obtain ⟨mb, hb1, hb2⟩ := I.mod.blt
  refine PySem.W.ks_loadName_global I.ok.kind Z.kS (Calls.loadGlobal_builtin (by rw [I.ok.glob]; exact I.mod.glob.keeps I.bk) T.sup (by rw [I.ok.blt]; exact hb1.keeps I.bk) ((hb2 _ (by decide)).trans (show bootBuiltins "super" = some (.type "super") by decide +kernel)) ⟨rfl, ?_⟩)
  refine wpAny_loadName_free I.ok.kind Z.kC lcc ⟨_, K1 _ _ kcc, rfl⟩ ?_
  obtain ⟨mL, hn, hl⟩ := id I.loc
  obtain ⟨u, ru, lu⟩ := hl i slf _ hN hs (.inl Z.kL)
  obtain rfl : u = Value.ref x := ru
  have hm : mL slf = some (.ref x) := by
    rcases lu with ⟨_, q⟩ | ⟨q, _⟩
    · exact q
    · rw [Z.kL] at q
      rcases q with q | q <;> cases q
  rw [har]
  refine wpAny_loadName_local I.ok.kind Z.kL hn hm ?_
  refine ks_wpAny_isType_cls hD1 hD2 ⟨rfl, ?_⟩
  refine ks_wpAny_call_super hD1 hD2 hob rfl (fun c e => by cases e) (PySem.W.looks_mroIn K1 T.sub) fun h1 e1 k1 => ?_
  have I1 : Inv X pins σ H { s with heap := h1, toks := s.toks } := I.kept (t' := s.toks) k1
  have K2 := I1.kIn
  have K2 : X.K.In h1 := K2
  cases hC : PySem.W.clsIn X.K C with
  | none =>
    have z := T.met
    unfold PySem.W.ks_superIn at z
    rw [hC] at z
    cases z
  | some cd =>
    have z := T.met
    unfold PySem.W.ks_superIn at z
    rw [hC] at z
    obtain ⟨og, hog, hogc⟩ : ∃ og, h1.get? g = some og ∧ og.cls = .type "function" := by
      have y : (X.K.lookup g).map (·.cls) = some (.type "function") := T.typ
      cases q : X.K.lookup g with
      | none => rw [q] at y; cases y
      | some og =>
        rw [q] at y
        exact ⟨og, K2 _ _ q, Option.some.inj y⟩
    have hxC : x ≠ C := by
      rintro rfl
      unfold PySem.W.clsIn at hC
      split at hC
      · rename_i a b cd' d ho
        have e := K1 _ _ ho
        rw [hob] at e
        cases e
      · cases hC
    refine ks_wpAny_getMethod_super e1 (PySem.W.looks_opaque K2 T.opq) (l₀ := cd.mro) (fun A Q E s k q => wpAny_bind ((PySem.W.looks_clsIn K2 hC) A _ E s k (wpAny_pure q))) rfl K2 z hog hogc hxC T.nat ?_
    have I2 := ClX.met_new (C := x) (g := g) I1
    exact PySem.W.callWith_M0 (K := X.K) (first := []) ⟨ClX.pin_at I2, I2.kIn⟩ T.fni (ClX.run_cm F hr hx I2 .nil ht)
/-- return e + super().m() -/
theorem px_retSup {op : Operator} {r : R2} (T : SupTxt X.prog X.K X.mg D C g m) (Z : SelfTxt X.prog X.K X.env D slf) (F : FnR X.prog X.w X.K X.mg X.base CX k g sp) (hr : Room k X.A) (hx : Passes CX X E) (hN : X.N[i]? = some slf) (he1 : PE X e te) (ho : OpR X (binaryOp op) r)
    (he : eval (.Call (.Attribute (.Call (.Name "super" p0) [] [] p1) m p2) [] [] p3) X.env = (do
      let ov ← attributeBase (.Call (.Name "super" p0) [] [] p1) m X.env (eval (.Call (.Name "super" p0) [] [] p1) X.env)
      standAt p2.atName
      let (f, first) ← holding [ov] (getMethod ov m pl)
      callWith p3 f first (backTo p3 (starEach [] X.env)) []) := by rfl) :
    PX X (.func body X.env) [.Return (some (.BinOp e op (.Call (.Attribute (.Call (.Name "super" p0) [] [] p1) m p2) [] [] p3) p4)) p5] (fun D0 σ H => te σ H fun x H1 => tSup0 C i sp E σ H1 fun y H2 => r x y H2 D0.rt) := by
  refine ⟨fun pins s σ H D0 I h => ks_wpAt_execs_cons (ks_wpAt_Return_some (ks_wpAt_BinOp2 (wpAt_of_wpAny (thn (he1.run pins s σ H _ I h) fun u s1 ⟨x, H1, I1, r1, q1⟩ => ?_))))⟩
  refine PySem.wpAt_mono (at_sup0 T Z F hr hx hN he I1 q1) (fun v s2 ⟨y, H2, I2, r2, q2⟩ => ?_) fun _ _ z => z
  refine thn (ho pins s2 σ H2 x y u v _ I2 r1 r2 q2) fun z s3 ⟨z1, H3, I3, r3, q3⟩ => ?_
  exact ⟨z1, σ, H3, I3, r3, q3⟩
end
end WC

set_option maxHeartbeats 4000000
namespace WC
open PySem PySem.Spec PyProof.Rows L2
/-- the classes CS have their == from the def at f -/
structure EqF (K : PySem.W.Frag) (CS : List Addr) (f : Addr) : Prop where
  at_ : ∀ C ∈ CS, PySem.W.findIn K (.ref C) "__eq__" = some (some (.ref f))
  fn : PySem.W.isFn K (.ref f) = true
  nf : ∀ C ∈ CS, ∀ D ∈ CS, PySem.W.notFirst K C (.ref D) = true
def rOwn (CS : List Addr) (sp : Sp) : R2 := fun x y H Q => ∃ (a b C D dx dy : Addr) (fs gs : List (Str × V)), C ∈ CS ∧ D ∈ CS ∧ x = .ref a ∧ y = .ref b ∧ H a = some (.ins C dx fs) ∧ H b = some (.ins D dy gs) ∧ sp [.ref a, .ref b] H (fun v H' => ∃ c, v = .bl c ∧ Q (.bl c) H') E0
theorem op_own {X : Cx} {n : Nat} {CS : List Addr} {f : Addr} {fd : FuncData} {ps : List Str} {sp : Sp} (T : EqF X.K CS f) (F : FnOk X.prog X.w X.K X.mg X.base (L2.CX X.prog X.w) n f fd ps sp) (hb : Binds X.K fd ps []) (hr : Room n X.A) : OpR X (compareOp .Eq) (rOwn CS sp) := by
  intro pins s σ H x y u v Q I rx ry ⟨a, b, C, D, dx, dy, fs, gs, hC, hD, ex, ey, ha, hb', q⟩
  subst ex ey
  cases rx
  cases ry
  show wpAny (model X.prog X.w) X.A (richCompare .Eq (.ref a) (.ref b)) (EP X pins σ Q) X.xe s
  obtain ⟨_, Ja, _⟩ := ins_get I.hok ha
  obtain ⟨_, Jb, _⟩ := ins_get I.hok hb'
  obtain ⟨oa, Ja, _⟩ := Ja.look
  obtain ⟨ob, Jb, _⟩ := Jb.look
  obtain ⟨m, fr⟩ := I.fr
  refine PySem.W.cmp_K (op := .Eq) (tb := .ref D) hr.units0 fr I.ok.mod.kin Ja Jb.type (T.nf C hC D hD) (T.at_ C hC) T.fn ?_
  have z := run_fn (ds := []) (dvs := []) (us := [.ref a, .ref b]) (vs := [.ref a, .ref b]) (E := E0) F hr hb .nil passL I (.cons rfl (.cons rfl .nil)) q
  refine wpAny_mono z (fun r s' ⟨w1, H1, I1, r1, c, ec, qc⟩ => ?_) fun _ _ e => e
  subst ec
  cases r1
  exact ⟨.bl c, H1, I1, rfl, qc⟩
/-- a method that is known raw (it may take *args) -/
structure MetV (P : Program) (w : World) (K : PySem.W.Frag) (mg : Str → Option Value) (base : Heap) (C : Addr) (m : Str) (k : Nat) (sp : Sp) : Prop where
  ex : ∃ f, Cls K C ∧ Meth K C m f ∧ FnR P w K mg base (L2.CX P w) k f sp
section
variable {X : Cx} {C : Addr} {m : Str} {j k : Nat} {sp : Sp} {E : XK} {W : WX} {o e : Expr} {es : List Expr} {ta : TE} {t : TA} {pos apos : Pos} {pl : Sem Bool}
theorem pe_mtv (D : MetV X.prog X.w X.K X.mg X.base C m k sp) (ho : PE X o ta) (hr : Room j X.A) (hx : Passes (L2.CX X.prog X.w) X E) (ha : PA X (e :: es) t) (hle : k ≤ j := by decide)
    (hst : starEach (e :: es) X.env = (false, eval e X.env) :: starEach es X.env := by rfl) (hpl : (backTo pos (starEach es X.env)).any (·.1) = false := by rfl)
    (ht : eval (.Call (.Attribute o m apos) (e :: es) [] pos) X.env = (do
      let ov ← eval o X.env
      standAt apos.atName
      let (f, first) ← holding [ov] (getMethod ov m pl)
      callWith pos f first (backTo pos (starEach (e :: es) X.env)) (backToKw pos (keywordEach [] X.env))) := by rfl) : PE X (.Call (.Attribute o m apos) (e :: es) [] pos) (tMeth C m sp [] E ta t) := by
  obtain ⟨f, c, hm, F⟩ := D.ex
  refine ⟨fun pins s σ H Q I h => ?_⟩
  refine PySem.W.methodCall_KW (pl := pl) (thn (ho.run pins s σ H _ I h) fun u s1 ⟨x, H1, I1, rx, a, dx, fs, ex, ea, l, q⟩ => ?_) ht
  subst ex
  obtain rfl : u = Value.ref a := rx
  refine getmeth_ok I1 ea c hm l ?_
  refine PySem.W.callWith_K (first := [.ref a]) (h₀ := X.base) I.ok.mod.kin hm.kp (thn (ha.run pos pins s1 σ H1 _ I1 q) fun us s2 ⟨vs, H2, I2, r, q2⟩ => ⟨I2.kIn, ?_⟩) hst hpl
  have q2 : sp (.ref a :: (vs ++ [])) H2 Q E := q2
  rw [List.append_nil] at q2
  exact wpAny_call (run_fnR (us := .ref a :: us) (vs := .ref a :: vs) F (hr.mono hle) hx I2 (.cons rfl r) q2)
end
end WC

/-! several except clauses, each with a name: by lemmas about an exception that stands caught -/
namespace WC
open PySem PySem.Spec PyProof.Rows L2
abbrev Cl := Value × Nat × (Addr → Value → Option Addr → TS)
def wAsAll (K : PySem.W.Frag) (Wo : WX) (D : Ends) : List Cl → WX
  | [] => Wo
  | k :: r => wAs K k.1 k.2.1 k.2.2 (wAsAll K Wo D r) D
/-- the clauses, one after the other -/
inductive ClsOk (X : Cx) : List ExceptHandler → List Cl → Prop
  | nil : ClsOk X [] []
  | cons {x n : Str} {c : Value} {i : Nat} {ts : Addr → Value → Option Addr → TS} {b₀ : Stmt} {su : List Stmt} {np ps : Pos} {hds : List ExceptHandler} {l : List Cl} (hc : Names X x c) (hi : X.N[i]? = some n) (hln : X.env.kindOf n = some .local)
      (hsu : ∀ a oe cls d pn, Zc cls d oe → (∃ vs, oe.data = .fields vs) → PSs (X.suite a ((a, oe) :: pn)) (b₀ :: su) (ts a cls d)) (r : ClsOk X hds l) : ClsOk X (.ExceptHandler (some (.Name x np)) (some n) (b₀ :: su) ps :: hds) ((c, i, ts) :: l)
/-- caught: a stands in this frame; sI what the world was when it was raised -/
structure Caught (X : Cx) (pins : List (Addr × Obj)) (B : Heap) (sI s : Shared) (σ : L2.St) (H : Hp) (a : Addr) (cls : Value) (d : Option Addr) : Prop where
  I : Inv X pins σ H sI
  nb : ∀ c o, sI.heap.get? c = some o → c ∉ frs X.stack → B.get? c = some o
  fl : HandSPX.FlyingZ B (X.env :: X.outer) a (Zc cls d) s.heap
  up : sI.heap.UpToSlots s.heap
  na : H a = none
  os : s.os = sI.os
  ag : AllBare s.gens
section
variable {X : Cx} {pins : List (Addr × Obj)} {B : Heap} {sI s : Shared} {σ : L2.St} {H : Hp} {a : Addr} {cls : Value} {d : Option Addr}
theorem Caught.inv (k : Caught X pins B sI s σ H a cls d) : Inv X pins σ H s := k.I.landed k.nb k.fl.1 k.up k.os k.ag
/-- the exception's own object is none of the frames' -/
theorem Caught.away (k : Caught X pins B sI s σ H a cls d) (hs : X.stack = X.env :: X.outer) (hf : X.env.frame = some X.env.locals) : a ≠ X.env.locals ∧ a ∉ X.fs := by
  obtain ⟨o, vs, e, _, dd⟩ := k.fl.there
  have far : a ∉ frs (X.env :: X.outer) := fun m => by
    obtain ⟨_, o2, e2, no⟩ := k.fl.2.2.1.mem m
    rw [e] at e2
    cases e2
    exact no _ dd
  refine ⟨fun z => far (List.mem_filterMap.mpr ⟨X.env, List.mem_cons_self, by rw [hf, ← z]⟩), fun m => ?_⟩
  obtain ⟨v, hv, q⟩ := List.mem_filterMap.mp m
  exact far (List.mem_filterMap.mpr ⟨v, List.mem_cons_of_mem _ hv, q⟩)
/-- no clause is left -/
theorem Caught.none_left {W : WX} {D : Ends} (k : Caught X pins B sI s σ H a cls d) (hs : X.stack = X.env :: X.outer) (hf : X.env.frame = some X.env.locals) (tk : Takes X W) (w : W cls d σ H) :
    wpAny (model X.prog X.w) X.A (handleBy (.ref a) X.env []) (SP X pins D) X.xe s := by
  obtain ⟨_, _, _, oe, vs, T, oT, tr, he, hz, hd, h1, _⟩ := id k.fl
  have go : wpAny (model X.prog X.w) X.A (setFlight (.ref a) X.env.frame) (fun _ s2 => wpAny (model X.prog X.w) X.A (throw (.ref a) : Sem Flow) (SP X pins D) X.xe s2) X.xe s := by
    rw [hf]
    exact HandSPX.setFlight_upZ k.fl fun h2 held up2 => wpAny_throw (tk _ _ ⟨a, B, sI, pins, σ, H, cls, d, rfl, k.I, k.nb, k.up.trans up2, .inr (.inr (by rw [hs]; exact held)), k.na, k.os, k.ag, w⟩)
  refine wpAny_handleBy_nil ?_
  unfold PySem.passOn
  refine wpAny_bind (wpAny_field he hd h1 ?_)
  rw [if_neg (by simp : ¬ ((Value.ref T == Value.none) = true))]
  first
    | exact wpAny_bind (wpAny_pure (wpAny_bind go))
    | exact wpAny_bind go
/-- by the clauses -/
theorem Caught.by_all {Wo : WX} {D : Ends} (hs : X.stack = X.env :: X.outer) (hf : X.env.frame = some X.env.locals) (hN : X.N.Nodup) (ok : X.Ok) (tk : Takes X Wo) (k : Caught X pins B sI s σ H a cls d) {hds : List ExceptHandler} {l : List Cl} (h : ClsOk X hds l) :
    wAsAll X.K Wo D l cls d σ H → wpAny (model X.prog X.w) X.A (handleBy (.ref a) X.env hds) (SP X pins D) X.xe s := by
  obtain ⟨nL, nF⟩ := k.away hs hf
  induction h with
  | nil => exact fun w => k.none_left hs hf tk w
  | @cons x n c i ts b₀ su np ps hds l hc hi hln hsu r ih =>
    rintro ⟨b, t1, yes, no⟩
    obtain ⟨oe, vs, he, hz, hd⟩ := k.fl.there
    have S := k.inv.suite he hd k.na nL nF
    have named : ∀ {Q : Value → Shared → Prop} {E : Value → Shared → Prop}, Q c s → wpAny (model X.prog X.w) (X.A.mark (some (.ref a))) (eval (.Name x np) X.env) Q E s := fun q => by
      obtain ⟨g1, g2, g3 | ⟨g3, g4, g5⟩⟩ := hc
      · exact ld_glob (X := X.suite a ((a, oe) :: (X.pn ++ pins))) S g1 g3 q g2
      · exact ld_blt (X := X.suite a ((a, oe) :: (X.pn ++ pins))) S g1 g3 g4 q g5 g2
    have ty : PySem.W.Looks (model X.prog X.w) s.heap (typeOf (.ref a)) cls := fun A Q E s2 kk q => wpAny_typeOf_ref (kk _ _ he) (by rw [hz.1]; exact q)
    refine wpAny_handleBy_cons (codeAny_handlers_test (named ((PySem.W.exm_one (M := model X.prog X.w) S.kIn ty t1).here ?_))) (by intro q; cases q)
    cases b with
    | false => exact ih (no rfl)
    | true =>
      refine codeAny_handlers_suite_as (HandSPX.lands_againZ k.fl fun h4 fl4 up4 => ?_)
      have k4 : Caught X pins B sI { s with heap := h4 } σ H a cls d := ⟨k.I, k.nb, fl4, k.up.trans up4, k.na, k.os, k.ag⟩
      obtain ⟨o4, v4, e4, z4, d4⟩ := fl4.there
      refine store_ok (X := X.suite a ((a, o4) :: (X.pn ++ pins))) (v := .ref a) (k4.inv.suite e4 d4 k.na nL nF) hN hi (.inl hln) rfl (fun s5 S5 => ?_) (.inr hln)
      have gone : ∀ {σ6 : L2.St} {H6 : Hp} {s6 : Shared} {Q : Shared → Prop}, Inv (X.suite a ((a, o4) :: (X.pn ++ pins))) [] σ6 H6 s6 → (∀ s7, Inv X pins (σ6.set i none) H6 s7 → Q s7) → wpAny (model X.prog X.w) X.A (do bindName X.env n .none; unbindBehindTheSuite X.env n ps) (fun _ s7 => Q s7) X.xe s6 := fun S6 q => gone_ok (S6.unsuite ok) hN hi hln q
      refine wpAny_mono ((hsu a o4 cls d (X.pn ++ pins) z4 ⟨_, d4⟩).run [] s5 _ H _ S5 (yes rfl a k.na)) (fun f s6 hsp => ?_) (fun _ _ z => False.elim z)
      match f, hsp with
      | .ret _, ⟨_, _, _, S6, r6, q6⟩ => exact gone S6 fun _ J7 => ⟨_, _, _, J7, r6, q6⟩
      | .next, ⟨_, _, S6, q6⟩ => exact gone S6 fun _ J7 => ⟨_, _, J7, q6⟩
      | .brk, ⟨_, _, S6, q6⟩ => exact gone S6 fun _ J7 => ⟨_, _, J7, q6⟩
      | .cont, ⟨_, _, S6, q6⟩ => exact gone S6 fun _ J7 => ⟨_, _, J7, q6⟩
end
section
variable {X : Cx} {body : List Stmt} {h₀ : ExceptHandler} {hds : List ExceptHandler} {l : List Cl} {pos : Pos} {tb : WX → TS} {Wo : WX}
/-- try: body / except A as x: .. / except B as y: .. -/
theorem ps_try_asAll (hs : X.stack = X.env :: X.outer) (hf : X.env.frame = some X.env.locals) (hN : X.N.Nodup) (tk : Takes X Wo)
    (hb : ∀ (W : WX) (pn : List (Addr × Obj)) (xe : Value → Shared → Prop), Takes (X.tr pn xe) W → PassesOwn (model X.prog X.w) X.A X.env xe → PSs (X.tr pn xe) body (tb W)) (hh : ClsOk X (h₀ :: hds) l) :
    PS X (.Try body (h₀ :: hds) [] [] pos) (fun D σ H => tb (wAsAll X.K Wo D l) D σ H) := ⟨fun pins s σ H D I h => by
  have ok := I.ok
  refine wpAny_Try_except (wpAny_mono ((hb (wAsAll X.K Wo D l) (X.pn ++ pins) (fun e s1 => wpAny (model X.prog X.w) X.A (noteFrame e X.env) (fun _ s2 => wpAny (model X.prog X.w) X.A (setFlight e none) (fun _ s3 => wpAny (model X.prog X.w) X.A (handleBy e X.env (h₀ :: hds)) (SP X pins D) X.xe s3) X.xe s2) X.xe s1) (fun u s1 xx => ?_) PassesOwn.looking).run [] s σ H D (I.toTry _) h) (fun f s1 hsp => ?_) (fun _ _ he => he))
  · obtain ⟨a, B, sI, pp, σ1, H1, cls, d, rfl, J, nb, up, sky, na, os, ag, w⟩ := xx
    rw [show (X.tr (X.pn ++ pins) _).stack = X.env :: X.outer from hs] at sky
    exact Sky.land Zc.steady (by rw [ok.frames, hs]) hf sky fun h3 fl up3 => Caught.by_all (s := { s1 with heap := h3 }) hs hf hN ok tk ⟨J.ofTry ok, nb, fl, up.trans up3, na, os, ag⟩ hh w
  · match f, hsp with
    | .ret _, ⟨_, _, _, J, r, q⟩ => exact ⟨_, _, _, J.ofTry ok, r, q⟩
    | .next, ⟨_, _, J, q⟩ => exact wpAny_execs_nil ⟨_, _, J.ofTry ok, q⟩
    | .brk, ⟨_, _, J, q⟩ => exact ⟨_, _, J.ofTry ok, q⟩
    | .cont, ⟨_, _, J, q⟩ => exact ⟨_, _, J.ofTry ok, q⟩⟩
end
end WC

set_option maxHeartbeats 4000000
/-! a tuple times any small int; a tuple turned round -/
namespace WC
open PySem PySem.Spec PyProof.Rows L2
theorem tuple_mul1W (l : Addr) (items : Array Value) (n : Nat) (dd : Option Addr) (sl : Array (Option Value)) (u : Tok) :
    Meets (Builtin.«tuple.__mul__» ⟨[.ref l, .int 1 u], []⟩) (fun _ R s => s.heap.get? l = some { cls := .type "tuple", dict := dd, data := .seq items n, slots := sl } ∧ R (.ok (.ret (Value.ref l))) { s with heap := s.heap, toks := s.toks }) :=
  .of_wp fun prog w A R s h => by
    obtain ⟨hp, g, d, tk, os⟩ := s
    obtain ⟨hl, h⟩ := h
    have f1 := AutoSeq1.idx_int
    have c1 : (items.isEmpty || (1 : Int) == 1) = true := by simp
    wp_walk using wpAny_loadPart' hl
    repeat (first
      | (refine wpAny_ite_true (decide_eq_true c1) ?_; wp_walk using wpAny_loadPart' hl)
      | (refine wpAny_ite_false (decide_eq_false (by decide)) ?_; wp_walk using wpAny_loadPart' hl))
    exact ⟨_, rfl, h⟩
theorem tuple_mul0W (l : Addr) (items : Array Value) (n : Nat) (dd : Option Addr) (sl : Array (Option Value)) (u : Tok) (c1 : (items.isEmpty || (0 : Int) == 1) = false) (c2 : (decide ((0 : Int) ≤ 0) || items.isEmpty) = true) (hsz : (#[] : Array Value).size ≤ sizeLine) :
    Meets (Builtin.«tuple.__mul__» ⟨[.ref l, .int 0 u], []⟩) (fun _ R s => s.heap.get? l = some { cls := .type "tuple", dict := dd, data := .seq items n, slots := sl } ∧
      R (.ok (.ret (Value.ref s.heap.objs.size))) { s with heap := s.heap.push { cls := Value.type "tuple", data := Data.seq #[] }, toks := s.toks }) :=
  .of_wp fun prog w A R s h => by
    obtain ⟨hp, g, d, tk, os⟩ := s
    obtain ⟨hl, h⟩ := h
    have f1 := AutoSeq1.idx_int
    wp_walk using wpAny_loadPart' hl
    repeat (first
      | (refine wpAny_ite_false (decide_eq_false (by rw [c1]; exact Bool.false_ne_true)) ?_; wp_walk using wpAny_loadPart' hl)
      | (refine wpAny_ite_true (decide_eq_true (by rw [c2])) ?_; wp_walk using wpAny_loadPart' hl)
      | (refine wpAny_ite_false (decide_eq_false (Nat.not_lt.mpr hsz)) ?_; wp_walk using wpAny_loadPart' hl))
    exact ⟨_, rfl, h⟩
def rRepA (K : PySem.W.Frag) : R2 := fun x y H Q => ∃ l k xs, x = .ref l ∧ y = .int k ∧ SqT K H l xs ∧ xs ≠ [] ∧ 0 ≤ k ∧ k ≤ 1000 ∧ xs.length ≤ 1000 ∧ (k = 1 → Q (.ref l) H) ∧ (k ≠ 1 → ∀ p, H p = none → Q (.ref p) (upd H p (.tup (List.replicate k.toNat xs).flatten)))
section
variable {X : Cx}
theorem op_repA : OpR X (binaryOp .Mult) (rRepA X.K) := by
  intro pins s σ H x y v u Q I rx ry h
  obtain ⟨l, k, xs, rfl, rfl, hT, hne, h1, h2, hz, q1, q2⟩ := h
  by_cases e2 : 2 ≤ k
  · exact op_repT pins s σ H _ _ v u Q I rx ry ⟨l, k, xs, rfl, rfl, hT, hne, e2, h2, hz, q2 (by omega)⟩
  cases rx
  obtain ⟨t, rfl⟩ := ry
  obtain ⟨its, r, ⟨⟨cls, dd, data, sl⟩, ho, hc, n, hd⟩, hs⟩ := I.tuple hT
  simp only at hc hd
  subst hc hd
  have hle : its.length = xs.length := r.length.symm
  have hn : its ≠ [] := fun e => hne (by
    rw [e] at hle
    exact List.eq_nil_of_length_eq_zero hle.symm)
  have hi : its.toArray.isEmpty = false := by
    cases its with
    | nil => exact absurd rfl hn
    | cons a b => rfl
  by_cases e1 : k = 1
  · subst e1
    refine wpAny_binaryOp_repeat_ref (T := "tuple") (U := "int") (by decide) ⟨_, ho, rfl⟩ (fun s' => typeIs_int s' 1 t) noFill_tuple_mul F.fills_int_mul F.slot_int_rmul repeat_tuple F.slot_int_index.lookup
      (call_meets F.slot_int_rmul (typeIs_int s 1 t) F.entry_int_rmul (F.args_int_rmul_2 _ _) (int_rmul_tuple 1 t l its.toArray n dd sl)
        ⟨ho, rfl, ⟨_, ho, rfl⟩, call_meets F.slot_tuple_mul ⟨_, ho, rfl⟩ F.entry_tuple_mul (F.args_tuple_mul_2 _ _) (tuple_mul1W l its.toArray n dd sl t) ⟨ho, ?_⟩⟩)
    exact ⟨.ref l, H, I, rfl, q1 rfl⟩
  · obtain rfl : k = 0 := by omega
    refine wpAny_binaryOp_repeat_ref (T := "tuple") (U := "int") (by decide) ⟨_, ho, rfl⟩ (fun s' => typeIs_int s' 0 t) noFill_tuple_mul F.fills_int_mul F.slot_int_rmul repeat_tuple F.slot_int_index.lookup
      (call_meets F.slot_int_rmul (typeIs_int s 0 t) F.entry_int_rmul (F.args_int_rmul_2 _ _) (int_rmul_tuple 0 t l its.toArray n dd sl)
        ⟨ho, rfl, ⟨_, ho, rfl⟩, call_meets F.slot_tuple_mul ⟨_, ho, rfl⟩ F.entry_tuple_mul (F.args_tuple_mul_2 _ _) (tuple_mul0W l its.toArray n dd sl t (by rw [hi]; rfl) (by simp) (by decide)) ⟨ho, ?_⟩⟩)
    refine ⟨.ref s.heap.objs.size, _, I.laid (t' := s.toks) (o := .tup []) (fun b ob q => Heap.get?_push_of_some _ q) (Nat.le_refl _) ?_, rfl, q2 (by decide) _ (I.hok.fresh (Nat.le_refl _))⟩
    exact ⟨by decide, [], .nil, IsTup.new _ _⟩
end
/-! xs[::-1] of a tuple -/
section
variable {prog : Program} {w : World} {A : Around} {E : Value → Shared → Prop} {s : Shared}
theorem sliceApplied_rev {sl : Addr} {t : Tok} {n : Nat} {Q : Int × Int × Nat → Shared → Prop} (hs : s.heap.IsSliceOf sl .none .none (.int (-1) t))
    (h : Q ((n : Int) - 1, -1, n) s) : wpAny (model prog w) A (Builtin.Slice.sliceApplied (.ref sl) (pure (n : Int))) Q E s := by
  obtain ⟨os, hos, hcs, hds⟩ := id hs
  unfold Builtin.Slice.sliceApplied Builtin.Slice.sliceFields
  refine wpAny_bind (wpAny_bind (wpAny_field hos hds (x := .none) rfl (wpAny_bind (wpAny_field hos hds (x := .none) rfl (wpAny_bind (wpAny_field hos hds (x := .int (-1) t) rfl (wpAny_pure ?_)))))))
  refine wpAny_bind (HT.slicePart_ (.int (-1) t) ?_)
  show wpAny _ _ (if ((-1 : Int) == 0) = true then _ else _) _ _ s
  rw [if_neg (by decide)]
  refine wpAny_bind (HT.slicePart_ .none (wpAny_bind (HT.slicePart_ .none (wpAny_bind (wpAny_pure ?_)))))
  have e : Builtin.Slice.slicePlaces ((n : Int) - 1) (-1) (-1) = n := by
    unfold Builtin.Slice.slicePlaces
    simp
    omega
  have e2 : Builtin.Slice.sliceAdjust none none (-1) (n : Int) = ((n : Int) - 1, -1) := by
    unfold Builtin.Slice.sliceAdjust
    simp
  show wpAny _ _ (match Builtin.Slice.sliceAdjust none none (-1) (n : Int) with | (lo, hi) => pure (lo, (-1 : Int), Builtin.Slice.slicePlaces lo hi (-1))) _ _ s
  rw [e2]
  show wpAny _ _ (pure ((n : Int) - 1, (-1 : Int), Builtin.Slice.slicePlaces ((n : Int) - 1) (-1) (-1))) _ _ s
  rw [e]
  exact wpAny_pure h
theorem fm_congr {α β : Type} {f g : α → Option β} : ∀ {l : List α}, (∀ x ∈ l, f x = g x) → l.filterMap f = l.filterMap g
  | [], _ => rfl
  | x :: l, h => by
    rw [List.filterMap_cons, List.filterMap_cons, h x List.mem_cons_self, fm_congr fun y hy => h y (List.mem_cons_of_mem _ hy)]
theorem pick_rev (xs : Array Value) : ((List.range xs.size).filterMap fun (k : Nat) => xs[(((xs.size : Int) - 1) + (k : Int) * -1).toNat]?).toArray = xs.toList.reverse.toArray := by
  have e : (List.range xs.size).filterMap (fun (k : Nat) => xs[(((xs.size : Int) - 1) + (k : Int) * -1).toNat]?) = ((List.range xs.size).map fun k => xs.size - 1 - k).filterMap (xs[·]?) := by
    rw [List.filterMap_map]
    refine fm_congr fun k hk => ?_
    have := List.mem_range.mp hk
    have z : (((xs.size : Int) - 1) + (k : Int) * -1).toNat = xs.size - 1 - k := by omega
    show _ = xs[xs.size - 1 - k]?
    rw [z]
  rw [e, PySem.W.krv_range, List.filterMap_reverse, PySem.W.krv_all]
theorem getItem_tuple_rev {t sl : Addr} {items : Array Value} {tk : Tok} {Q : Value → Shared → Prop} (ht : IsTup s.heap t items) (hs : s.heap.IsSliceOf sl .none .none (.int (-1) tk))
    (h : Q (.ref s.heap.objs.size) { s with heap := s.heap.push { cls := .type "tuple", data := .seq items.toList.reverse.toArray } })
    (hsz : items.size ≤ sizeLine) : wpAny (model prog w) A (getItem (.ref t) (.ref sl)) Q E s := by
  have htake : sizeOk (.seq items.toList.reverse.toArray) := by
    show (items.toList.reverse.toArray).size ≤ sizeLine
    rw [List.size_toArray, List.length_reverse, Array.length_toList]
    exact hsz
  obtain ⟨os, hos, hcs, hds⟩ := id hs
  have hTs : s.TypeIs (.ref sl) "slice" := ⟨os, hos, hcs⟩
  unfold getItem
  try with_reducible refine wpAny_holding ?_
  first | refine wpAny_bind (wpAny_pure ?_) | skip
  refine wpAny_bind (wpAny_sequenceKey ht.typeIs (by decide) ?_)
  refine wpAny_bind (wpAny_callSpecial?_slot (name := Str.ofString "__getitem__") ht.typeIs PyProof.Rows.slot_tuple_getitem
    (wpAny_call_entry PyProof.Rows.slot_tuple_getitem ht.typeIs entry_tuple_getitem ?_ (args_tuple_getitem _ _)))
  show wpAny _ _ (Builtin.Tuple.tupleItemsOf (.ref t) >>= _) _ _ s
  refine wpAny_bind (tupleItemsOf_ ht ?_)
  refine wpAny_bind (wpAny_typeOf hTs ?_)
  rw [if_pos (by decide)]
  refine wpAny_bind (sliceApplied_rev hs ?_)
  show wpAny _ _ (if ((((items.size : Nat) : Int) - 1) == 0 && (-1 : Int) == 1 && items.size == items.size) = true then _ else _) _ _ s
  rw [if_neg (by simp), pick_rev]
  first
    | exact wpAny_bind (m := Builtin.Tuple.tupleExact _) (wpAny_newObj_type (wpAny_pure ⟨_, rfl, wpAny_pure h⟩) htake)
    | exact wpAny_bind (m := Builtin.Tuple.tupleExact _) (wpAny_newObj_type (wpAny_bind (wpAny_pure (wpAny_pure ⟨_, rfl, wpAny_pure h⟩))) htake)
    | exact wpAny_bind (wpAny_bind (m := Builtin.Tuple.tupleExact _) (wpAny_newObj_type (wpAny_pure (wpAny_pure ⟨_, rfl, wpAny_pure h⟩)) htake))
    | exact wpAny_bind (wpAny_bind (m := Builtin.Tuple.tupleExact _) (wpAny_newObj_type (wpAny_pure ⟨_, rfl, wpAny_pure h⟩) htake))
end
def tRevT (K : PySem.W.Frag) (te : TE) : TE := fun σ H Q => te σ H fun x H1 => ∃ a xs, x = .ref a ∧ SqT K H1 a xs ∧ ∀ p, H1 p = none → Q (.ref p) (upd H1 p (.tup xs.reverse))
theorem pe_revT {X : Cx} {e : Expr} {te : TE} {k : Nat} {p1 p2 p3 pos : Pos} (he : PE X e te) : PE X (.Subscript e (.Slice none none (some (.UnaryOp .USub (.Constant (.int 1) k p1) p2)) p3) pos) (tRevT X.K te) := by
  refine ⟨fun pins s σ H Q I h => ?_⟩
  refine Subscript_ (thn (he.run pins s σ H _ I h) fun v s1 ⟨x, H1, I1, r1, q1⟩ => ?_)
  obtain ⟨a, xs, ex, hx, q⟩ := q1
  subst ex
  cases r1
  have hst : PO X (some (.UnaryOp .USub (.Constant (.int 1) k p1) p2)) (tPart (tUn (rU fun i => .int (-i)) (tC (.int 1)))) := po_some (pe_un un_neg pe_int)
  refine wpAny_Slice (thn (po_none.run pins s1 σ H1 (fun o H2 => o = none ∧ H2 = H1) I1 ⟨rfl, rfl⟩) fun vl s2 ⟨l, H2, I2, pl, el, e2⟩ => ?_)
  subst el e2
  refine thn (po_none.run pins s2 σ H2 (fun o H3 => o = none ∧ H3 = H2) I2 ⟨rfl, rfl⟩) fun vu s3 ⟨u, H3, I3, pu, eu, e3⟩ => ?_
  subst eu e3
  refine thn (hst.run pins s3 σ H3 (fun o H4 => o = some (-1) ∧ H4 = H3) I3 ⟨1, rfl, -1, rfl, rfl, rfl⟩) fun vs s4 ⟨o, H4, I4, ps, eo, e4⟩ => ?_
  subst eo e4
  have I5 : Inv X pins σ H4 { s4 with heap := s4.heap.push { cls := .type "slice", data := .fields #[vl, vu, vs] } } := I4.kept (t' := s4.toks) fun b ob q => Heap.get?_push_of_some _ q
  obtain ⟨its, r, ht, hz⟩ := I5.tuple hx
  have hlen := r.length
  show wpAny (model X.prog X.w) X.A (subscriptTail e (.Slice none none (some (.UnaryOp .USub (.Constant (.int 1) k p1) p2)) p3) (.ref a) (.ref s4.heap.objs.size)) (EP X pins σ Q) X.xe { s4 with heap := s4.heap.push { cls := .type "slice", data := .fields #[vl, vu, vs] } }
  refine tail_any (ops := [.ref a, .ref s4.heap.objs.size]) ht.typeIs PyProof.Rows.slot_tuple_getitem.lookup ?_ (by with_unfolding_all rfl)
  cases pl
  cases pu
  cases ps
  refine getItem_tuple_rev ht (Heap.IsSliceOf.new _ _ _ _) ?_ (by rw [List.size_toArray]; omega)
  refine ⟨.ref _, _, I5.laid (t' := s4.toks) (o := .tup xs.reverse) (fun b ob q => Heap.get?_push_of_some _ q) (Nat.le_refl _) ?_, rfl, q _ (I5.hok.fresh (Nat.le_refl _))⟩
  exact ⟨by rw [List.length_reverse]; exact hz, _, r.reverse, IsTup.new _ _⟩
end WC

set_option maxHeartbeats 4000000
namespace WC
open PySem PySem.Spec PyProof.Rows L2
def top (i : Nat) : Stmt := PySem.Challenge.pw_withincall_k18_boxes.main.body.getD i (.Pass ⟨0, 0, 0, 0⟩)
abbrev s_InvalidNet_init : Stmt := inClass (top 3) 0
-- InvalidNet.__init__: slots 0 self, 1 reason, 2 position
abbrev nn_InvalidNet_init : List Str := ["self", "reason", "position"]
theorem sc_InvalidNet_init : FnScope ["self", "reason", "position"] ["self", "reason", "position"] (defScope s_InvalidNet_init) := ⟨rfl, rfl, rfl, by decide +kernel, rfl, by decide +kernel, by decide +kernel⟩
abbrev s_InvalidState_init : Stmt := inClass (top 4) 0
-- InvalidState.__init__: slots 0 self, 1 position
abbrev nn_InvalidState_init : List Str := ["self", "position"]
theorem sc_InvalidState_init : FnScope ["self", "position"] ["self", "position"] (defScope s_InvalidState_init) := ⟨rfl, rfl, rfl, by decide +kernel, rfl, by decide +kernel, by decide +kernel⟩
abbrev s_InvalidBox_init : Stmt := inClass (top 5) 0
-- InvalidBox.__init__: slots 0 self, 1 position
abbrev nn_InvalidBox_init : List Str := ["self", "position"]
theorem sc_InvalidBox_init : FnScope ["self", "position"] ["self", "position"] (defScope s_InvalidBox_init) := ⟨rfl, rfl, rfl, by decide +kernel, rfl, by decide +kernel, by decide +kernel⟩
abbrev s_NotFound_init : Stmt := inClass (top 6) 0
-- NotFound.__init__: slots 0 self, 1 number
abbrev nn_NotFound_init : List Str := ["self", "number"]
theorem sc_NotFound_init : FnScope ["self", "number"] ["self", "number"] (defScope s_NotFound_init) := ⟨rfl, rfl, rfl, by decide +kernel, rfl, by decide +kernel, by decide +kernel⟩
abbrev s_is_between : Stmt := top 8
-- is_between: slots 0 value, 1 low, 2 high
abbrev nn_is_between : List Str := ["value", "low", "high"]
theorem sc_is_between : FnScope ["value", "low", "high"] ["value", "low", "high"] (defScope s_is_between) := ⟨rfl, rfl, rfl, by decide +kernel, rfl, by decide +kernel, by decide +kernel⟩
abbrev s_check_number : Stmt := top 9
-- check_number: slots 0 value, 1 many
abbrev nn_check_number : List Str := ["value", "many"]
theorem sc_check_number : FnScope ["value", "many"] ["value", "many"] (defScope s_check_number) := ⟨rfl, rfl, rfl, by decide +kernel, rfl, by decide +kernel, by decide +kernel⟩
abbrev s_Net_init : Stmt := inClass (top 11) 4
-- Net.__init__: slots 0 self, 1 stages, 2 channels, 3 channel
abbrev nn_Net_init : List Str := ["self", "stages", "channels", "channel"]
theorem sc_Net_init : FnScope ["self", "stages", "channels", "channel"] ["self", "stages", "channels"] (defScope s_Net_init) := ⟨rfl, rfl, rfl, by decide +kernel, rfl, by decide +kernel, by decide +kernel⟩
abbrev s_Net_is_capacity : Stmt := inClass (top 11) 5
-- Net.is_capacity: slots 0 value
abbrev nn_Net_is_capacity : List Str := ["value"]
theorem sc_Net_is_capacity : FnScope ["value"] ["value"] (defScope s_Net_is_capacity) := ⟨rfl, rfl, rfl, by decide +kernel, rfl, by decide +kernel, by decide +kernel⟩
abbrev s_Net_without : Stmt := inClass (top 11) 11
-- Net.without: slots 0 self, 1 channel, 2 others
abbrev nn_Net_without : List Str := ["self", "channel", "others"]
theorem sc_Net_without : FnScope ["self", "channel", "others"] ["self", "channel"] (defScope s_Net_without) := ⟨rfl, rfl, rfl, by decide +kernel, rfl, by decide +kernel, by decide +kernel⟩
abbrev s_Net_eq : Stmt := inClass (top 11) 13
-- Net.__eq__: slots 0 self, 1 other
abbrev nn_Net_eq : List Str := ["self", "other"]
theorem sc_Net_eq : FnScope ["self", "other"] ["self", "other"] (defScope s_Net_eq) := ⟨rfl, rfl, rfl, by decide +kernel, rfl, by decide +kernel, by decide +kernel⟩
abbrev s_Pipeline_init : Stmt := inClass (top 12) 0
-- Pipeline.__init__: slots 0 self, 1 stages, 2 capacity, 3 channels, 4 triples, 5 channel
abbrev nn_Pipeline_init : List Str := ["self", "stages", "capacity", "channels", "triples", "channel"]
theorem sc_Pipeline_init : CScope ["self", "stages", "capacity", "channels", "triples", "channel"] ["self", "stages", "capacity", "channels"] (defScope s_Pipeline_init) := ⟨rfl, rfl, rfl, by decide +kernel, rfl, by decide +kernel, by decide +kernel, by decide +kernel, by decide +kernel, by decide +kernel⟩
abbrev s_Pipeline_row : Stmt := inClass (top 12) 1
-- Pipeline.row: slots 0 cls, 1 capacities, 2 stages, 3 channels, 4 stage, 5 capacity
abbrev nn_Pipeline_row : List Str := ["cls", "capacities", "stages", "channels", "stage", "capacity"]
theorem sc_Pipeline_row : FnScope ["cls", "capacities", "stages", "channels", "stage", "capacity"] ["cls", "capacities"] (defScope s_Pipeline_row) := ⟨rfl, rfl, rfl, by decide +kernel, rfl, by decide +kernel, by decide +kernel⟩
abbrev s_has_circle : Stmt := top 13
-- has_circle: slots 0 channels, 1 left, 2 fed, 3 _, 4 consumer, 5 kept, 6 channel
abbrev nn_has_circle : List Str := ["channels", "left", "fed", "_", "consumer", "kept", "channel"]
theorem sc_has_circle : FnScope ["channels", "left", "fed", "_", "consumer", "kept", "channel"] ["channels"] (defScope s_has_circle) := ⟨rfl, rfl, rfl, by decide +kernel, rfl, by decide +kernel, by decide +kernel⟩
abbrev s_numbers_at : Stmt := top 14
-- _numbers_at: slots 0 stages, 1 ends, 2 numbers, 3 _, 4 number, 5 stage, 6 row
abbrev nn_numbers_at : List Str := ["stages", "ends", "numbers", "_", "number", "stage", "row"]
theorem sc_numbers_at : FnScope ["stages", "ends", "numbers", "_", "number", "stage", "row"] ["stages", "ends"] (defScope s_numbers_at) := ⟨rfl, rfl, rfl, by decide +kernel, rfl, by decide +kernel, by decide +kernel⟩
abbrev s_joins_two_stages : Stmt := top 15
-- _joins_two_stages: slots 0 stages, 1 channel, 2 ends, 3 end
abbrev nn_joins_two_stages : List Str := ["stages", "channel", "ends", "end"]
theorem sc_joins_two_stages : FnScope ["stages", "channel", "ends", "end"] ["stages", "channel"] (defScope s_joins_two_stages) := ⟨rfl, rfl, rfl, by decide +kernel, rfl, by decide +kernel, by decide +kernel⟩
abbrev s_check_channels : Stmt := top 16
-- _check_channels: slots 0 stages, 1 channels, 2 earlier, 3 position, 4 channel
abbrev nn_check_channels : List Str := ["stages", "channels", "earlier", "position", "channel"]
theorem sc_check_channels : FnScope ["stages", "channels", "earlier", "position", "channel"] ["stages", "channels"] (defScope s_check_channels) := ⟨rfl, rfl, rfl, by decide +kernel, rfl, by decide +kernel, by decide +kernel⟩
abbrev s_with_capacity : Stmt := top 17
-- _with_capacity: slots 0 channel, 1 capacity, 2 own
abbrev nn_with_capacity : List Str := ["channel", "capacity", "own"]
theorem sc_with_capacity : FnScope ["channel", "capacity", "own"] ["channel", "capacity"] (defScope s_with_capacity) := ⟨rfl, rfl, rfl, by decide +kernel, rfl, by decide +kernel, by decide +kernel⟩
abbrev s_Box_init : Stmt := inClass (top 19) 2
-- Box.__init__: slots 0 self, 1 lows, 2 highs
abbrev nn_Box_init : List Str := ["self", "lows", "highs"]
theorem sc_Box_init : FnScope ["self", "lows", "highs"] ["self", "lows", "highs"] (defScope s_Box_init) := ⟨rfl, rfl, rfl, by decide +kernel, rfl, by decide +kernel, by decide +kernel⟩
abbrev s_Box_full : Stmt := inClass (top 19) 3
-- Box.full: slots 0 stages
abbrev nn_Box_full : List Str := ["stages"]
theorem sc_Box_full : FnScope ["stages"] ["stages"] (defScope s_Box_full) := ⟨rfl, rfl, rfl, by decide +kernel, rfl, by decide +kernel, by decide +kernel⟩
abbrev s_Box_exactly : Stmt := inClass (top 19) 4
-- Box.exactly: slots 0 state
abbrev nn_Box_exactly : List Str := ["state"]
theorem sc_Box_exactly : FnScope ["state"] ["state"] (defScope s_Box_exactly) := ⟨rfl, rfl, rfl, by decide +kernel, rfl, by decide +kernel, by decide +kernel⟩
abbrev s_Box_narrowed : Stmt := inClass (top 19) 5
-- Box.narrowed: slots 0 self, 1 stage, 2 low, 3 high, 4 lows, 5 highs
abbrev nn_Box_narrowed : List Str := ["self", "stage", "low", "high", "lows", "highs"]
theorem sc_Box_narrowed : FnScope ["self", "stage", "low", "high", "lows", "highs"] ["self", "stage", "low", "high"] (defScope s_Box_narrowed) := ⟨rfl, rfl, rfl, by decide +kernel, rfl, by decide +kernel, by decide +kernel⟩
abbrev s_Box_contains : Stmt := inClass (top 19) 6
-- Box.__contains__: slots 0 self, 1 state, 2 counter, 3 low, 4 high
abbrev nn_Box_contains : List Str := ["self", "state", "counter", "low", "high"]
theorem sc_Box_contains : FnScope ["self", "state", "counter", "low", "high"] ["self", "state"] (defScope s_Box_contains) := ⟨rfl, rfl, rfl, by decide +kernel, rfl, by decide +kernel, by decide +kernel⟩
abbrev s_Box_and : Stmt := inClass (top 19) 7
-- Box.__and__: slots 0 self, 1 other, 2 lows, 3 low, 4 other_low, 5 highs, 6 high, 7 other_high
abbrev nn_Box_and : List Str := ["self", "other", "lows", "low", "other_low", "highs", "high", "other_high"]
theorem sc_Box_and : FnScope ["self", "other", "lows", "low", "other_low", "highs", "high", "other_high"] ["self", "other"] (defScope s_Box_and) := ⟨rfl, rfl, rfl, by decide +kernel, rfl, by decide +kernel, by decide +kernel⟩
abbrev s_Box_eq : Stmt := inClass (top 19) 8
-- Box.__eq__: slots 0 self, 1 other
abbrev nn_Box_eq : List Str := ["self", "other"]
theorem sc_Box_eq : FnScope ["self", "other"] ["self", "other"] (defScope s_Box_eq) := ⟨rfl, rfl, rfl, by decide +kernel, rfl, by decide +kernel, by decide +kernel⟩
abbrev s_Box_bool : Stmt := inClass (top 19) 9
-- Box.__bool__: slots 0 self, 1 low, 2 high
abbrev nn_Box_bool : List Str := ["self", "low", "high"]
theorem sc_Box_bool : FnScope ["self", "low", "high"] ["self"] (defScope s_Box_bool) := ⟨rfl, rfl, rfl, by decide +kernel, rfl, by decide +kernel, by decide +kernel⟩
abbrev s_is_counter : Stmt := top 20
-- _is_counter: slots 0 value
abbrev nn_is_counter : List Str := ["value"]
theorem sc_is_counter : FnScope ["value"] ["value"] (defScope s_is_counter) := ⟨rfl, rfl, rfl, by decide +kernel, rfl, by decide +kernel, by decide +kernel⟩
abbrev s_is_row : Stmt := top 21
-- _is_row: slots 0 value
abbrev nn_is_row : List Str := ["value"]
theorem sc_is_row : FnScope ["value"] ["value"] (defScope s_is_row) := ⟨rfl, rfl, rfl, by decide +kernel, rfl, by decide +kernel, by decide +kernel⟩
abbrev s_check_windows : Stmt := top 22
-- _check_windows: slots 0 lows, 1 highs, 2 position, 3 low, 4 high
abbrev nn_check_windows : List Str := ["lows", "highs", "position", "low", "high"]
theorem sc_check_windows : FnScope ["lows", "highs", "position", "low", "high"] ["lows", "highs"] (defScope s_check_windows) := ⟨rfl, rfl, rfl, by decide +kernel, rfl, by decide +kernel, by decide +kernel⟩
abbrev s_law_bag : Stmt := top 24
-- _law_bag: slots 0 script
abbrev nn_law_bag : List Str := ["script"]
theorem sc_law_bag : FnScope ["script"] ["script"] (defScope s_law_bag) := ⟨rfl, rfl, rfl, by decide +kernel, rfl, by decide +kernel, by decide +kernel⟩
abbrev s_law_take : Stmt := top 25
-- _law_take: slots 0 bag, 1 size, 2 cell, 3 digit, 4 mixed
abbrev nn_law_take : List Str := ["bag", "size", "cell", "digit", "mixed"]
theorem sc_law_take : FnScope ["bag", "size", "cell", "digit", "mixed"] ["bag", "size"] (defScope s_law_take) := ⟨rfl, rfl, rfl, by decide +kernel, rfl, by decide +kernel, by decide +kernel⟩
abbrev s_law_whole : Stmt := top 26
-- _law_whole: slots 0 one
abbrev nn_law_whole : List Str := ["one"]
theorem sc_law_whole : FnScope ["one"] ["one"] (defScope s_law_whole) := ⟨rfl, rfl, rfl, by decide +kernel, rfl, by decide +kernel, by decide +kernel⟩
abbrev s_law_same : Stmt := top 27
-- _law_same: slots 0 told, 1 due, 2 k
abbrev nn_law_same : List Str := ["told", "due", "k"]
theorem sc_law_same : FnScope ["told", "due", "k"] ["told", "due"] (defScope s_law_same) := ⟨rfl, rfl, rfl, by decide +kernel, rfl, by decide +kernel, by decide +kernel⟩
abbrev s_law_counter : Stmt := top 28
-- _law_counter: slots 0 bag, 1 way
abbrev nn_law_counter : List Str := ["bag", "way"]
theorem sc_law_counter : FnScope ["bag", "way"] ["bag"] (defScope s_law_counter) := ⟨rfl, rfl, rfl, by decide +kernel, rfl, by decide +kernel, by decide +kernel⟩
abbrev s_law_odd : Stmt := top 29
-- _law_odd: slots 0 bag
abbrev nn_law_odd : List Str := ["bag"]
theorem sc_law_odd : FnScope ["bag"] ["bag"] (defScope s_law_odd) := ⟨rfl, rfl, rfl, by decide +kernel, rfl, by decide +kernel, by decide +kernel⟩
abbrev s_law_good : Stmt := top 30
-- _law_good: slots 0 one
abbrev nn_law_good : List Str := ["one"]
theorem sc_law_good : FnScope ["one"] ["one"] (defScope s_law_good) := ⟨rfl, rfl, rfl, by decide +kernel, rfl, by decide +kernel, by decide +kernel⟩
abbrev s_law_fault : Stmt := top 31
-- _law_fault: slots 0 bottoms, 1 roofs, 2 row, 3 k
abbrev nn_law_fault : List Str := ["bottoms", "roofs", "row", "k"]
theorem sc_law_fault : FnScope ["bottoms", "roofs", "row", "k"] ["bottoms", "roofs"] (defScope s_law_fault) := ⟨rfl, rfl, rfl, by decide +kernel, rfl, by decide +kernel, by decide +kernel⟩
abbrev s_law_spoilt : Stmt := top 32
-- _law_spoilt: slots 0 bag, 1 row, 2 way, 3 bent
abbrev nn_law_spoilt : List Str := ["bag", "row", "way", "bent"]
theorem sc_law_spoilt : FnScope ["bag", "row", "way", "bent"] ["bag", "row"] (defScope s_law_spoilt) := ⟨rfl, rfl, rfl, by decide +kernel, rfl, by decide +kernel, by decide +kernel⟩
abbrev s_law_built : Stmt := top 33
-- _law_built: slots 0 bottoms, 1 roofs, 2 e, 3 above
abbrev nn_law_built : List Str := ["bottoms", "roofs", "e", "above"]
theorem sc_law_built : FnScope ["bottoms", "roofs", "e", "above"] ["bottoms", "roofs"] (defScope s_law_built) := ⟨rfl, rfl, rfl, by decide +kernel, rfl, by decide +kernel, by decide +kernel⟩
abbrev s_law_made : Stmt := top 34
-- _law_made: slots 0 way, 1 one, 2 e
abbrev nn_law_made : List Str := ["way", "one", "e"]
theorem sc_law_made : FnScope ["way", "one", "e"] ["way", "one"] (defScope s_law_made) := ⟨rfl, rfl, rfl, by decide +kernel, rfl, by decide +kernel, by decide +kernel⟩
abbrev s_law_cut : Stmt := top 35
-- _law_cut: slots 0 box, 1 stage, 2 way, 3 one, 4 two, 5 e
abbrev nn_law_cut : List Str := ["box", "stage", "way", "one", "two", "e"]
theorem sc_law_cut : FnScope ["box", "stage", "way", "one", "two", "e"] ["box", "stage", "way", "one", "two"] (defScope s_law_cut) := ⟨rfl, rfl, rfl, by decide +kernel, rfl, by decide +kernel, by decide +kernel⟩
abbrev s_law_has : Stmt := top 36
-- _law_has: slots 0 box, 1 bottoms, 2 roofs
abbrev nn_law_has : List Str := ["box", "bottoms", "roofs"]
theorem sc_law_has : FnScope ["box", "bottoms", "roofs"] ["box", "bottoms", "roofs"] (defScope s_law_has) := ⟨rfl, rfl, rfl, by decide +kernel, rfl, by decide +kernel, by decide +kernel⟩
abbrev s_law_due : Stmt := top 37
-- _law_due: slots 0 told, 1 fault, 2 bottoms, 3 roofs
abbrev nn_law_due : List Str := ["told", "fault", "bottoms", "roofs"]
theorem sc_law_due : FnScope ["told", "fault", "bottoms", "roofs"] ["told", "fault", "bottoms", "roofs"] (defScope s_law_due) := ⟨rfl, rfl, rfl, by decide +kernel, rfl, by decide +kernel, by decide +kernel⟩
abbrev s_law_makers : Stmt := top 38
-- _law_makers: slots 0 bag, 1 many, 2 state, 3 k, 4 size, 5 fault, 6 rows
abbrev nn_law_makers : List Str := ["bag", "many", "state", "k", "size", "fault", "rows"]
theorem sc_law_makers : FnScope ["bag", "many", "state", "k", "size", "fault", "rows"] ["bag", "many"] (defScope s_law_makers) := ⟨rfl, rfl, rfl, by decide +kernel, rfl, by decide +kernel, by decide +kernel⟩
abbrev s_law_cuts : Stmt := top 39
-- _law_cuts: slots 0 bag, 1 box, 2 bottoms, 3 roofs, 4 stage, 5 pair, 6 way, 7 used, 8 again, 9 told, 10 cut
abbrev nn_law_cuts : List Str := ["bag", "box", "bottoms", "roofs", "stage", "pair", "way", "used", "again", "told", "cut"]
theorem sc_law_cuts : FnScope ["bag", "box", "bottoms", "roofs", "stage", "pair", "way", "used", "again", "told", "cut"] ["bag", "box", "bottoms", "roofs"] (defScope s_law_cuts) := ⟨rfl, rfl, rfl, by decide +kernel, rfl, by decide +kernel, by decide +kernel⟩
abbrev s_law_inside : Stmt := top 40
-- _law_inside: slots 0 probe, 1 bottoms, 2 roofs, 3 k
abbrev nn_law_inside : List Str := ["probe", "bottoms", "roofs", "k"]
theorem sc_law_inside : FnScope ["probe", "bottoms", "roofs", "k"] ["probe", "bottoms", "roofs"] (defScope s_law_inside) := ⟨rfl, rfl, rfl, by decide +kernel, rfl, by decide +kernel, by decide +kernel⟩
abbrev s_law_probes : Stmt := top 41
-- _law_probes: slots 0 bag, 1 box, 2 bottoms, 3 roofs, 4 k, 5 row, 6 j, 7 at, 8 way, 9 probe
abbrev nn_law_probes : List Str := ["bag", "box", "bottoms", "roofs", "k", "row", "j", "at", "way", "probe"]
theorem sc_law_probes : FnScope ["bag", "box", "bottoms", "roofs", "k", "row", "j", "at", "way", "probe"] ["bag", "box", "bottoms", "roofs"] (defScope s_law_probes) := ⟨rfl, rfl, rfl, by decide +kernel, rfl, by decide +kernel, by decide +kernel⟩
abbrev s_law_common : Stmt := top 42
-- _law_common: slots 0 one, 1 two, 2 e
abbrev nn_law_common : List Str := ["one", "two", "e"]
theorem sc_law_common : FnScope ["one", "two", "e"] ["one", "two"] (defScope s_law_common) := ⟨rfl, rfl, rfl, by decide +kernel, rfl, by decide +kernel, by decide +kernel⟩
abbrev s_law_pairs : Stmt := top 43
-- _law_pairs: slots 0 bag, 1 box, 2 bottoms, 3 roofs, 4 rows, 5 way, 6 row, 7 at, 8 k, 9 mate, 10 alike, 11 lowest, 12 highest, 13 told, 14 size, 15 other
abbrev nn_law_pairs : List Str := ["bag", "box", "bottoms", "roofs", "rows", "way", "row", "at", "k", "mate", "alike", "lowest", "highest", "told", "size", "other"]
theorem sc_law_pairs : FnScope ["bag", "box", "bottoms", "roofs", "rows", "way", "row", "at", "k", "mate", "alike", "lowest", "highest", "told", "size", "other"] ["bag", "box", "bottoms", "roofs"] (defScope s_law_pairs) := ⟨rfl, rfl, rfl, by decide +kernel, rfl, by decide +kernel, by decide +kernel⟩
abbrev s_law_others : Stmt := top 44
-- _law_others: slots 0 bag, 1 box, 2 bottoms, 3 roofs, 4 strange, 5 one, 6 full, 7 k
abbrev nn_law_others : List Str := ["bag", "box", "bottoms", "roofs", "strange", "one", "full", "k"]
theorem sc_law_others : FnScope ["bag", "box", "bottoms", "roofs", "strange", "one", "full", "k"] ["bag", "box", "bottoms", "roofs"] (defScope s_law_others) := ⟨rfl, rfl, rfl, by decide +kernel, rfl, by decide +kernel, by decide +kernel⟩
abbrev s_law : Stmt := top 45
-- law: slots 0 script, 1 bag, 2 many, 3 rows, 4 k, 5 lowest, 6 handed, 7 told, 8 box
abbrev nn_law : List Str := ["script", "bag", "many", "rows", "k", "lowest", "handed", "told", "box"]
theorem sc_law : FnScope ["script", "bag", "many", "rows", "k", "lowest", "handed", "told", "box"] ["script"] (defScope s_law) := ⟨rfl, rfl, rfl, by decide +kernel, rfl, by decide +kernel, by decide +kernel⟩
end WC

set_option maxHeartbeats 4000000
namespace WC
open PySem PySem.Spec PyProof.Rows L2
/-- built-ins' names that the module leaves alone -/
structure Blt (mg : Str → Option Value) : Prop where
  isi : mg "isinstance" = none
  int : mg "int" = none
  bool : mg "bool" = none
  tuple : mg "tuple" = none
  list : mg "list" = none
  str : mg "str" = none
  len : mg "len" = none
  range : mg "range" = none
  sorted : mg "sorted" = none
  enum : mg "enumerate" = none
  sum : mg "sum" = none
  all : mg "all" = none
  max : mg "max" = none
  min : mg "min" = none
  verr : mg "ValueError" = none
/-- a value that the laws hand about: its type is known -/
def Known (K : PySem.W.Frag) (H : Hp) : V → Prop
  | .int _ => True
  | .bl _ => True
  | .non => True
  | .str _ => True
  | .ref a => (∃ xs, H a = some (.tup xs)) ∨ ∃ xs, H a = some (.lst xs)
  | _ => False
/-- the value's type -/
def tyN (H : Hp) : V → String
  | .int _ => "int"
  | .bl _ => "bool"
  | .non => "NoneType"
  | .str _ => "str"
  | .ref a => match H a with
    | some (.tup _) => "tuple"
    | _ => "list"
  | _ => "list"
theorem Known.ty {K : PySem.W.Frag} {H : Hp} {x : V} (k : Known K H x) : TyX K H x (.type (tyN H x)) := by
  cases x with
  | int i => exact .base (.int i)
  | bl b => exact .base (.bl b)
  | non => exact .base .non
  | str z => exact .base (.str z)
  | ref a =>
    rcases k with ⟨xs, e⟩ | ⟨xs, e⟩
    · have q : tyN H (.ref a) = "tuple" := by simp only [tyN, e]
      rw [q]
      exact .base (.tup e)
    · have q : tyN H (.ref a) = "list" := by simp only [tyN, e]
      rw [q]
      exact .base (.lst e)
  | byt b => exact k.elim
  | flt b => exact k.elim
  | ty n => exact k.elim
theorem tyN_ref {H : Hp} {a : Addr} : tyN H (.ref a) = "tuple" ∨ tyN H (.ref a) = "list" := by
  simp only [tyN]
  split
  · exact .inl rfl
  · exact .inr rfl
/-- an int within the bounds -/
def btw (x : V) (lo hi : Int) : Bool := match x with
  | .int i => decide (lo ≤ i) && decide (i ≤ hi)
  | _ => false
def isIV : V → Bool
  | .int _ => true
  | _ => false
def isBV : V → Bool
  | .bl _ => true
  | _ => false
theorem kb (a b : String) (r : Bool) (h : kitB a b = some r) {K : PySem.W.Frag} {t : String} (e : t = a) : PySem.W.kitOne K (.type t) (.type b) = some r := by
  rw [e]
  exact kit_ty h
theorem kit_int {K : PySem.W.Frag} {H : Hp} {x : V} (k : Known K H x) : PySem.W.kitOne K (.type (tyN H x)) (.type "int") = some (isIV x || isBV x) := by
  cases x with
  | int i => exact kb "int" "int" true (by decide +kernel) rfl
  | bl b => exact kb "bool" "int" true (by decide +kernel) rfl
  | non  => exact kb "NoneType" "int" false (by decide +kernel) rfl
  | str z => exact kb "str" "int" false (by decide +kernel) rfl
  | ref a =>
    rcases @tyN_ref H a with q | q
    · exact kb "tuple" "int" false (by decide +kernel) q
    · exact kb "list" "int" false (by decide +kernel) q
  | byt b => exact k.elim
  | flt b => exact k.elim
  | ty n => exact k.elim
theorem kit_bool {K : PySem.W.Frag} {H : Hp} {x : V} (k : Known K H x) : PySem.W.kitOne K (.type (tyN H x)) (.type "bool") = some (isBV x) := by
  cases x with
  | int i => exact kb "int" "bool" false (by decide +kernel) rfl
  | bl b => exact kb "bool" "bool" true (by decide +kernel) rfl
  | non  => exact kb "NoneType" "bool" false (by decide +kernel) rfl
  | str z => exact kb "str" "bool" false (by decide +kernel) rfl
  | ref a =>
    rcases @tyN_ref H a with q | q
    · exact kb "tuple" "bool" false (by decide +kernel) q
    · exact kb "list" "bool" false (by decide +kernel) q
  | byt b => exact k.elim
  | flt b => exact k.elim
  | ty n => exact k.elim
def spBtw (K : PySem.W.Frag) : Sp := fun vs H Q _ => ∃ (x : V) (lo hi : Int), vs = [x, .int lo, .int hi] ∧ Known K H x ∧ Q (.bl (btw x lo hi)) H
section
variable {P : Program} {w : World} {K : PySem.W.Frag} {mg : Str → Option Value} {base : Heap}
theorem ok_is_between {f : Addr} {fd : FuncData} (F : Fun K "is_between" "is_between" s_is_between f fd) (B : Blt mg) : FnOk P w K mg base (L2.CX P w) 1 f fd ["value", "low", "high"] (spBtw K) := by
  refine F.okX sc_is_between (fun vs H Q E h => ?_) (fun cdv A outer s H vs Q E hr h => ?_)
  · obtain ⟨x, lo, hi, rfl, _⟩ := h
    rfl
  · obtain ⟨x, lo, hi, rfl, hk, k⟩ := h
    refine ⟨_, pss_one (ps_ret (pe_and (pe_callB call_isi (by rfl) B.isi (by decide +kernel) (pa_cons (pv 0) (pa_cons (pe_bltn (v := .ty "int") (by rfl) B.int (by decide +kernel) rfl) pa_nil)))
      (pe_and (pe_not (pe_callB call_isi (by rfl) B.isi (by decide +kernel) (pa_cons (pv 0) (pa_cons (pe_bltn (v := .ty "bool") (by rfl) B.bool (by decide +kernel) rfl) pa_nil))))
        (pe_one (pe_chain op_le op_le (pv 1) (pv 0) (pv 2)))))), ?_⟩
    refine ⟨_, rfl, _, _, _, _, _, rfl, .ty _, hk.ty, kit_int hk, _, rfl, ?_⟩
    cases x with
    | int i =>
      refine iteT ⟨_, rfl, _, _, _, _, _, rfl, .ty _, hk.ty, kit_bool hk, _, rfl, _, rfl, ?_⟩
      refine iteT ⟨_, rfl, _, rfl, _, _, rfl, rfl, _, rfl, ?_⟩
      refine ite2 (fun e => ⟨_, rfl, _, _, rfl, rfl, ?_⟩) (fun e => ?_)
      · have q : btw (.int i) lo hi = decide (i ≤ hi) := by unfold btw; simp [e]
        rw [q] at k
        exact k
      · have q : btw (.int i) lo hi = false := by unfold btw; simp; intro z; simp [z] at e
        rw [q] at k
        exact k
    | bl b => exact iteT ⟨_, rfl, _, _, _, _, _, rfl, .ty _, hk.ty, kit_bool hk, _, rfl, _, rfl, iteF k⟩
    | non => exact iteF k
    | str z => exact iteF k
    | ref a => exact iteF k
    | byt b => exact hk.elim
    | flt b => exact hk.elim
    | ty n => exact hk.elim
end
end WC

set_option maxHeartbeats 4000000
namespace WC
open PySem PySem.Spec PyProof.Rows L2
def flN : List V → List (Str × V)
  | [v] => [("number", v)]
  | _ => []
section
variable {P : Program} {w : World} {K : PySem.W.Frag} {mg : Str → Option Value} {base : Heap}
theorem ok_NotFound_init {f C : Addr} {fd : FuncData} (F : Fun K "__init__" "NotFound.__init__" s_NotFound_init f fd) (T : OexC K C) (hno : PySem.W.findIn K (.ref C) "number" = some none) : FnOk P w K mg base (L2.CX P w) 1 f fd ["self", "number"] (spX C 1 flN) := by
  refine F.okX sc_NotFound_init (fun vs H Q E h => ?_) (fun cdv A outer s H vs Q E hr h => ?_)
  · obtain ⟨a, ws, rfl, hl, _⟩ := h
    simp [hl]
  · obtain ⟨a, ws, rfl, hl, ha, k⟩ := h
    match ws, hl with
    | [v], _ =>
      refine ⟨_, pss_one (ps_ost (pv 0) (pv 1)), ?_⟩
      exact ⟨_, rfl, _, rfl, a, C, rfl, T, hno, .inl ⟨ha, fun d hd hne => k d hd hne⟩⟩
/-- check_number(value, many): nothing, or NotFound(value) -/
def spCheckNumber (K : PySem.W.Frag) (CN : Addr) : Sp := fun vs H Q E => ∃ (x : V) (n : Int), vs = [x, .int n] ∧ Known K H x ∧
  (btw x 0 (n - 1) = true → Q .non H) ∧ (btw x 0 (n - 1) = false → ∀ d, H d = none → E (.ref CN) (some d) (upd H d (.xd [("number", x)])))
theorem ok_check_number {f CN : Addr} {fd : FuncData} {k : Nat} (F : Fun K "check_number" "check_number" s_check_number f fd) (G : DefR P w K mg base "is_between" 1 (spBtw K)) (T : ExcR P w K mg base "NotFound" CN 1 1 flN) : FnOk P w K mg base (L2.CX P w) 3 f fd ["value", "many"] (spCheckNumber K CN) := by
  refine F.okX sc_check_number (fun vs H Q E h => ?_) (fun cdv A outer s H vs Q E hr h => ?_)
  · obtain ⟨x, n, rfl, _⟩ := h
    rfl
  · obtain ⟨x, n, rfl, hk, k1, k2⟩ := h
    refine ⟨_, pss_one (ps_if (pt_not (pt_val (pe_cd G hr psE (pa_cons (pv 0) (pa_cons pe_int (pa_cons (pe_op op_sub (pv 1) pe_int) pa_nil)))))) (pss_one (ps_raise rfl (takes_of rfl rfl rfl rfl) (pmk_x T hr (pa_cons (pv 0) pa_nil)))) pss_nil), ?_⟩
    refine ⟨_, rfl, _, rfl, _, _, rfl, rfl, _, _, _, rfl, hk, _, rfl, ?_⟩
    cases e : btw x 0 (n - 1) with
    | true => exact iteF (k1 e)
    | false => exact iteT ⟨_, rfl, x_use rfl (by decide) fun d hd => k2 e d hd⟩
end
end WC

set_option maxHeartbeats 4000000
namespace WC
open PySem PySem.Spec PyProof.Rows L2
/-- _numbers_at(stages, ends) -/
def spNums : Sp := fun vs H Q _ => ∃ (n : Nat) (l : Addr) (es : List Int), vs = [.int n, .ref l] ∧ n ≤ 40 ∧ H l = some (.lst (es.map V.int)) ∧ es.length ≤ 1000 ∧ (∀ e ∈ es, 0 ≤ e ∧ e < n) ∧
  ∀ H2 r, Same H H2 → H r = none → RowsA H2 r n es → Q (.ref r) H2
/-- the rows while they are filled -/
structure Filling (H0 H : Hp) (D : Addr) (ls : List Addr) (n : Nat) (es : List Int) (m : Nat) : Prop where
  same : Same H0 H
  dN : H0 D = none
  dL : H D = some (.lst (ls.map V.ref))
  len : ls.length = n
  nod : ls.Nodup
  fresh : ∀ l ∈ ls, H0 l = none ∧ l ≠ D
  rows : ∀ (j : Nat) l, ls[j]? = some l → H l = some (.lst ((occ es (j : Int) m).map V.int))
section
variable {P : Program} {w : World} {K : PySem.W.Frag} {mg : Str → Option Value} {base : Heap}
theorem ok_numbers_at {f : Addr} {fd : FuncData} (F : Fun K "_numbers_at" "_numbers_at" s_numbers_at f fd) (B : Blt mg) : FnOk P w K mg base (L2.CX P w) 1 f fd ["stages", "ends"] spNums := by
  refine F.okX sc_numbers_at (fun vs H Q E h => ?_) (fun cdv A outer s H vs Q E hr h => ?_)
  · obtain ⟨n, l, es, rfl, _⟩ := h
    rfl
  · obtain ⟨n, l, es, rfl, hn, hl, hle, hes, k⟩ := h
    -- slots: 0 stages, 1 ends, 2 numbers, 3 _, 4 number, 5 stage, 6 row
    refine ⟨_, pss_cons (ps_setLc (i := 2) (own := [("_", 3)]) rfl sc_numbers_at.nd rfl rfl (sw_true rfl rfl rfl (by decide +kernel)) (pi_range1 (by rfl) B.range (pa_cons (pv 0) pa_nil)) (blkOk_by (N := nn_numbers_at) (sc := defScope s_numbers_at) (own := [("_", 3)]) (by decide +kernel))
        (fun _ _ _ _ _ => pg_name (i := 3) sc_numbers_at.nd rfl (Or.inl rfl)) (fun _ _ _ _ _ => pts_nil) (fun _ _ _ _ _ => pe_lst pa_nil))
      (pss_cons (ps_for (passes_of rfl) rfl (pi_enum (by rfl) B.enum (pa_cons (pv 1) pa_nil)) (pg_tup rfl (pgs_cons (pg_name (i := 4) sc_numbers_at.nd rfl (Or.inl rfl)) (pgs_cons (pg_name (i := 5) sc_numbers_at.nd rfl (Or.inl rfl)) pgs_nil)))
        (pss_one (ps_expr (pe_bm PySem.F.plainAttrs_list PySem.F.slot_list_append PySem.F.type_list_append mt_append (pe_ix ix_list (pv 2) (pv 5) (fun _ _ => rfl)) (pa_cons (pv 4) pa_nil)))))
      (pss_one (ps_ret (pe_callTy call_tuple_of (by rfl) B.tuple (by decide +kernel) (pa_cons
        (pe_lc (own := [("row", 6)]) rfl sc_numbers_at.nd (pi_list (pv 2)) (blkOk_by (N := nn_numbers_at) (sc := defScope s_numbers_at) (own := [("row", 6)]) (by decide +kernel)) (fun _ _ _ _ _ => pg_name (i := 6) sc_numbers_at.nd rfl (Or.inl rfl)) (fun _ _ _ _ _ => pts_nil)
          (fun _ _ _ _ _ => pe_callTy (T := "tuple") (c_tup (K := K)) (by rfl) B.tuple bt_tuple (pa_cons (pv 6) pa_nil))) pa_nil))))), ?_⟩
    -- numbers = [[] for _ in range(stages)]
    refine ⟨_, rfl, (n : Int), rfl, by omega, by omega, fun D hD => lc_range (lo := 0) (n := n) (fun i H2 => ∃ ls, Filling H H2 D ls i es 0) ⟨[], ?_⟩ ?_ ?_⟩
    · exact ⟨Same.new hD, hD, upd_same, rfl, List.nodup_nil, fun _ z => (by cases z), fun j l e => (by simp at e)⟩
    · rintro i H2 hi ⟨ls, Fl⟩
      refine ⟨rfl, ?_⟩
      refine yes ?_
      refine ⟨by decide, fun p hp => ⟨ls.map V.ref, ?_, ?_, ls ++ [p], ?_⟩⟩
      · rw [upd_ne (ne_of_none Fl.dL hp)]
        exact Fl.dL
      · rw [List.length_map, Fl.len]
        exact line_lt (by omega)
      · have pD : p ≠ D := (ne_of_none Fl.dL hp).symm
        have pH : H p = none := Fl.same.free hp
        refine ⟨(Fl.same.newer pH).newer hD, hD, by rw [upd_same, List.map_append]; rfl, by rw [List.length_append, Fl.len]; rfl, ?_, ?_, ?_⟩
        · rw [List.nodup_append]
          refine ⟨Fl.nod, by simp, fun a ha b hb e => ?_⟩
          have hb := List.mem_singleton.mp hb
          obtain ⟨j, hj⟩ := List.mem_iff_getElem?.mp ha
          have z := Fl.rows j a hj
          rw [e, hb, hp] at z
          cases z
        · intro l2 h2
          rcases List.mem_append.mp h2 with h2 | h2
          · exact Fl.fresh l2 h2
          · have e := List.mem_singleton.mp h2
            rw [e]
            exact ⟨pH, pD⟩
        · intro j l2 e
          by_cases hj : j < ls.length
          · rw [List.getElem?_append_left hj] at e
            have z := Fl.rows j l2 e
            have hm := List.mem_of_getElem? e
            rw [upd_ne (Fl.fresh l2 hm).2, upd_ne (ne_of_none z hp)]
            exact z
          · rw [List.getElem?_append_right (by omega)] at e
            have e1 : l2 = p := by
              cases q : j - ls.length with
              | zero => rw [q] at e; exact (Option.some.inj e).symm
              | succ m => rw [q] at e; cases e
            rw [e1, upd_ne pD, upd_same, occ_zero]
            rfl
    · -- for number, stage in enumerate(ends)
      rintro H2 ⟨ls, Fl⟩
      refine ⟨_, rfl, l, _, rfl, SqL.of (Fl.same _ _ hl), for_it (walk_enum (xs := es.map V.int)) (fun m σ H3 => ∃ v4 v5 v3 v6, σ = [some (.int n), some (.ref l), some (.ref D), v3, v4, v5, v6] ∧ ∃ ls, Filling H H3 D ls n es m) ⟨_, _, _, _, rfl, ls, Fl⟩ ?_ ?_ ?_⟩
      · rintro i σ H3 _ ⟨_, _, _, _, _, ls, Fl⟩
        exact SqL.of (Fl.same _ _ hl)
      · rintro i x σ H3 H4 hi ⟨v4, v5, v3, v6, rfl, ls, Fl⟩ ⟨T, x1, y1, rfl, hT, rfl, e1, e2⟩
        cases e1
        rw [List.length_map] at hi
        have he : es[i]? = some es[i] := by simp [hi]
        have e3 : y1 = V.int es[i] := by
          have e2 : (es.map V.int)[i]? = some y1 := e2
          rw [List.getElem?_map, he] at e2
          exact (Option.some.inj e2).symm
        subst e3
        obtain ⟨g0, g1⟩ := hes _ (List.mem_of_getElem? he)
        obtain ⟨j, hj⟩ : ∃ j : Nat, es[i] = (j : Int) := ⟨es[i].toNat, by omega⟩
        have hjn : j < ls.length := by rw [Fl.len]; omega
        have hlj : ls[j]? = some ls[j] := by simp [hjn]
        have rj := Fl.rows j _ hlj
        have fj := Fl.fresh _ (List.mem_of_getElem? hlj)
        have TD : D ≠ T := ne_of_none Fl.dL hT
        have Tj : ls[j] ≠ T := ne_of_none rj hT
        refine ⟨T, _, rfl, SqT.of upd_same, rfl, ?_⟩
        refine ⟨_, _, rfl, _, _, rfl, rfl, _, rfl, _, rfl, D, _, _, .ref ls[j], rfl, rfl, SqL.of (by rw [upd_ne TD]; exact Fl.dL), ?_, ?_⟩
        · rw [hj]
          exact atI_nat (by rw [List.getElem?_map, hlj]; rfl)
        refine ⟨.inl ⟨rfl, _, SqL.of (by rw [upd_ne Tj]; exact rj)⟩, _, rfl, ls[j], _, _, rfl, rfl, by rw [upd_ne Tj]; exact rj, ?_, ?_⟩
        · rw [List.length_map]
          exact line_lt (by have := occ_len es (j : Int) i; omega)
        refine ⟨_, _, _, _, rfl, ls, ?_⟩
        have hTH : H T = none := Fl.same.free hT
        have hit : occ es (j : Int) (i + 1) = occ es (j : Int) i ++ [(i : Int)] := occ_hit (by rw [he, hj])
        refine ⟨(Fl.same.newer hTH).newer fj.1, hD, by rw [upd_ne (Ne.symm fj.2), upd_ne TD]; exact Fl.dL, Fl.len, Fl.nod, Fl.fresh, fun q l2 e => ?_⟩
        by_cases hq : q = j
        · subst hq
          rw [hlj] at e
          cases e
          rw [upd_same, hit, List.map_append]
          rfl
        · have ne : l2 ≠ ls[j] := fun z => hq ((List.getElem?_inj (by have := (List.getElem?_eq_some_iff.mp e).1; omega) Fl.nod).mp (by rw [e, hlj, z]))
          have z := Fl.rows q l2 e
          rw [upd_ne ne, upd_ne (ne_of_none z hT), occ_miss (e := es[i]) he (by rw [hj]; omega)]
          exact z
      · -- the tuples
        rintro σ H3 ⟨v4, v5, v3, v6, rfl, ls, Fl⟩
        rw [List.length_map] at Fl
        refine ⟨_, rfl, D, rfl, ⟨_, SqL.of Fl.dL⟩, fun R hR => lc_list (K := K) (a := D) (xs := ls.map V.ref) (fun m H4 => Same H3 H4 ∧ ∃ ts : List V, H4 R = some (.lst ts) ∧ ts.length = m ∧ ∀ (j : Nat) v, ts[j]? = some v → ∃ t, v = .ref t ∧ H4 t = some (.tup ((occ es (j : Int) es.length).map V.int))) ⟨Same.new hR, [], upd_same, rfl, fun j v e => by simp at e⟩ (fun i H4 _ h4 => SqL.of (h4.1 _ _ Fl.dL)) ?_ ?_⟩
        · rintro i x H4 hx ⟨s4, ts, t1, t2, t3⟩
          rw [List.getElem?_map] at hx
          obtain ⟨lx, e1, e2⟩ : ∃ lx, ls[i]? = some lx ∧ x = V.ref lx := by
            cases q : ls[i]? with
            | none => rw [q] at hx; cases hx
            | some lx => rw [q] at hx; exact ⟨lx, rfl, (Option.some.inj hx).symm⟩
          subst e2
          refine ⟨rfl, ?_⟩
          refine yes ?_
          refine ⟨_, rfl, lx, _, rfl, .inl ⟨SqL.of (s4 _ _ (Fl.rows i lx e1)), fun p hp => ⟨ts, ?_, ?_, ?_, ts ++ [.ref p], upd_same, by rw [List.length_append, t2]; rfl, ?_⟩⟩⟩
          · rw [upd_ne (ne_of_none t1 hp)]
            exact t1
          · have : i < ls.length := (List.getElem?_eq_some_iff.mp e1).1
            have := Fl.len
            exact line_lt (by omega)
          · exact Same.newer (Same.newer s4 (Same.free s4 hp)) hR
          · have pR : p ≠ R := (ne_of_none t1 hp).symm
            intro j v e
            by_cases hj : j < ts.length
            · rw [List.getElem?_append_left hj] at e
              obtain ⟨t, q1, q2⟩ := t3 j v e
              have tR : t ≠ R := fun z => by
                rw [z, t1] at q2
                cases q2
              refine ⟨t, q1, ?_⟩
              rw [upd_ne tR, upd_ne (ne_of_none q2 hp)]
              exact q2
            · rw [List.getElem?_append_right (by omega)] at e
              have e1 : v = V.ref p ∧ j = i := by
                cases q : j - ts.length with
                | zero => rw [q] at e; exact ⟨(Option.some.inj e).symm, by omega⟩
                | succ m => rw [q] at e; cases e
              refine ⟨p, e1.1, ?_⟩
              rw [upd_ne pR, upd_same, e1.2]
        · rintro H4 ⟨s4, ts, t1, t2, t3⟩
          rw [List.length_map, Fl.len] at t2
          refine ⟨R, ts, rfl, .inl ⟨SqL.of t1, fun r hr2 => ?_⟩⟩
          have s5 : Same H H4 := Fl.same.trans s4
          refine k _ r (Same.newer s5 (Same.free s5 hr2)) (Same.free s5 hr2) ⟨ts, upd_same, t2, fun j v e => ?_⟩
          obtain ⟨t, q1, q2⟩ := t3 j v e
          exact ⟨t, q1, by rw [upd_ne (ne_of_none q2 hr2)]; exact q2⟩
end
end WC

set_option maxHeartbeats 4000000
namespace WC
open PySem PySem.Spec PyProof.Rows L2
theorem pr_perm {α β : Type} {F : α → β → Prop} {ys vs : List β} (p : ys.Perm vs) : ∀ {cs : List α}, Paired F cs vs → ∃ cs2 : List α, cs2.Perm cs ∧ Paired F cs2 ys := by
  induction p with
  | nil => intro cs h; exact ⟨cs, .refl _, h⟩
  | cons x p ih =>
    intro cs h
    cases h with
    | cons a t =>
      obtain ⟨c2, q, r⟩ := ih t
      exact ⟨_ :: c2, q.cons _, .cons a r⟩
  | swap x y l =>
    intro cs h
    cases h with
    | cons a t =>
      cases t with
      | cons b t => exact ⟨_, .swap _ _ _, .cons b (.cons a t)⟩
  | trans p q ih1 ih2 =>
    intro cs h
    obtain ⟨c2, q1, r1⟩ := ih2 h
    obtain ⟨c3, q2, r2⟩ := ih1 r1
    exact ⟨c3, q2.trans q1, r2⟩
def key (c : Tri) : Int := (c.1 * 1000 + c.2.1) * 1000 + c.2.2
/-- a channel of a net of n stages -/
def ChOk (n : Nat) (c : Tri) : Prop := (0 ≤ c.1 ∧ c.1 < n) ∧ (0 ≤ c.2.1 ∧ c.2.1 < n) ∧ c.1 ≠ c.2.1 ∧ 1 ≤ c.2.2 ∧ c.2.2 ≤ 999
structure NetAt (H : Hp) (x C : Addr) (n : Nat) (cs : List Tri) : Prop where
  ex : ∃ dx tc ti to vs, H x = some (.ins C dx [("stages", .int n), ("channels", .ref tc), ("_incoming", .ref ti), ("_outgoing", .ref to)]) ∧ H tc = some (.tup vs) ∧ Paired (TriA H) cs vs ∧ RowsA H ti n (cs.map (·.2.1)) ∧ RowsA H to n (cs.map (·.1))
theorem NetAt.same {H H2 : Hp} {x C : Addr} {n : Nat} {cs : List Tri} (s : Same H H2) (h : NetAt H x C n cs) : NetAt H2 x C n cs := by
  obtain ⟨dx, tc, ti, to, vs, h1, h2, h3, h4, h5⟩ := h.ex
  exact ⟨dx, tc, ti, to, vs, s _ _ h1, s _ _ h2, tris_same s h3, h4.same s, h5.same s⟩
structure NetCls (K : PySem.W.Frag) (C : Addr) : Prop where
  cl : Cls K C
  nS : NoAttr K C "stages"
  nC : NoAttr K C "channels"
  nI : NoAttr K C "_incoming"
  nO : NoAttr K C "_outgoing"
def spNetInit (C : Addr) : Sp := fun vs H Q _ => ∃ (x dx l : Addr) (n : Nat) (cs : List Tri) (ws : List V), vs = [.ref x, .int n, .ref l] ∧ H x = some (.ins C dx []) ∧ n ≤ 40 ∧ cs.length ≤ 60 ∧ H l = some (.lst ws) ∧ Paired (TriA H) cs ws ∧ (∀ c ∈ cs, ChOk n c) ∧
  ∀ H2 cs2, cs2.Perm cs → cs2.Pairwise (fun a b => key a ≤ key b) → (∀ b o, H b = some o → b ≠ x → H2 b = some o) → NetAt H2 x C n cs2 → Q .non H2
abbrev flds4 (a b c d : V) : List (Str × V) := [(("stages" : Str), a), (("channels" : Str), b), (("_incoming" : Str), c), (("_outgoing" : Str), d)]
theorem fields4 {a b c d : V} : putF "_outgoing" d (putF "_incoming" c (putF "channels" b (putF "stages" a []))) = flds4 a b c d := by
  have h1 : ¬ (("stages" : Str) = "channels") := by decide +kernel
  have h2 : ¬ (("stages" : Str) = "_incoming") := by decide +kernel
  have h3 : ¬ (("stages" : Str) = "_outgoing") := by decide +kernel
  have h4 : ¬ (("channels" : Str) = "_incoming") := by decide +kernel
  have h5 : ¬ (("channels" : Str) = "_outgoing") := by decide +kernel
  have h6 : ¬ (("_incoming" : Str) = "_outgoing") := by decide +kernel
  simp only [putF, h1, h2, h3, h4, h5, h6, if_false]
theorem lk_st {a b c d : V} : (flds4 a b c d).lookup ("stages" : Str) = some a := by simp [List.lookup]
theorem lk_ch {a b c d : V} : (flds4 a b c d).lookup ("channels" : Str) = some b := by
  have h1 : (("channels" : Str) == ("stages" : Str)) = false := by decide +kernel
  simp [List.lookup, h1]
theorem lk_in {a b c d : V} : (flds4 a b c d).lookup ("_incoming" : Str) = some c := by
  have h1 : (("_incoming" : Str) == ("stages" : Str)) = false := by decide +kernel
  have h2 : (("_incoming" : Str) == ("channels" : Str)) = false := by decide +kernel
  simp [List.lookup, h1, h2]
theorem lk_ou {a b c d : V} : (flds4 a b c d).lookup ("_outgoing" : Str) = some d := by
  have h1 : (("_outgoing" : Str) == ("stages" : Str)) = false := by decide +kernel
  have h2 : (("_outgoing" : Str) == ("channels" : Str)) = false := by decide +kernel
  have h3 : (("_outgoing" : Str) == ("_incoming" : Str)) = false := by decide +kernel
  simp [List.lookup, h1, h2, h3]
theorem lk_ch2 {a b : V} : (putF "channels" b (putF "stages" a [])).lookup ("channels" : Str) = some b := by
  rw [lookup_putF, if_pos rfl]
theorem lk_ch3 {a b c : V} : (putF "_incoming" c (putF "channels" b (putF "stages" a []))).lookup ("channels" : Str) = some b := by
  have h4 : ¬ (("channels" : Str) = "_incoming") := by decide +kernel
  rw [lookup_putF, if_neg h4, lookup_putF, if_pos rfl]
theorem code3 (a b c : Int) : TS.code 1000 [a, b, c] = key (a, b, c) := by
  show a * 1000 ^ 2 + (b * 1000 ^ 1 + (c * 1000 ^ 0 + 0)) = (a * 1000 + b) * 1000 + c
  omega
section
variable {P : Program} {w : World} {K : PySem.W.Frag} {mg : Str → Option Value} {base : Heap}
/-- [channel[i] for channel in self.channels] gives the ends -/
theorem ok_Net_init {C f : Addr} {fd : FuncData} (F : Fun K "__init__" "Net.__init__" s_Net_init f fd) (B : Blt mg) (T : NetCls K C) (G : DefR P w K mg base "_numbers_at" 1 spNums) : FnOk P w K mg base (L2.CX P w) 2 f fd ["self", "stages", "channels"] (spNetInit C) := by
  refine F.okX sc_Net_init (fun vs H Q E h => ?_) (fun cdv A outer s H vs Q E hr h => ?_)
  · obtain ⟨x, dx, l, n, cs, ws, rfl, _⟩ := h
    rfl
  · obtain ⟨x, dx, l, n, cs, ws, rfl, hx, hn, hcs, hl, hp, hok, k⟩ := h
    refine ⟨_, pss_cons (ps_fld (pv 0) (pv 1) rfl) (pss_cons (ps_fld (pv 0) (pe_callTy (T := "tuple") (c_tup (K := K)) (by rfl) B.tuple bt_tuple (pa_cons (pe_callB (cr_sortT (d := 3) (B := 1000) (by decide)) (by rfl) B.sorted bt_sorted (pa_cons (pv 2) pa_nil)) pa_nil)) rfl)
      (pss_cons (ps_fld (pv 0) (pe_cd G hr psE (pa_cons (pv 1) (pa_cons (pe_lc (own := [("channel", 3)]) rfl sc_Net_init.nd (pi_tup (pe_fld (pv 0) rfl)) (blkOk_by (N := nn_Net_init) (sc := defScope s_Net_init) (own := [("channel", 3)]) (by decide +kernel)) (fun _ _ _ _ _ => pg_name (i := 3) sc_Net_init.nd rfl (Or.inl rfl)) (fun _ _ _ _ _ => pts_nil)
          (fun _ _ _ _ _ => pe_ix (i_tup (K := K)) (pv 3) pe_int (fun _ _ => rfl))) pa_nil))) rfl)
      (pss_one (ps_fld (pv 0) (pe_cd G hr psE (pa_cons (pv 1) (pa_cons (pe_lc (own := [("channel", 3)]) rfl sc_Net_init.nd (pi_tup (pe_fld (pv 0) rfl)) (blkOk_by (N := nn_Net_init) (sc := defScope s_Net_init) (own := [("channel", 3)]) (by decide +kernel)) (fun _ _ _ _ _ => pg_name (i := 3) sc_Net_init.nd rfl (Or.inl rfl)) (fun _ _ _ _ _ => pts_nil)
          (fun _ _ _ _ _ => pe_ix (i_tup (K := K)) (pv 3) pe_int (fun _ _ => rfl))) pa_nil))) rfl)))), ?_⟩
    have xl : x ≠ l := ne_of hx hl (by intro z; cases z)
    refine ⟨_, rfl, _, rfl, x, C, dx, _, rfl, hx, T.cl, T.nS, by show 0 < 1000; decide, ?_⟩
    -- self.channels = tuple(sorted(channels))
    have lx : l ≠ x := xl.symm
    refine ⟨_, rfl, l, ws, rfl, SqL.of (by rw [upd_ne lx]; exact hl), by rw [← hp.length]; omega, fun v hv => ?_, fun ys p hperm hpw np => ⟨p, ys, rfl, .inl ⟨SqL.of upd_same, fun q nq => ?_⟩⟩⟩
    · obtain ⟨i, hi⟩ := List.mem_iff_getElem?.mp hv
      obtain ⟨c, hc, t, rfl, ht⟩ := pr_at hp hi
      have tx : t ≠ x := ne_of ht hx (by intro z; cases z)
      obtain ⟨⟨a1, a2⟩, ⟨a3, a4⟩, _, a5, a6⟩ := hok c (List.mem_of_getElem? hc)
      refine ⟨[c.1, c.2.1, c.2.2], ⟨t, rfl, SqT.of (by rw [upd_ne tx]; exact ht)⟩, rfl, fun m hm => ?_⟩
      simp only [List.mem_cons, List.not_mem_nil, or_false] at hm
      rcases hm with e | e | e <;> rw [e] <;> omega
    -- the sorted channels
    obtain ⟨cs2, hcp, hp2⟩ := pr_perm hperm hp
    have hok2 : ∀ c ∈ cs2, ChOk n c := fun c hc => hok c (hcp.mem_iff.mp hc)
    have hlen : cs2.length = cs.length := hcp.length_eq
    have H1x : ∀ {b o}, H b = some o → b ≠ x → upd H x (.ins C dx (putF "stages" (.int n) [])) b = some o := fun {b o} e ne => by rw [upd_ne ne]; exact e
    have np' : H p = none := by
      have px : p ≠ x := fun z => by rw [z, upd_same] at np; cases np
      rw [upd_ne px] at np
      exact np
    have nq1 : upd H x (.ins C dx (putF "stages" (.int n) [])) q = none := Same.free (Same.new np) nq
    have nq' : H q = none := by
      have px : q ≠ x := fun z => by rw [z, upd_same] at nq1; cases nq1
      rw [upd_ne px] at nq1
      exact nq1
    have qx : x ≠ q := ne_of_none hx nq'
    have px : x ≠ p := ne_of_none hx np'
    have hsort : cs2.Pairwise fun a b => key a ≤ key b := by
      rw [List.pairwise_iff_getElem]
      intro i j hi hj hij
      obtain ⟨v1, e1, t1, rfl, f1⟩ := pr_to hp2 (i := i) (a := cs2[i]) (by simp [hi])
      obtain ⟨v2, e2, t2, rfl, f2⟩ := pr_to hp2 (i := j) (a := cs2[j]) (by simp [hj])
      obtain ⟨g1, g2⟩ := List.getElem?_eq_some_iff.mp e1
      obtain ⟨g3, g4⟩ := List.getElem?_eq_some_iff.mp e2
      have z := (List.pairwise_iff_getElem.mp hpw) i j g1 g3 hij
      rw [g2, g4] at z
      have n1 : t1 ≠ x := ne_of f1 hx (by intro z; cases z)
      have n2 : t2 ≠ x := ne_of f2 hx (by intro z; cases z)
      have y := z [cs2[i].1, cs2[i].2.1, cs2[i].2.2] [cs2[j].1, cs2[j].2.1, cs2[j].2.2] ⟨t1, rfl, SqT.of (H1x f1 n1)⟩ ⟨t2, rfl, SqT.of (H1x f2 n2)⟩
      rw [code3, code3] at y
      exact y
    refine ⟨_, rfl, x, C, dx, _, rfl, by rw [upd_ne qx, upd_ne px, upd_same], T.cl, T.nC, by show 1 < 1000; decide, ?_⟩
    -- H3: the channels kept
    obtain ⟨H3, eH3⟩ : ∃ H3, H3 = upd (upd (upd (upd H x (.ins C dx (putF "stages" (.int n) []))) p (.lst ys)) q (.tup ys)) x (.ins C dx (putF "channels" (.ref q) (putF "stages" (.int n) []))) := ⟨_, rfl⟩
    rw [← eH3]
    have hx3 : H3 x = some (.ins C dx (putF "channels" (.ref q) (putF "stages" (.int n) []))) := by rw [eH3, upd_same]
    have hq3 : H3 q = some (.tup ys) := by rw [eH3, upd_ne (Ne.symm qx), upd_same]
    have old3 : ∀ b o, H b = some o → b ≠ x → H3 b = some o := fun b o e ne => by
      rw [eH3, upd_ne ne, upd_ne (ne_of_none e nq'), upd_ne (ne_of_none e np'), upd_ne ne]
      exact e
    have hp3 : Paired (TriA H3) cs2 ys := Paired.mapP hp2 fun c v ⟨t, e, ht⟩ => ⟨t, e, old3 _ _ ht (ne_of ht hx (by intro z; cases z))⟩
    have ends : ∀ g : Tri → Int, (∀ c, g c = c.1 ∨ g c = c.2.1) → ∀ e ∈ cs2.map g, 0 ≤ e ∧ e < n := fun g hg e he => by
      obtain ⟨c, hc, e1⟩ := List.mem_map.mp he
      obtain ⟨b1, b2, _⟩ := hok2 c hc
      rcases hg c with z | z <;> rw [← e1, z] <;> assumption
    -- self._incoming
    refine ⟨_, rfl, ?_⟩
    refine comp_sel (K := K) (tc := q) (cs := cs2) (vs := ys) (fun c => c.2.1) (fun c => atI_nat (j := 1) rfl) (fun R hR => ⟨_, rfl, x, C, dx, _, _, rfl, hx3, T.cl, T.nC, lk_ch2, q, rfl, ⟨_, SqT.of hq3⟩, hR⟩) hq3 hp3 (by omega) (fun _ => rfl) (fun _ => rfl) fun D H4 s4 nD hD => ?_
    refine ⟨n, D, _, rfl, hn, hD, by rw [List.length_map]; omega, ends _ fun c => .inr rfl, fun H5 r s5 nr rows => ?_⟩
    have s35 : Same H3 H5 := s4.trans s5
    refine ⟨_, rfl, x, C, dx, _, rfl, s35 _ _ hx3, T.cl, T.nI, by show 2 < 1000; decide, ?_⟩
    obtain ⟨H6, eH6⟩ : ∃ H6, H6 = upd H5 x (.ins C dx (putF "_incoming" (.ref r) (putF "channels" (.ref q) (putF "stages" (.int n) [])))) := ⟨_, rfl⟩
    rw [← eH6]
    have hx6 : H6 x = some (.ins C dx (putF "_incoming" (.ref r) (putF "channels" (.ref q) (putF "stages" (.int n) [])))) := by rw [eH6, upd_same]
    have old6 : ∀ b o, H3 b = some o → b ≠ x → H6 b = some o := fun b o e ne => by
      rw [eH6, upd_ne ne]
      exact s35 _ _ e
    have rows6 : RowsA H6 r n (cs2.map fun c => c.2.1) := by
      obtain ⟨ts, r1, r2, r3⟩ := rows
      have nx : ∀ {b xs}, H5 b = some (.tup xs) → b ≠ x := fun {b xs} e => ne_of e (s35 _ _ hx3) (by intro z; cases z)
      refine ⟨ts, by rw [eH6, upd_ne (nx r1)]; exact r1, r2, fun j v e => ?_⟩
      obtain ⟨t, e1, e2⟩ := r3 j v e
      exact ⟨t, e1, by rw [eH6, upd_ne (nx e2)]; exact e2⟩
    have hq6 : H6 q = some (.tup ys) := old6 _ _ hq3 (Ne.symm qx)
    have hp6 : Paired (TriA H6) cs2 ys := Paired.mapP hp3 fun c v ⟨t, e, ht⟩ => ⟨t, e, old6 _ _ ht (ne_of ht hx3 (by intro z; cases z))⟩
    -- self._outgoing
    refine ⟨_, rfl, ?_⟩
    refine comp_sel (K := K) (tc := q) (cs := cs2) (vs := ys) (fun c => c.1) (fun c => atI_nat (j := 0) rfl) (fun R hR => ⟨_, rfl, x, C, dx, _, _, rfl, hx6, T.cl, T.nC, lk_ch3, q, rfl, ⟨_, SqT.of hq6⟩, hR⟩) hq6 hp6 (by omega) (fun _ => rfl) (fun _ => rfl) fun D2 H7 s7 nD2 hD2 => ?_
    refine ⟨n, D2, _, rfl, hn, hD2, by rw [List.length_map]; omega, ends _ fun c => .inl rfl, fun H8 r2 s8 nr2 rows2 => ?_⟩
    have s68 : Same H6 H8 := s7.trans s8
    refine ⟨_, rfl, x, C, dx, _, rfl, s68 _ _ hx6, T.cl, T.nO, by show 3 < 1000; decide, ?_⟩
    have nx8 : ∀ {b xs}, H8 b = some (.tup xs) → b ≠ x := fun {b xs} e => ne_of e (s68 _ _ hx6) (by intro z; cases z)
    refine k _ cs2 hcp hsort (fun b o e ne => ?_) ⟨dx, q, r, r2, ys, ?_, ?_, ?_, ?_, ?_⟩
    · rw [upd_ne ne]
      exact s68 _ _ (old6 _ _ (old3 _ _ e ne) ne)
    · rw [upd_same, fields4]
    · rw [upd_ne (Ne.symm qx)]
      exact s68 _ _ hq6
    · exact Paired.mapP hp6 fun c v ⟨t, e, ht⟩ => ⟨t, e, by rw [upd_ne (nx8 (s68 _ _ ht))]; exact s68 _ _ ht⟩
    · obtain ⟨ts, a1, a2, a3⟩ := rows6.same s68
      exact ⟨ts, by rw [upd_ne (nx8 a1)]; exact a1, a2, fun j v e => let ⟨t, e1, e2⟩ := a3 j v e; ⟨t, e1, by rw [upd_ne (nx8 e2)]; exact e2⟩⟩
    · obtain ⟨ts, a1, a2, a3⟩ := rows2
      exact ⟨ts, by rw [upd_ne (nx8 a1)]; exact a1, a2, fun j v e => let ⟨t, e1, e2⟩ := a3 j v e; ⟨t, e1, by rw [upd_ne (nx8 e2)]; exact e2⟩⟩
end
end WC

set_option maxHeartbeats 4000000
namespace WC
open PySem PySem.Spec PyProof.Rows L2
/-- what is read off the class Net, at N -/
structure NetK (K : PySem.W.Frag) (mg : Str → Option Value) (N : Addr) : Prop where
  gN : mg "Net" = some (.ref N)
  cr : ∃ mc, ClX.CRead K N mc ∧ (∃ u, ClX.CVal K N mc "MOST_STAGES" (.int 40) u) ∧ (∃ u, ClX.CVal K N mc "MOST_CHANNELS" (.int 120) u) ∧ (∃ u, ClX.CVal K N mc "MOST_CAPACITY" (.int 999) u) ∧ ∃ u, ClX.CVal K N mc "MOST_COUNTER" (.int 999) u
def spCap (K : PySem.W.Frag) : Sp := fun vs H Q _ => ∃ x, vs = [x] ∧ Known K H x ∧ Q (.bl (btw x 1 999)) H
def spJoins (K : PySem.W.Frag) : Sp := fun vs H Q _ => ∃ (n : Nat) (v : V) (c : Tri), vs = [.int n, v] ∧ TriA H c v ∧ ChOk n c ∧ ∀ H2, Same H H2 → Q (.bl true) H2
def spWith : Sp := fun vs H Q _ => ∃ (v d : V) (c : Tri), vs = [v, d] ∧ TriA H c v ∧ ∀ p, H p = none → Q (.ref p) (upd H p (.tup [.int c.1, .int c.2.1, .int c.2.2]))
theorem nv {K : PySem.W.Frag} {H : Hp} (i : Int) : Known K H (.int i) := trivial
theorem btw_in {i lo hi : Int} (h1 : lo ≤ i) (h2 : i ≤ hi) : btw (.int i) lo hi = true := by simp [btw, h1, h2]
section
variable {P : Program} {w : World} {K : PySem.W.Frag} {mg : Str → Option Value} {base : Heap}
theorem ok_is_capacity {N f : Addr} {fd : FuncData} (F : Fun K "is_capacity" "Net.is_capacity" s_Net_is_capacity f fd) (Z : NetK K mg N) (G : DefR P w K mg base "is_between" 1 (spBtw K)) : FnOk P w K mg base (L2.CX P w) 2 f fd ["value"] (spCap K) := by
  refine F.okX sc_Net_is_capacity (fun vs H Q E h => ?_) (fun cdv A outer s H vs Q E hr h => ?_)
  · obtain ⟨x, rfl, _⟩ := h
    rfl
  · obtain ⟨x, rfl, hk, k⟩ := h
    obtain ⟨mc, r, _, _, ⟨u, c⟩, _⟩ := Z.cr
    refine ⟨_, pss_one (ps_ret (pe_cd G hr psE (pa_cons (pv 0) (pa_cons pe_int (pa_cons (ClX.pe_cval (pe_glob (v := .ref N) (by rfl) Z.gN rfl)) pa_nil))))), ?_⟩
    exact ⟨_, rfl, N, mc, _, u, rfl, r, c, _, _, _, rfl, hk, k⟩
theorem ok_joins {f : Addr} {fd : FuncData} (F : Fun K "_joins_two_stages" "_joins_two_stages" s_joins_two_stages f fd) (B : Blt mg) (G : DefR P w K mg base "is_between" 1 (spBtw K)) : FnOk P w K mg base (L2.CX P w) 2 f fd ["stages", "channel"] (spJoins K) := by
  refine F.okX sc_joins_two_stages (fun vs H Q E h => ?_) (fun cdv A outer s H vs Q E hr h => ?_)
  · obtain ⟨n, v, c, rfl, _⟩ := h
    rfl
  · obtain ⟨n, v, c, rfl, ⟨t, rfl, ht⟩, ⟨⟨c1, c2⟩, ⟨c3, c4⟩, c5, c6, c7⟩, k⟩ := h
    -- slots 0 stages, 1 channel, 2 ends, 3 end
    refine ⟨_, pss_cons (ps_if (PW.pt (pw_or (pt_not (pt_val (pe_callB call_isi (by rfl) B.isi bt_isi (pa_cons (pv 1) (pa_cons (pe_bltn (v := .ty "tuple") (by rfl) B.tuple bt_tuple rfl) pa_nil)))))
        (pw_or1 (pt_cmpR op_notIn_seq (pe_callB call_len_seq (by rfl) B.len bt_len (pa_cons (pv 1) pa_nil)) (pe_tup (pa_cons pe_int (pa_cons pe_int pa_nil))) (by rfl))))) (pss_one (ps_ret pe_bl)) pss_nil)
      (pss_cons (ps_set (i := 2) sc_joins_two_stages.nd rfl (Or.inl rfl) (pe_slice sl_tup (pv 1) po_none (po_some pe_int)))
      (pss_cons (ps_if (pt_not (pt_val (pe_callB (cr_all rfl) (by rfl) B.all bt_all (pa_cons (pe_lc (own := [("end", 3)]) rfl sc_joins_two_stages.nd (pi_tup (pv 2)) (blkOk_by (N := nn_joins_two_stages) (sc := defScope s_joins_two_stages) (own := [("end", 3)]) (by decide +kernel)) (fun _ _ _ _ _ => pg_name (i := 3) sc_joins_two_stages.nd rfl (Or.inl rfl)) (fun _ _ _ _ _ => pts_nil)
          (fun _ _ _ _ _ => pe_cd G (by exact hr) passL (pa_cons (pv 3) (pa_cons pe_int (pa_cons (pe_op op_sub (pv 0) pe_int) pa_nil))))) pa_nil)))) (pss_one (ps_ret pe_bl)) pss_nil)
      (pss_one (ps_ret (pe_cmpR op_ne (pe_ix ix_tup (pv 2) pe_int (fun _ _ => rfl)) (pe_ix ix_tup (pv 2) pe_int (fun _ _ => rfl)) (nomark _)))))), ?_⟩
    refine ⟨_, rfl, _, _, _, _, _, rfl, .ty _, .base (.tup ht), kit_ty (r := true) (by decide +kernel), _, rfl, ?_⟩
    refine iteF ⟨_, rfl, t, _, rfl, .inr (SqT.of ht), by show 2 ≤ sizeLine; decide, fun p hp => ⟨p, _, rfl, .inr (SqT.of upd_same), rfl, rfl, _, rfl, ?_⟩⟩
    refine iteF ⟨_, rfl, _, rfl, t, _, rfl, SqT.of (by rw [upd_ne (ne_of_none ht hp)]; exact ht), ?_, fun q hq => ?_⟩
    · intro z
      have z2 := z.2
      simp [HT.sIx] at z2
    have s2 : Same H (upd (upd H p (.tup [.int 2, .int 3])) q (.tup [.int c.1, .int c.2.1])) := Same.trans (Same.new hp) (Same.new hq)
    have eq : cutV [V.int c.1, V.int c.2.1, V.int c.2.2] none (some 2) = [V.int c.1, V.int c.2.1] := rfl
    rw [eq]
    obtain ⟨H2, eH⟩ : ∃ H2, H2 = upd (upd H p (.tup [.int 2, .int 3])) q (.tup [.int c.1, .int c.2.1]) := ⟨_, rfl⟩
    rw [← eH] at s2 ⊢
    have hq2 : H2 q = some (.tup [.int c.1, .int c.2.1]) := by rw [eH, upd_same]
    refine ⟨_, rfl, q, rfl, ⟨_, SqT.of hq2⟩, fun D hD => lc_tup (K := K) (a := q) (xs := [.int c.1, .int c.2.1]) (fun i H3 => Same H2 H3 ∧ H3 D = some (.lst ((List.replicate i true).map V.bl))) ⟨Same.new hD, upd_same⟩ (fun i H3 _ z => SqT.of (z.1 _ _ hq2)) ?_ ?_⟩
    · rintro i x H3 hx ⟨s3, hd⟩
      have hx2 : ∃ m : Int, x = .int m ∧ 0 ≤ m ∧ m ≤ n - 1 := by
        match i, hx with
        | 0, hx => exact ⟨c.1, (Option.some.inj hx).symm, c1, by omega⟩
        | 1, hx => exact ⟨c.2.1, (Option.some.inj hx).symm, c3, by omega⟩
        | _ + 2, hx => simp at hx
      obtain ⟨m, rfl, m1, m2⟩ := hx2
      refine ⟨rfl, yes ⟨_, rfl, _, rfl, _, _, rfl, rfl, _, _, _, rfl, nv _, _, hd, ?_, Same.newer s3 hD, ?_⟩⟩
      · have : i < 2 := (List.getElem?_eq_some_iff.mp hx).1
        rw [List.length_map, List.length_replicate]
        exact line_lt (by omega)
      · rw [upd_same, btw_in m1 m2, List.replicate_succ', List.map_append]
        rfl
    · rintro H3 ⟨s3, hd⟩
      refine ⟨D, _, rfl, SqL.of hd, _, rfl, ?_⟩
      refine iteF ⟨_, rfl, q, _, _, _, rfl, rfl, SqT.of (s3 _ _ hq2), atI_nat (j := 0) rfl, _, rfl, q, _, _, _, rfl, rfl, SqT.of (s3 _ _ hq2), atI_nat (j := 1) rfl, rfl, ?_⟩
      have q2 : (!decide (V.int c.1 = V.int c.2.1)) = true := by simp [c5]
      rw [q2]
      exact k H3 (s2.trans s3)
theorem ok_with_capacity {f : Addr} {fd : FuncData} (F : Fun K "_with_capacity" "_with_capacity" s_with_capacity f fd) (B : Blt mg) : FnOk P w K mg base (L2.CX P w) 1 f fd ["channel", "capacity"] spWith := by
  refine F.okX sc_with_capacity (fun vs H Q E h => ?_) (fun cdv A outer s H vs Q E hr h => ?_)
  · obtain ⟨v, d, c, rfl, _⟩ := h
    rfl
  · obtain ⟨v, d, c, rfl, ⟨t, rfl, ht⟩, k⟩ := h
    refine ⟨_, pss_cons (ps_set (i := 2) sc_with_capacity.nd rfl (Or.inl rfl) (pe_ifExp (pt_cmpR op_eq (pe_callB call_len_seq (by rfl) B.len bt_len (pa_cons (pv 0) pa_nil)) pe_int (nomark _)) (pe_ix ix_tup (pv 0) pe_int (fun _ _ => rfl)) (pv 1)))
      (pss_one (ps_ret (pe_tup (pa_cons (pe_ix ix_tup (pv 0) pe_int (fun _ _ => rfl)) (pa_cons (pe_ix ix_tup (pv 0) pe_int (fun _ _ => rfl)) (pa_cons (pv 2) pa_nil)))))), ?_⟩
    refine ⟨_, rfl, t, _, rfl, .inr (SqT.of ht), rfl, _, rfl, ?_⟩
    refine iteT ⟨_, rfl, t, _, _, _, rfl, rfl, SqT.of ht, atI_nat (j := 2) rfl, ?_⟩
    exact ⟨_, rfl, t, _, _, _, rfl, rfl, SqT.of ht, atI_nat (j := 0) rfl, _, rfl, t, _, _, _, rfl, rfl, SqT.of ht, atI_nat (j := 1) rfl, _, rfl, by show 3 ≤ sizeLine; decide, fun p hp => k p hp⟩
end
end WC

set_option maxHeartbeats 4000000
namespace WC
open PySem PySem.Spec PyProof.Rows L2
/-- has_circle of channels without one -/
def spNoCircle : Sp := fun vs H Q _ => ∃ (l : Addr) (cs : List Tri) (ws : List V), vs = [.ref l] ∧ H l = some (.lst ws) ∧ Paired (TriA H) cs ws ∧ Acyc cs ∧ cs.length ≤ 1000 ∧ ∀ H2, Same H H2 → Q (.bl false) H2
/-- what is fed: the keys of the dict at D -/
def Fed (H : Hp) (D : Addr) (cs : List Tri) (m : Nat) : Prop := ∃ kvs : List (Key × V), H D = some (.dK kvs) ∧ kvs.length ≤ m ∧ ∀ p : Int, (valV kvs (Sum.inl p)).isSome = decide (∃ c ∈ cs, c.2.1 = p)
theorem seqW {c : TT} {tb u : TS} {D : Ends} {σ : L2.St} {H : Hp} (h : tWhile c tb { D with nx := u D } σ H) : tSeq (tWhile c tb) u D σ H := h
def leftLen (σ : L2.St) (H : Hp) : Nat := match σ[1]? with
  | some (some (V.ref a)) => (match H a with
    | some (.lst xs) => xs.length
    | _ => 0)
  | _ => 0
section
variable {P : Program} {w : World} {K : PySem.W.Frag} {mg : Str → Option Value} {base : Heap}
theorem ok_has_circle {f : Addr} {fd : FuncData} (F : Fun K "has_circle" "has_circle" s_has_circle f fd) (B : Blt mg) : FnOk P w K mg base (L2.CX P w) 1 f fd ["channels"] spNoCircle := by
  refine F.okX sc_has_circle (fun vs H Q E h => ?_) (fun cdv A outer s H vs Q E hr h => ?_)
  · obtain ⟨l, cs, ws, rfl, _⟩ := h
    rfl
  · obtain ⟨l, cs, ws, rfl, hl, hp, ac, hlen, k⟩ := h
    have hu := hu_of hr
    -- slots 0 channels, 1 left, 2 fed, 3 _, 4 consumer, 5 kept, 6 channel
    refine ⟨_, pss_cons (ps_set (i := 1) sc_has_circle.nd rfl (Or.inl rfl) (pv 0))
      (pss_cons (ps_while (passes_of rfl) (pt_truth (pv 1) (by intro _; rfl))
        (pss_cons (ps_set (i := 2) sc_has_circle.nd rfl (Or.inr rfl) (pe_dc (own := [("_", 3), ("consumer", 4)]) rfl sc_has_circle.nd (pi_list (pv 1)) (blkOk_by (N := nn_has_circle) (sc := defScope s_has_circle) (own := [("_", 3), ("consumer", 4)]) (by decide +kernel))
            (fun _ _ _ _ _ => pg_tupK (K := K) (n := 3) rfl (pgs_cons (pg_name (i := 3) sc_has_circle.nd rfl (Or.inl rfl)) (pgs_cons (pg_name (i := 4) sc_has_circle.nd rfl (Or.inl rfl)) (pgs_cons (pg_name (i := 3) sc_has_circle.nd rfl (Or.inl rfl)) pgs_nil)))) (fun _ _ _ _ _ => pts_nil) (fun _ _ _ _ _ => pv 4) (fun _ _ _ _ _ => pe_bl)))
        (pss_cons (ps_setLc (i := 5) (own := [("channel", 6)]) rfl sc_has_circle.nd rfl rfl (sw_true rfl rfl rfl (by decide +kernel)) (pi_list (pv 1)) (blkOk_by (N := nn_has_circle) (sc := defScope s_has_circle) (own := [("channel", 6)]) (by decide +kernel))
            (fun _ _ _ _ _ => pg_name (i := 6) sc_has_circle.nd rfl (Or.inl rfl)) (fun _ _ _ _ _ => pts_one (pt_cmp (pc_din (by exact hu) (pe_ix (i_tup (K := K)) (pv 6) pe_int (fun _ _ => rfl)) (pv 2)))) (fun _ _ _ _ _ => pv 6))
        (pss_cons (ps_if (pt_cmpR op_eq (pe_callB call_len_seq (by rfl) B.len bt_len (pa_cons (pv 5) pa_nil)) (pe_callB call_len_seq (by rfl) B.len bt_len (pa_cons (pv 1) pa_nil)) (nomark _)) (pss_one (ps_ret pe_bl)) pss_nil)
        (pss_one (ps_set (i := 1) sc_has_circle.nd rfl (Or.inl rfl) (pv 5)))))))
      (pss_one (ps_ret pe_bl))), ?_⟩
    refine ⟨_, rfl, ?_⟩
    dsimp only [gName]
    refine seqW ?_
    refine while_by (fun σ H2 => ∃ (a : Addr) (ds : List Tri) (us : List V) (v2 v3 v4 v5 v6 : Option V), σ = [some (.ref l), some (.ref a), v2, v3, v4, v5, v6] ∧ Same H H2 ∧ H2 a = some (.lst us) ∧ Paired (TriA H2) ds us ∧ ds.length ≤ 1000 ∧ ∀ c ∈ ds, c ∈ cs)
      leftLen ⟨l, cs, ws, _, _, _, _, _, rfl, Same.refl H, hl, hp, hlen, fun _ z => z⟩ ?_ ?_
    · rintro σ H2 ⟨a, ds, us, v2, v3, v4, v5, v6, rfl, s2, ha, hpd, hdl, sub⟩
      refine ⟨_, rfl, _, .inl ⟨us, SqL.of ha, rfl⟩, ?_⟩
      cases hE : us with
      | nil =>
        refine iteF ?_
        exact k H2 s2
      | cons u0 us0 =>
        refine iteT ?_
        rw [hE] at ha hpd
        -- fed
        refine ⟨_, rfl, a, rfl, ⟨_, SqL.of ha⟩, fun D hD => dc_lst (K := K) (a := a) (xs := u0 :: us0) (fun i H3 => Same H2 H3 ∧ Fed H3 D (ds.take i) i) ⟨Same.new hD, [], upd_same, by simp, fun p => by simp [valV]⟩ (fun i H3 _ q => SqL.of (q.1 _ _ ha)) ?_ ?_⟩
        · rintro i x H3 hx ⟨s3, kvs, d1, d2, d3⟩
          obtain ⟨c, hc, t, rfl, ht⟩ := pr_at hpd hx
          have hi := (List.getElem?_eq_some_iff.mp hc).1
          refine ⟨t, _, rfl, SqT.of (s3 _ _ ht), rfl, _, _, rfl, _, _, rfl, _, _, rfl, rfl, rfl, yes ⟨_, rfl, kvs, Sum.inl c.2.1, rfl, d1, line_lt (by omega), Same.newer s3 hD, _, upd_same, ?_, fun p => ?_⟩⟩
          · exact Nat.le_trans (pk_len _ _ _) (by omega)
          · rw [valV_put, take_snoc hc]
            by_cases e : p = c.2.1
            · subst e
              rw [if_pos rfl]
              simp
            · rw [if_neg (fun z => e (Sum.inl.inj z)), d3 p]
              congr 1
              apply propext
              constructor
              · rintro ⟨c2, m, e2⟩
                exact ⟨c2, List.mem_append_left _ m, e2⟩
              · rintro ⟨c2, m, e2⟩
                rcases List.mem_append.mp m with m | m
                · exact ⟨c2, m, e2⟩
                · rw [List.mem_singleton.mp m] at e2
                  exact absurd e2.symm e
        · rintro H3 ⟨s3, kvs, d1, d2, d3⟩
          rw [← hpd.length, List.take_length] at d3
          -- kept
          refine ⟨_, rfl, a, rfl, ⟨_, SqL.of (s3 _ _ ha)⟩, fun R hR => lc_list (K := K) (a := a) (xs := u0 :: us0) (fun i H4 => Same H3 H4 ∧ ∃ ks, H4 R = some (.lst ks) ∧ Paired (TriA H4) ((ds.take i).filter fun c => decide (∃ d ∈ ds, d.2.1 = c.1)) ks) ⟨Same.new hR, [], upd_same, .nil⟩ (fun i H4 _ q => SqL.of (q.1 _ _ (s3 _ _ ha))) ?_ ?_⟩
          · rintro i x H4 hx ⟨s4, ks, r1, r2⟩
            obtain ⟨c, hc, t, rfl, ht⟩ := pr_at hpd hx
            have hi := (List.getElem?_eq_some_iff.mp hc).1
            have ht4 := s4 _ _ (s3 _ _ ht)
            refine ⟨rfl, _, rfl, t, _, _, _, rfl, rfl, SqT.of ht4, atI_nat (j := 0) rfl, _, rfl, D, _, rfl, DGet.k (k := Sum.inl c.1) (s4 _ _ d1), _, rfl, ?_⟩
            have hks : ks.length ≤ i := by
              rw [← r2.length]
              exact Nat.le_trans (List.length_filter_le _ _) (by rw [List.length_take]; omega)
            have e3 := d3 c.1
            cases hv : valV kvs (Sum.inl c.1 : Key) with
            | some v =>
              rw [hv] at e3
              have e4 : decide (∃ d ∈ ds, d.2.1 = c.1) = true := e3.symm
              refine iteT ⟨_, rfl, ks, r1, line_lt (by omega), Same.newer s4 hR, _, upd_same, ?_⟩
              rw [take_snoc hc, List.filter_append]
              have nx : ∀ {b xs}, H4 b = some (.tup xs) → b ≠ R := fun {b xs} e => ne_of e r1 (by intro z; cases z)
              refine pr_snoc (a := c) ?_ ?_ |> fun z => by
                have q : [c].filter (fun c => decide (∃ d ∈ ds, d.2.1 = c.1)) = [c] := by simp only [List.filter, e4]
                rw [q]
                exact z
              · exact Paired.mapP r2 fun c2 v2 ⟨t2, q1, q2⟩ => ⟨t2, q1, by rw [upd_ne (nx q2)]; exact q2⟩
              · exact ⟨t, rfl, by rw [upd_ne (nx ht4)]; exact ht4⟩
            | none =>
              rw [hv] at e3
              have e4 : decide (∃ d ∈ ds, d.2.1 = c.1) = false := e3.symm
              refine iteF ⟨s4, ks, r1, ?_⟩
              rw [take_snoc hc, List.filter_append]
              have q : [c].filter (fun c => decide (∃ d ∈ ds, d.2.1 = c.1)) = [] := by simp only [List.filter, e4]
              rw [q, List.append_nil]
              exact r2
          · rintro H4 ⟨s4, ks, r1, r2⟩
            rw [← hpd.length, List.take_length] at r2
            have ha4 := s4 _ _ (s3 _ _ ha)
            refine ⟨_, rfl, R, _, rfl, .inl (SqL.of r1), _, rfl, a, _, rfl, .inl (SqL.of ha4), rfl, _, rfl, ?_⟩
            have dne : ds ≠ [] := fun z => by
              rw [z] at hpd
              have q := hpd.length
              simp at q
            obtain ⟨c0, m0, q0⟩ := (ac.sub sub).first dne
            have hlt : ks.length < (u0 :: us0).length := by
              rw [← r2.length, ← hpd.length]
              refine Nat.lt_of_le_of_ne (List.length_filter_le _ _) fun z => ?_
              have y := List.length_filter_eq_length_iff.mp z c0 m0
              obtain ⟨d, md, ed⟩ := of_decide_eq_true y
              exact q0 d md ed
            have q1 : decide (V.int (ks.length : Int) = V.int ((u0 :: us0).length : Int)) = false := by
              apply decide_eq_false
              intro z
              injection z with z
              omega
            rw [q1]
            refine iteF ⟨_, rfl, ⟨R, _, ks, _, _, _, _, _, rfl, s2.trans (s3.trans s4), r1, r2, Nat.le_trans (List.length_filter_le _ _) hdl, fun c hc => sub c (List.mem_filter.mp hc).1⟩, ?_⟩
            have e1 : leftLen [some (V.ref l), some (V.ref R), some (V.ref D), v3, v4, some (V.ref R), v6] H4 = ks.length := by simp only [leftLen, List.getElem?_cons_succ, List.getElem?_cons_zero, r1]
            have e2 : leftLen [some (V.ref l), some (V.ref a), v2, v3, v4, v5, v6] H2 = (u0 :: us0).length := by simp only [leftLen, List.getElem?_cons_succ, List.getElem?_cons_zero, ha]
            show leftLen _ _ < leftLen _ _
            rw [e2]
            show leftLen [some (V.ref l), some (V.ref R), some (V.ref D), v3, v4, some (V.ref R), v6] H4 < _
            rw [e1]
            exact hlt
    · rintro σ H2 Q1 Q2 hm ⟨v, e, kk, t, q⟩
      exact ⟨v, e, kk, t, hm _ _ q⟩
end
end WC

set_option maxHeartbeats 4000000
namespace WC
open PySem PySem.Spec PyProof.Rows L2
def flI : List V → List (Str × V)
  | [r, p] => [("position", p), ("reason", r)]
  | _ => []
def pairOf (c : Tri) : Int × Int := (c.1, c.2.1)
def spCheckCh : Sp := fun vs H Q _ => ∃ (n : Nat) (t : Addr) (cs : List Tri) (ws : List V), vs = [.int n, .ref t] ∧ H t = some (.tup ws) ∧ Paired (TriA H) cs ws ∧ (∀ c ∈ cs, ChOk n c) ∧ (cs.map pairOf).Nodup ∧ cs.length ≤ 1000 ∧ ∀ H2, Same H H2 → Q .non H2
theorem cut2 (a b c : V) : cutV [a, b, c] none (some 2) = [a, b] := rfl
theorem cut2n {a b c : V} : ¬ (HT.sIx [a, b, c].length 0 none = 0 ∧ HT.sIx [a, b, c].length [a, b, c].length (some 2) = [a, b, c].length) := by
  intro z
  have z2 := z.2
  simp [HT.sIx] at z2
section
variable {P : Program} {w : World} {K : PySem.W.Frag} {mg : Str → Option Value} {base : Heap}
theorem ok_InvalidNet_init {f C : Addr} {fd : FuncData} (F : Fun K "__init__" "InvalidNet.__init__" s_InvalidNet_init f fd) (T : OexC K C) (h1 : PySem.W.findIn K (.ref C) "reason" = some none) (h2 : PySem.W.findIn K (.ref C) "position" = some none) :
    FnOk P w K mg base (L2.CX P w) 1 f fd ["self", "reason", "position"] (spX C 2 flI) := by
  refine F.okX sc_InvalidNet_init (fun vs H Q E h => ?_) (fun cdv A outer s H vs Q E hr h => ?_)
  · obtain ⟨a, ws, rfl, hl, _⟩ := h
    simp [hl]
  · obtain ⟨a, ws, rfl, hl, ha, k⟩ := h
    match ws, hl with
    | [v, u], _ =>
      refine ⟨_, pss_cons (ps_ost (pv 0) (pv 1)) (pss_one (ps_ost (pv 0) (pv 2))), ?_⟩
      refine ⟨_, rfl, _, rfl, a, C, rfl, T, h1, .inl ⟨ha, fun d hd hne => ⟨_, rfl, _, rfl, a, C, rfl, T, h2, .inr ⟨d, _, upd_same, by rw [upd_ne hne, upd_same], Nat.le_of_ble_eq_true rfl, ?_⟩⟩⟩⟩
      have q : upd (upd (upd H d (exd d [("reason", v)])) a (exo a C (some d))) d (exd d [("position", u), ("reason", v)]) = upd (upd H d (exd d [("position", u), ("reason", v)])) a (exo a C (some d)) := by
        funext b
        by_cases e : b = d
        · subst e
          rw [upd_same, upd_ne hne, upd_same]
        · by_cases e2 : b = a
          · subst e2
            rw [upd_ne e, upd_same, upd_same]
          · rw [upd_ne e, upd_ne e2, upd_ne e, upd_ne e2, upd_ne e]
      show Q .non (upd (upd (upd H d (exd d [("reason", v)])) a (exo a C (some d))) d (exd d [("position", u), ("reason", v)]))
      rw [q]
      exact k d hd hne
theorem ok_check_channels {f N CI : Addr} {fd : FuncData} (F : Fun K "_check_channels" "_check_channels" s_check_channels f fd) (B : Blt mg) (Z : NetK K mg N) (G1 : DefR P w K mg base "_joins_two_stages" 2 (spJoins K)) (G2 : StaR P w K mg base N "is_capacity" 2 (spCap K))
    (T : ExcR P w K mg base "InvalidNet" CI 1 2 flI) : FnOk P w K mg base (L2.CX P w) 3 f fd ["stages", "channels"] spCheckCh := by
  refine F.okX sc_check_channels (fun vs H Q E h => ?_) (fun cdv A outer s H vs Q E hr h => ?_)
  · obtain ⟨n, t, cs, ws, rfl, _⟩ := h
    rfl
  · obtain ⟨n, t, cs, ws, rfl, ht, hp, hok, nd, hlen, k⟩ := h
    have hu := hu_of hr
    -- slots 0 stages, 1 channels, 2 earlier, 3 position, 4 channel
    refine ⟨_, pss_cons (ps_set (i := 2) sc_check_channels.nd rfl (Or.inl rfl) pe_dnewT)
      (pss_one (ps_for (passes_of rfl) rfl (pi_et B.enum (pa_cons (pv 1) pa_nil)) (pg_tup rfl (pgs_cons (pg_name (i := 3) sc_check_channels.nd rfl (Or.inl rfl)) (pgs_cons (pg_name (i := 4) sc_check_channels.nd rfl (Or.inl rfl)) pgs_nil)))
        (pss_cons (ps_if (pt_not (pt_val (pe_cd G1 hr psE (pa_cons (pv 0) (pa_cons (pv 4) pa_nil))))) (pss_one (ps_raise rfl (takes_of rfl rfl rfl rfl) (pmk_x T hr (pa_cons pe_str (pa_cons (pv 3) pa_nil))))) pss_nil)
        (pss_cons (ps_if (PW.pt (pw_and (pt_cmpR op_eq (pe_callB call_len_seq (by rfl) B.len bt_len (pa_cons (pv 4) pa_nil)) pe_int (nomark _)) (pw_and1 (pt_not (pt_val (pe_sta G2 (pe_glob (v := .ref N) (by rfl) Z.gN rfl) hr psE (pa_cons (pe_ix ix_tup (pv 4) pe_int (fun _ _ => rfl)) pa_nil))))))) (pss_one (ps_raise rfl (takes_of rfl rfl rfl rfl) (pmk_x T hr (pa_cons pe_str (pa_cons (pv 3) pa_nil))))) pss_nil)
        (pss_cons (ps_if (pt_cmp (pc_din hu (pe_slice sl_tup (pv 4) po_none (po_some pe_int)) (pv 2))) (pss_one (ps_raise rfl (takes_of rfl rfl rfl rfl) (pmk_x T hr (pa_cons pe_str (pa_cons (pv 3) pa_nil))))) pss_nil)
        (pss_one (ps_dput hu (pv 2) (pe_slice sl_tup (pv 4) po_none (po_some pe_int)) pe_bl rfl))))))), ?_⟩
    intro d hd
    refine ⟨_, rfl, t, ws, rfl, SqT.of (by rw [upd_ne (ne_of_none ht hd)]; exact ht), for_it (walk_et (xs := ws)) (fun i σ H2 => ∃ v3 v4, σ = [some (.int n), some (.ref t), some (.ref d), v3, v4] ∧ Same H H2 ∧ ∃ kvs : List (List Key × V), H2 d = some (.dT kvs) ∧ kvs.length ≤ i ∧ ∀ a b, (valV kvs [Sum.inl a, Sum.inl b]).isSome = true → ∃ c ∈ cs.take i, pairOf c = (a, b))
      ⟨_, _, rfl, Same.new hd, [], upd_same, by simp, fun a b z => by simp [valV] at z⟩ ?_ ?_ ?_⟩
    · rintro i σ H2 _ ⟨_, _, _, s2, _⟩
      exact SqT.of (s2 _ _ ht)
    · rintro i x σ H2 H3 hi ⟨v3, v4, rfl, s2, kvs, k1, k2, k3⟩ ⟨T1, x1, y1, rfl, hT, rfl, e1, e2⟩
      cases e1
      obtain ⟨c, hc, t1, rfl, ht1⟩ := pr_at hp e2
      have ilt := (List.getElem?_eq_some_iff.mp hc).1
      have cok := hok c (List.mem_of_getElem? hc)
      have s3 : Same H2 (upd H2 T1 (.tup [.int (i : Nat), .ref t1])) := Same.new hT
      have ht3 := s3 _ _ (s2 _ _ ht1)
      refine ⟨T1, _, rfl, SqT.of upd_same, rfl, _, _, rfl, _, _, rfl, rfl, _, rfl, _, rfl, n, _, c, rfl, ⟨t1, rfl, ht3⟩, cok, fun H4 s4 => ⟨_, rfl, ?_⟩⟩
      have ht4 := s4 _ _ ht3
      refine iteF ⟨_, rfl, t1, _, rfl, .inr (SqT.of ht4), rfl, _, rfl, ?_⟩
      refine iteT ⟨rfl, _, rfl, t1, _, _, _, rfl, rfl, SqT.of ht4, atI_nat (j := 2) rfl, _, rfl, nv _, _, rfl, ?_⟩
      rw [btw_in cok.2.2.2.1 cok.2.2.2.2]
      refine iteF ⟨_, rfl, _, rfl, t1, _, rfl, SqT.of ht4, cut2n, fun q hq => ?_⟩
      rw [cut2]
      have kd : H4 d = some (.dT kvs) := s4 _ _ (s3 _ _ k1)
      have s5 : Same H4 (upd H4 q (.tup [.int c.1, .int c.2.1])) := Same.new hq
      refine ⟨_, rfl, d, _, rfl, DGet.t (k := [Sum.inl c.1, Sum.inl c.2.1]) (s5 _ _ kd) upd_same, _, rfl, ?_⟩
      cases hv : valV kvs [Sum.inl c.1, Sum.inl c.2.1] with
      | some v =>
        obtain ⟨c2, m2, p2⟩ := k3 c.1 c.2.1 (by rw [hv]; rfl)
        exfalso
        obtain ⟨j, hj⟩ := List.mem_iff_getElem?.mp m2
        have jl : j < i := by
          have q1 := (List.getElem?_eq_some_iff.mp hj).1
          rw [List.length_take] at q1
          omega
        rw [List.getElem?_take_of_lt jl] at hj
        have a1 : (cs.map pairOf)[j]? = some (c.1, c.2.1) := by rw [List.getElem?_map, hj]; exact congrArg some p2
        have a2 : (cs.map pairOf)[i]? = some (c.1, c.2.1) := by rw [List.getElem?_map, hc]; rfl
        have a3 := (List.getElem?_inj (by rw [List.length_map]; omega) nd).mp (a1.trans a2.symm)
        omega
      | none =>
        refine iteF ⟨_, rfl, _, rfl, _, rfl, t1, _, rfl, SqT.of (s5 _ _ ht4), cut2n, fun q2 hq2 => ?_⟩
        rw [cut2]
        have s6 : Same (upd H4 q (.tup [.int c.1, .int c.2.1])) (upd (upd H4 q (.tup [.int c.1, .int c.2.1])) q2 (.tup [.int c.1, .int c.2.1])) := Same.new hq2
        refine ⟨d, _, rfl, DPut.t (k := [Sum.inl c.1, Sum.inl c.2.1]) (s6 _ _ (s5 _ _ kd)) upd_same (line_lt (by omega)), _, _, rfl, ?_, _, upd_same, ?_, ?_⟩
        · exact Same.newer (s2.trans (s3.trans (s4.trans (s5.trans s6)))) hd
        · exact Nat.le_trans (pk_len _ _ _) (by omega)
        · intro a b z
          rw [valV_put] at z
          rw [take_snoc hc]
          by_cases e : ([Sum.inl a, Sum.inl b] : List Key) = [Sum.inl c.1, Sum.inl c.2.1]
          · have e2 : a = c.1 ∧ b = c.2.1 := by simpa using e
            exact ⟨c, by simp, by rw [e2.1, e2.2]; rfl⟩
          · rw [if_neg e] at z
            obtain ⟨c2, m2, p2⟩ := k3 a b z
            exact ⟨c2, List.mem_append_left _ m2, p2⟩
    · rintro σ H2 ⟨_, _, _, s2, _⟩
      exact k H2 s2
end
end WC

set_option maxHeartbeats 4000000
namespace WC
open PySem PySem.Spec PyProof.Rows L2
/-- a net is made of these channels: what is asked, and what stands behind -/
def spMake (C : Addr) (x : Addr) (n : Nat) (cs : List Tri) (H : Hp) (Q : VK) : Prop := ∀ H2 cs2, cs2.Perm cs → cs2.Pairwise (fun a b => key a ≤ key b) → (∀ b o, H b = some o → b ≠ x → H2 b = some o) → NetAt H2 x C n cs2 → Q .non H2
def spPipe (C : Addr) : Sp := fun vs H Q _ => ∃ (x dx : Addr) (n : Nat) (cs : List Tri) (ws : List V), vs = .ref x :: .int n :: ws ∧ H x = some (.ins C dx []) ∧ 1 ≤ n ∧ n ≤ 40 ∧ Paired (TriA H) cs ws ∧ (∀ c ∈ cs, ChOk n c) ∧ (cs.map pairOf).Nodup ∧ Acyc cs ∧ cs.length ≤ 60 ∧ spMake C x n cs H Q
def spPipeB (C : Addr) : Sp := fun vs H Q _ => ∃ (x dx t : Addr) (n : Nat) (cs : List Tri) (ws : List V), vs = [.ref x, .int n, .int 1, .ref t] ∧ H x = some (.ins C dx []) ∧ 1 ≤ n ∧ n ≤ 40 ∧ H t = some (.tup ws) ∧ Paired (TriA H) cs ws ∧ (∀ c ∈ cs, ChOk n c) ∧ (cs.map pairOf).Nodup ∧ Acyc cs ∧ cs.length ≤ 60 ∧ spMake C x n cs H Q
section
variable {P : Program} {w : World} {K : PySem.W.Frag} {mg : Str → Option Value} {base : Heap}
theorem ok_Pipeline_init {f cc C N CI g : Addr} {Dk : Addr} {u : Value} (F : SFun P K "__init__" "Pipeline.__init__" s_Pipeline_init f cc C (.ref Dk)) (hD : PySem.W.nsIn K Dk "capacity" = some (some u)) (hu1 : RelV (.int 1) u) (B : Blt mg) (Z : NetK K mg N)
    (G0 : DefR P w K mg base "is_between" 1 (spBtw K)) (G1 : DefR P w K mg base "_check_channels" 3 spCheckCh) (G2 : StaR P w K mg base N "is_capacity" 2 (spCap K)) (G3 : DefR P w K mg base "_with_capacity" 1 spWith) (G4 : DefR P w K mg base "has_circle" 1 spNoCircle)
    (T : ExcR P w K mg base "InvalidNet" CI 1 2 flI) (SP : SupTxt P K mg C C g "__init__") (G5 : FnR P w K mg base (L2.CX P w) 2 g (spNetInit C)) : FnR P w K mg base (L2.CX P w) 4 f (spPipe C) := by
  refine FnR.imp (F.star (k := 3) (ps := ["self", "stages"]) (ks := ["capacity"]) (pv := "channels") (kv := [u]) (kvV := [.int 1]) (sp := spPipeB C) sc_Pipeline_init (.cons hu1 .nil) rfl (fun doc pm an cdv ct => BindStar.of_kw hD fun u1 u2 hl => ?_) ⟨_, rfl, rfl⟩ rfl rfl (fun cdv A outer s H vs Q E hr SZ h => ?_)) (fun vs H Q E h => ?_)
  · match u1, u2, hl with
    | [a, b], [], _ => exact ⟨_, _, _, _, _, _, rfl, rfl, rfl⟩
    | [a, b], r :: rs, _ => exact ⟨_, _, _, _, _, _, rfl, rfl, rfl⟩
  · obtain ⟨x, dx, t, n, cs, ws, rfl, hx, n1, n2, ht, hp, hok, nd, ac, hlen, k⟩ := h
    obtain ⟨mc, cr, ⟨u1, c1⟩, ⟨u2, c2⟩, _, _⟩ := Z.cr
    -- slots 0 self, 1 stages, 2 capacity, 3 channels, 4 triples, 5 channel
    refine ⟨_, px_cons (ps_if (pt_not (pt_val (pe_cd G0 hr psS (pa_cons (pv 1) (pa_cons pe_int (pa_cons (ClX.pe_cval (pe_glob (v := .ref N) (by rfl) Z.gN rfl)) pa_nil)))))) (pss_one (ps_raise rfl (takes_of rfl rfl rfl rfl) (pmk_x T hr (pa_cons pe_str (pa_cons pe_non pa_nil))))) pss_nil)
      (px_cons (ps_if (pt_cmpR op_gt (pe_callB call_len_seq (by rfl) B.len bt_len (pa_cons (pv 3) pa_nil)) (ClX.pe_cval (pe_glob (v := .ref N) (by rfl) Z.gN rfl)) (nomark _)) (pss_one (ps_raise rfl (takes_of rfl rfl rfl rfl) (pmk_x T hr (pa_cons pe_str (pa_cons pe_non pa_nil))))) pss_nil)
      (px_cons (ps_expr (pe_cd G1 hr psS (pa_cons (pv 1) (pa_cons (pv 3) pa_nil))))
      (px_cons (ps_if (pt_not (pt_val (pe_sta G2 (pe_glob (v := .ref N) (by rfl) Z.gN rfl) hr psS (pa_cons (pv 2) pa_nil)))) (pss_one (ps_raise rfl (takes_of rfl rfl rfl rfl) (pmk_x T hr (pa_cons pe_str (pa_cons pe_non pa_nil))))) pss_nil)
      (px_cons (ps_setLc (i := 4) (own := [("channel", 5)]) rfl sc_Pipeline_init.nod rfl rfl (sw_true rfl rfl rfl (by decide +kernel)) (pi_tup (pv 3)) (blkOk_by (N := nn_Pipeline_init) (sc := defScope s_Pipeline_init) (own := [("channel", 5)]) (by decide +kernel))
            (fun _ _ _ _ _ => pg_name (i := 5) sc_Pipeline_init.nod rfl (Or.inl rfl)) (fun _ _ _ _ _ => pts_nil) (fun _ _ _ _ _ => pe_cd G3 (by exact hr) passL (pa_cons (pv 5) (pa_cons (pv 2) pa_nil))))
      (px_cons (ps_if (pt_val (pe_cd G4 hr psS (pa_cons (pv 4) pa_nil))) (pss_one (ps_raise rfl (takes_of rfl rfl rfl rfl) (pmk_x T hr (pa_cons pe_str (pa_cons pe_non pa_nil))))) pss_nil)
      (px_sup (i := 0) SP SZ G5 (hr.mono (by decide)) psS rfl (pa_cons (pv 1) (pa_cons (pv 4) pa_nil)) (px_of pss_nil))))))), ?_⟩
    refine ⟨_, rfl, N, mc, _, u1, rfl, cr, c1, _, _, _, rfl, nv _, _, rfl, ?_⟩
    rw [btw_in (by omega) (by omega)]
    refine iteF ⟨_, rfl, t, _, rfl, .inr (SqT.of ht), N, mc, _, u2, rfl, cr, c2, _, _, rfl, rfl, _, rfl, ?_⟩
    have hwl : ws.length = cs.length := hp.length.symm
    have q1 : decide ((120 : Int) < (ws.length : Int)) = false := by apply decide_eq_false; omega
    rw [q1]
    refine iteF ⟨_, rfl, _, rfl, n, t, cs, ws, rfl, ht, hp, hok, nd, by omega, fun H2 s2 => ?_⟩
    refine ⟨rfl, _, rfl, _, rfl, nv _, _, rfl, iteF ⟨_, rfl, t, rfl, ⟨_, SqT.of (s2 _ _ ht)⟩, fun D hD2 => ?_⟩⟩
    refine lc_tup (K := K) (a := t) (xs := ws) (fun i H3 => Same H2 H3 ∧ ∃ ks, H3 D = some (.lst ks) ∧ Paired (TriA H3) (cs.take i) ks) ⟨Same.new hD2, [], upd_same, .nil⟩ (fun i H3 _ q => SqT.of (q.1 _ _ (s2 _ _ ht))) ?_ ?_
    · rintro i y H3 hy ⟨s3, ks, k1, k2⟩
      obtain ⟨c, hc, t1, rfl, ht1⟩ := pr_at hp hy
      have hi := (List.getElem?_eq_some_iff.mp hc).1
      have ht3 := s3 _ _ (s2 _ _ ht1)
      refine ⟨rfl, yes ⟨_, rfl, _, rfl, _, _, c, rfl, ⟨t1, rfl, ht3⟩, fun p hp3 => ⟨ks, by rw [upd_ne (ne_of_none k1 hp3)]; exact k1, ?_, ?_, ks ++ [.ref p], upd_same, ?_⟩⟩⟩
      · rw [← k2.length, List.length_take]
        exact line_lt (by omega)
      · exact Same.newer (Same.newer s3 (Same.free s3 hp3)) hD2
      · have pD : p ≠ D := (ne_of_none k1 hp3).symm
        rw [take_snoc hc]
        refine pr_snoc (Paired.mapP k2 fun c2 v2 ⟨t2, e1, e2⟩ => ⟨t2, e1, ?_⟩) ⟨p, rfl, by rw [upd_ne pD, upd_same]⟩
        rw [upd_ne (ne_of e2 k1 (by intro z; cases z)), upd_ne (ne_of_none e2 hp3)]
        exact e2
    · rintro H3 ⟨s3, ks, k1, k2⟩
      rw [hwl, List.take_length] at k2
      refine ⟨_, rfl, D, cs, ks, rfl, k1, k2, ac, by omega, fun H4 s4 => ⟨_, rfl, iteF ?_⟩⟩
      have s24 : Same H H4 := s2.trans (s3.trans s4)
      exact ⟨x, dx, _, rfl, s24 _ _ hx, _, rfl, _, rfl, x, dx, D, n, cs, ks, rfl, s24 _ _ hx, n2, hlen, s4 _ _ k1, tris_same s4 k2, hok, fun H5 cs2 a b c d => k H5 cs2 a b (fun b2 o e ne => c b2 o (s24 _ _ e) ne) d⟩
  · obtain ⟨x, dx, n, cs, ws, rfl, hx, n1, n2, hp, hok, nd, ac, hlen, k⟩ := h
    refine ⟨[.ref x, .int n], ws, rfl, rfl, by rw [← hp.length]; exact line_of (by omega), fun p hp2 => ⟨x, dx, p, n, cs, ws, rfl, ?_, n1, n2, upd_same, tris_same (Same.new hp2) hp, hok, nd, ac, hlen, fun H2 cs2 a b c d => k H2 cs2 a b (fun b2 o e ne => c b2 o ?_ ne) d⟩⟩
    · rw [upd_ne (ne_of_none hx hp2)]
      exact hx
    · rw [upd_ne (ne_of_none e hp2)]
      exact e
end
end WC

set_option maxHeartbeats 4000000
namespace WC
open PySem PySem.Spec PyProof.Rows L2
theorem key_lt {n : Nat} {a b : Tri} (hn : n ≤ 40) (ha : ChOk n a) (hb : ChOk n b) (h : a.1 < b.1) : key a < key b := by
  obtain ⟨⟨a1, a2⟩, ⟨a3, a4⟩, a5, a6, a7⟩ := ha
  obtain ⟨⟨b1, b2⟩, ⟨b3, b4⟩, b5, b6, b7⟩ := hb
  unfold key
  omega
theorem keys_inc {n : Nat} {cs : List Tri} (hn : n ≤ 40) (hok : ∀ c ∈ cs, ChOk n c) (h : Inc cs) : cs.Pairwise fun a b => key a < key b := List.Pairwise.imp_of_mem (fun {a b} ma mb z => key_lt hn (hok a ma) (hok b mb) z) h
/-- capacities -/
def CapsOk (ns : List Int) : Prop := ∀ c ∈ ns, 1 ≤ c ∧ c ≤ 999
theorem rowOf_ok {ns : List Int} (h : CapsOk ns) : ∀ c ∈ rowOf ns, ChOk (ns.length + 1) c := fun c hc => by
  obtain ⟨i, q, hq, rfl⟩ := rowOf_mem hc
  have hi := (List.getElem?_eq_some_iff.mp hq).1
  obtain ⟨h1, h2⟩ := h q (List.mem_of_getElem? hq)
  refine ⟨⟨?_, ?_⟩, ⟨?_, ?_⟩, ?_, h1, h2⟩ <;> dsimp only <;> omega
theorem ringOf_ok {ns : List Int} (h : CapsOk ns) (h3 : 3 ≤ ns.length) : ∀ c ∈ ringOf ns, ChOk ns.length c := fun c hc => by
  obtain ⟨i, q, hq, rfl⟩ := ringOf_mem hc
  have hi := (List.getElem?_eq_some_iff.mp hq).1
  obtain ⟨h1, h2⟩ := h q (List.mem_of_getElem? hq)
  have e : ((i : Int) + 1) % (ns.length : Int) = if i + 1 = ns.length then 0 else (i : Int) + 1 := by
    split
    · rename_i z
      have z2 : (i : Int) + 1 = (ns.length : Int) := by omega
      rw [z2, Int.emod_self]
    · exact Int.emod_eq_of_lt (by omega) (by omega)
  refine ⟨⟨?_, ?_⟩, ⟨?_, ?_⟩, ?_, h1, h2⟩ <;> dsimp only <;> (try rw [e]) <;> (try split) <;> omega
def spRow (C : Addr) : Sp := fun vs H Q _ => ∃ ns : List Int, vs = .ref C :: ns.map V.int ∧ CapsOk ns ∧ ns.length ≤ 39 ∧ ∀ H2 x, Same H H2 → H x = none → NetAt H2 x C (ns.length + 1) (rowOf ns) → Q (.ref x) H2
def spRowB (C : Addr) : Sp := fun vs H Q _ => ∃ (ns : List Int) (t : Addr), vs = [.ref C, .ref t] ∧ H t = some (.tup (ns.map V.int)) ∧ CapsOk ns ∧ ns.length ≤ 39 ∧ ∀ H2 x, Same H H2 → H x = none → NetAt H2 x C (ns.length + 1) (rowOf ns) → Q (.ref x) H2
def spRing (C : Addr) : Sp := fun vs H Q _ => ∃ (x dx : Addr) (ns : List Int), vs = .ref x :: ns.map V.int ∧ H x = some (.ins C dx []) ∧ CapsOk ns ∧ 3 ≤ ns.length ∧ ns.length ≤ 40 ∧ ∀ H2, (∀ b o, H b = some o → b ≠ x → H2 b = some o) → NetAt H2 x C ns.length (ringOf ns) → Q .non H2
def spRingB (C : Addr) : Sp := fun vs H Q _ => ∃ (x dx t : Addr) (ns : List Int), vs = [.ref x, .ref t] ∧ H x = some (.ins C dx []) ∧ H t = some (.tup (ns.map V.int)) ∧ CapsOk ns ∧ 3 ≤ ns.length ∧ ns.length ≤ 40 ∧ ∀ H2, (∀ b o, H b = some o → b ≠ x → H2 b = some o) → NetAt H2 x C ns.length (ringOf ns) → Q .non H2
section
variable {P : Program} {w : World} {K : PySem.W.Frag} {mg : Str → Option Value} {base : Heap}
theorem ok_row {f C : Addr} {oc : Value} {od : Option Addr} {kV doc pm : Value} {an : Option Addr} {cdv ct : Value} {osl : Array (Option Value)} (lk : K.lookup f = some ⟨oc, od, .func (PySem.W.fnOf "row" "Pipeline.row" (defArgs s_Pipeline_row) (defBody s_Pipeline_row) (defScope s_Pipeline_row) .none kV doc pm an cdv ct), osl⟩)
    (hcd : PySem.W.codeIn K cdv "Pipeline.row" = true) (B : Blt mg) (G : ClsR P w K mg base C 4 (spPipe C)) : FnR P w K mg base (L2.CX P w) 6 f (spRow C) := by
  refine FnR.imp (fn_starP (k := 5) (ps := ["cls"]) (ks := []) (kv := []) (kvV := []) (pv := "capacities") (sp := spRowB C) lk hcd sc_Pipeline_row StX.cxUp (.of_eq fun u1 u2 hl => ?_) .nil rfl (fun A outer s H vs Q E hr h => ?_)) (fun vs H Q E h => ?_)
  · match u1, u2, hl with
    | [a], [], _ => rfl
    | [a], r :: rs, _ => rfl
  · obtain ⟨ns, t, rfl, ht, hc, hlen, k⟩ := h
    -- slots 0 cls, 1 capacities, 2 stages, 3 channels, 4 stage, 5 capacity
    refine ⟨_, pss_cons (ps_set (i := 2) sc_Pipeline_row.nd rfl (Or.inl rfl) (pe_op op_add (pe_callB call_len_seq (by rfl) B.len bt_len (pa_cons (pv 1) pa_nil)) pe_int))
      (pss_cons (ps_setLc (i := 3) (own := [("stage", 4), ("capacity", 5)]) rfl sc_Pipeline_row.nd rfl rfl (sw_true rfl rfl rfl (by decide +kernel)) (pi_et B.enum (pa_cons (pv 1) pa_nil)) (blkOk_by (N := nn_Pipeline_row) (sc := defScope s_Pipeline_row) (own := [("stage", 4), ("capacity", 5)]) (by decide +kernel))
          (fun _ _ _ _ _ => pg_tupK (K := K) (n := 2) rfl (pgs_cons (pg_name (i := 4) sc_Pipeline_row.nd rfl (Or.inl rfl)) (pgs_cons (pg_name (i := 5) sc_Pipeline_row.nd rfl (Or.inl rfl)) pgs_nil))) (fun _ _ _ _ _ => pts_nil) (fun _ _ _ _ _ => pe_tup (pa_cons (pv 4) (pa_cons (pe_op op_add (pv 4) pe_int) (pa_cons (pv 5) pa_nil)))))
      (pss_one (ps_ret (pe_cls (i := 0) G rfl (Or.inl rfl) hr psE (pa_cons (pv 2) (StX.pa_star (pv 3) pa_nil)))))), ?_⟩
    refine ⟨_, rfl, t, _, rfl, .inr (SqT.of ht), _, _, rfl, rfl, _, rfl, t, _, rfl, SqT.of ht, fun D hD => lc_it (walk_et (xs := ns.map V.int)) (fun i H2 => Same H H2 ∧ ∃ ks, H2 D = some (.lst ks) ∧ Paired (TriA H2) ((rowOf ns).take i) ks) ⟨Same.new hD, [], upd_same, .nil⟩ (fun i H2 _ q => SqT.of (q.1 _ _ ht)) ?_ ?_⟩
    · rintro i x H2 H3 hi ⟨s2, ks, k1, k2⟩ ⟨T1, x1, y1, rfl, hT, rfl, e1, e2⟩
      cases e1
      rw [List.length_map] at hi
      have q : ns[i]? = some ns[i] := by simp [hi]
      have e2 : (ns.map V.int)[i]? = some y1 := e2
      rw [List.getElem?_map, q] at e2
      obtain rfl := Option.some.inj e2
      refine ⟨T1, _, rfl, SqT.of upd_same, rfl, _, _, rfl, _, _, rfl, rfl, rfl, yes ⟨_, rfl, _, rfl, _, _, rfl, rfl, _, rfl, by show 3 ≤ sizeLine; decide, fun p hp => ⟨ks, ?_, ?_, ?_, ks ++ [.ref p], upd_same, ?_⟩⟩⟩
      · rw [upd_ne (ne_of_none (Same.new hT _ _ k1) hp), upd_ne (ne_of_none k1 hT)]
        exact k1
      · rw [← k2.length, List.length_take, rowOf_len]
        exact line_lt (by omega)
      · exact Same.newer (Same.newer (Same.newer s2 (Same.free s2 hT)) (Same.free (Same.newer s2 (Same.free s2 hT)) hp)) hD
      · have pD : p ≠ D := (ne_of_none (Same.new hT _ _ k1) hp).symm
        rw [take_snoc (rowOf_at q)]
        refine pr_snoc (Paired.mapP k2 fun c2 v2 ⟨t2, e1, e2⟩ => ⟨t2, e1, ?_⟩) ⟨p, rfl, by rw [upd_ne pD, upd_same]⟩
        rw [upd_ne (ne_of e2 k1 (by intro z; cases z)), upd_ne (ne_of_none (Same.new hT _ _ e2) hp), upd_ne (ne_of_none e2 hT)]
        exact e2
    · rintro H2 ⟨s2, ks, k1, k2⟩
      have el : (ns.map V.int).length = (rowOf ns).length := by rw [List.length_map, rowOf_len]
      rw [el, List.take_length] at k2
      have hok := rowOf_ok hc
      refine ⟨rfl, _, rfl, _, rfl, D, _, rfl, .inr (SqL.of k1), fun x dx hx hdx hne => ?_⟩
      rw [List.append_nil]
      have s3 : Same H2 (upd (upd H2 dx (.own x)) x (.ins C dx [])) := fun b o e => by
        rw [upd_ne (ne_of_none e hx), upd_ne (ne_of_none e hdx)]
        exact e
      refine ⟨x, dx, ns.length + 1, rowOf ns, ks, ?_, upd_same, by omega, by omega, tris_same s3 k2, hok, nodup_of_inc (f := fun c : Tri => c.1) (fun _ => rfl) (rowOf_inc ns), ⟨Int.toNat, fun c hc2 => ?_⟩, by rw [rowOf_len]; omega, fun H3 cs2 a b c d => ⟨rfl, ?_⟩⟩
      · rw [List.length_map]
        rfl
      · obtain ⟨i, q, _, rfl⟩ := rowOf_mem hc2
        show (i : Int).toNat < ((i : Int) + 1).toNat
        omega
      · have e := sorted_one a b (keys_inc (by omega) hok (rowOf_inc ns))
        subst e
        exact k H3 x (fun b2 o e => c b2 o (s3 _ _ (s2 _ _ e)) (ne_of_none (s2 _ _ e) hx)) (Same.free s2 hx) d
  · obtain ⟨ns, rfl, hc, hlen, k⟩ := h
    refine ⟨[.ref C], ns.map V.int, rfl, rfl, by rw [List.length_map]; exact line_of (by omega), fun p hp => ⟨ns, p, rfl, upd_same, hc, hlen, fun H2 x a b c => k H2 x ((Same.new hp).trans a) (Same.free (Same.new hp) b) c⟩⟩
end
end WC

set_option maxHeartbeats 4000000
namespace WC
open PySem PySem.Spec PyProof.Rows L2
section
variable {P : Program} {w : World} {K : PySem.W.Frag} {mg : Str → Option Value} {base : Heap}
end
end WC

set_option maxHeartbeats 4000000
/-! x in box, one & two, by an own method -/
namespace WC
open PySem PySem.Spec PyProof.Rows L2
structure OwnM (K : PySem.W.Frag) (C : Addr) (m : Str) (f : Addr) : Prop where
  at_ : PySem.W.findIn K (.ref C) m = some (some (.ref f))
  fn : PySem.W.isFn K (.ref f) = true
def rInO (C : Addr) (sp : Sp) (neg : Bool) : R2 := fun x y H Q => ∃ (a dx : Addr) (fs : List (Str × V)), y = .ref a ∧ H a = some (.ins C dx fs) ∧ sp [.ref a, x] H (fun v H' => ∃ c, v = .bl c ∧ Q (.bl (neg ^^ c)) H') E0
section
variable {X : Cx} {C f : Addr} {n : Nat} {fd : FuncData} {ps : List Str} {sp : Sp}
theorem op_inO (T : OwnM X.K C "__contains__" f) (F : FnOk X.prog X.w X.K X.mg X.base (L2.CX X.prog X.w) n f fd ps sp) (hb : Binds X.K fd ps []) (hr : Room n X.A) : OpR X (compareOp .In) (rInO C sp false) := by
  rintro pins s σ H x y v u Q I rx ry ⟨a, dx, fs, rfl, ha, q⟩
  cases ry
  obtain ⟨_, J, _⟩ := ins_get I.hok ha
  obtain ⟨oa, J, _⟩ := J.look
  obtain ⟨m, fr⟩ := I.fr
  refine PySem.W.in_K fr I.ok.mod.kin J T.at_ T.fn ?_
  have z := run_fn (ds := []) (dvs := []) (us := [.ref a, v]) (vs := [.ref a, x]) (E := E0) F hr hb .nil passL I (.cons rfl (.cons rx .nil)) q
  refine wpAny_mono z (fun r s' ⟨w1, H1, I1, r1, c, ec, qc⟩ => ?_) fun _ _ e => e
  subst ec
  cases r1
  rw [Bool.false_xor] at qc
  exact wpAny_truthy_bool ⟨.bl c, H1, I1, rfl, qc⟩
theorem op_notInO (T : OwnM X.K C "__contains__" f) (F : FnOk X.prog X.w X.K X.mg X.base (L2.CX X.prog X.w) n f fd ps sp) (hb : Binds X.K fd ps []) (hr : Room n X.A) : OpR X (compareOp .NotIn) (rInO C sp true) := by
  rintro pins s σ H x y v u Q I rx ry ⟨a, dx, fs, rfl, ha, q⟩
  cases ry
  obtain ⟨_, J, _⟩ := ins_get I.hok ha
  obtain ⟨oa, J, _⟩ := J.look
  obtain ⟨m, fr⟩ := I.fr
  refine PySem.W.notIn_K fr I.ok.mod.kin J T.at_ T.fn ?_
  have z := run_fn (ds := []) (dvs := []) (us := [.ref a, v]) (vs := [.ref a, x]) (E := E0) F hr hb .nil passL I (.cons rfl (.cons rx .nil)) q
  refine wpAny_mono z (fun r s' ⟨w1, H1, I1, r1, c, ec, qc⟩ => ?_) fun _ _ e => e
  subst ec
  cases r1
  rw [Bool.true_xor] at qc
  exact wpAny_truthy_bool ⟨.bl (!c), H1, I1, rfl, qc⟩
end
end WC

set_option maxHeartbeats 4000000
/-! bool(box) -/
namespace WC
open PySem PySem.Spec PyProof.Rows L2
theorem bool_own (prog : Program) (w : World) (x : Addr) : MeetsIn prog w (Builtin.«bool.__new__» ⟨[.type "bool", .ref x], []⟩) (fun A R s => wpAny (model prog w) A.in1 (truthy (.ref x)) (fun b s' => R (.ok (.ret (.bool b))) s') (fun e s' => R (.error e) s') s) :=
  MeetsIn.of_wp fun A R s h => by
    have f1 := F.conv_sub_bool
    obtain ⟨hp, g, d, tk, os⟩ := s
    repeat (any_goals (first | assumption | (with_reducible refine wpAny_mono h (fun b s' z => ?_) fun _ _ z => z) | wp_step))
    all_goals exact ⟨_, rfl, z⟩
/-- a def run a step or two deeper -/
theorem run_at {X : Cx} {f : Addr} {n : Nat} {fd : FuncData} {ps : List Str} {sp : Sp} {A : Around} {pins : List (Addr × Obj)} {σ : L2.St} {H : Hp} {s : Shared} {Q : VK} {us : List Value} {vs : List V} (F : FnOk X.prog X.w X.K X.mg X.base (L2.CX X.prog X.w) n f fd ps sp) (hr : Room n A) (hb : Binds X.K fd ps []) (e0 : Env0 X.prog X.w X.K X.mg X.base A X.stack s H)
    (I : Inv X pins σ H s) (r : Vals vs us) (h : sp vs H Q E0) : wpAny (model X.prog X.w) A (call (.ref f) us) (EP X pins σ Q) X.xe s := by
  have r2 : Vals (vs ++ []) (us ++ []) := by rw [List.append_nil, List.append_nil]; exact r
  have h2 : sp (vs ++ []) H Q E0 := by rw [List.append_nil]; exact h
  have hl : (us ++ []).length = ps.length := by rw [← r2.length]; exact F.len _ _ _ _ h2
  refine wpAny_call (codeAny_mono (F.run A X.stack s H ⟨us, []⟩ (us ++ []) (vs ++ []) Q E0 hr e0 (hb s us I.kIn hl) r2 h2) fun r s' hq => ?_)
  cases r with
  | error e => exact (passL (X := X) (σ := σ)) pins H s e s' I hq
  | ok fl =>
    cases fl with
    | ret u => exact I.after hq
    | next => exact False.elim hq
    | brk => exact False.elim hq
    | cont => exact False.elim hq
def rBoolO (C : Addr) (sp : Sp) : List V → Hp → VK → Prop := fun xs H Q => ∃ (a dx : Addr) (fs : List (Str × V)), xs = [.ref a] ∧ H a = some (.ins C dx fs) ∧ sp [.ref a] H (fun v H' => ∃ c, v = .bl c ∧ Q (.bl c) H') E0
theorem call_boolO {X : Cx} {C f : Addr} {n : Nat} {fd : FuncData} {ps : List Str} {sp : Sp} (T : OwnM X.K C "__bool__" f) (F : FnOk X.prog X.w X.K X.mg X.base (L2.CX X.prog X.w) n f fd ps sp) (hb : Binds X.K fd ps []) (hr : Room (n + 2) X.A) : CallR X (.type "bool") (rBoolO C sp) := by
  rintro pins s σ H xs us Q I r ⟨a, dx, fs, rfl, ha, q⟩
  obtain rfl := Vals.ref1 r
  obtain ⟨_, J, _⟩ := ins_get I.hok ha
  obtain ⟨oa, J, _⟩ := J.look
  obtain ⟨m, fr⟩ := I.fr
  refine callType_newIn PySem.F.called_bool PySem.F.newNe_bool (PySem.F.typeCall_bool_1 _) (PySem.F.newCall_bool_1 _) (fun obj => PySem.F.args_object_init_2 obj _) PySem.F.entry_bool_new (bool_own X.prog X.w a) ?_
  refine PySem.W.truthy_K fr I.ok.mod.kin J T.at_ T.fn ?_
  have z := run_at (A := X.A.in1.in1) (us := [.ref a]) (vs := [.ref a]) F hr.in1.in1 hb I.env0.in1.in1 I (.cons rfl .nil) q
  refine wpAny_mono z (fun r s' ⟨w1, H1, I1, r1, c, ec, qc⟩ => ?_) fun _ _ e => e
  subst ec
  cases r1
  exact ⟨rfl, .bl c, H1, I1, rfl, qc⟩
end WC

set_option maxHeartbeats 4000000
/-! one & two by an own __and__, in a try; != by an own __eq__; == with an own __eq__ on the right -/
namespace WC
open PySem PySem.Spec PyProof.Rows L2
theorem cmpBack {X : Cx} {pins : List (Addr × Obj)} {σ : L2.St} {Q : VK} {r : Value} {s : Shared} (h : EP X pins σ Q r s) : PySem.W.CmpBack (EP X pins σ Q) r s := by
  obtain ⟨v, H, I, rv, q⟩ := id h
  cases v with
  | non => cases rv; exact h
  | bl b => cases rv; exact h
  | int i => obtain ⟨t, rfl⟩ := rv; exact h
  | str z => obtain ⟨t, rfl⟩ := rv; exact h
  | ref a => cases rv; exact h
  | byt b => obtain ⟨t, rfl⟩ := rv; exact h
  | flt b => obtain ⟨t, rfl⟩ := rv; exact h
  | ty n => cases rv; exact h
def tAndO (C : Addr) (sp : Sp) (E : L2.St → XK) (ta tb : TE) : TE := fun σ H Q => ta σ H fun x H1 => tb σ H1 fun y H2 => ∃ (a b dx dy : Addr) (fs gs : List (Str × V)), x = .ref a ∧ y = .ref b ∧ H2 a = some (.ins C dx fs) ∧ H2 b = some (.ins C dy gs) ∧ sp [.ref a, .ref b] H2 Q (E σ)
theorem pe_andO {X : Cx} {C f : Addr} {n k : Nat} {fd : FuncData} {ps : List Str} {sp : Sp} {W : WX} {ta tb : TE} {a b : Expr} {pos : Pos} (T : OwnM X.K C "__and__" f) (sf : PySem.W.selfFirst X.K C = true) (F : FnOk X.prog X.w X.K X.mg X.base (L2.CX X.prog X.w) n f fd ps sp) (hb : Binds X.K fd ps []) (hr : Room k X.A) (tk : Takes X W) (ha : PE X a ta) (hb2 : PE X b tb) (hle : n ≤ k := by decide) : PE X (.BinOp a .BitAnd b pos) (tAndO C sp (WE W) ta tb) := by
  refine ⟨fun pins s σ H Q I h => ?_⟩
  refine wpAny_BinOp (binT (R := fun x y H2 => ∃ (a b dx dy : Addr) (fs gs : List (Str × V)), x = .ref a ∧ y = .ref b ∧ H2 a = some (.ins C dx fs) ∧ H2 b = some (.ins C dy gs) ∧ sp [.ref a, .ref b] H2 Q (WE W σ)) ha hb2 I h fun v u s2 x y H2 I2 rx ry q => ?_)
  obtain ⟨p, r, dx, dy, fs, gs, rfl, rfl, hp, hr2, q⟩ := q
  cases rx
  cases ry
  obtain ⟨_, J, _⟩ := ins_get I2.hok hp
  obtain ⟨op, J, _⟩ := J.look
  obtain ⟨_, J2, _⟩ := ins_get I2.hok hr2
  obtain ⟨or, J2, _⟩ := J2.look
  obtain ⟨m, fr⟩ := I2.fr
  refine PySem.W.binop_K fr I2.ok.mod.kin J J2.type sf T.at_ T.fn ?_
  have z := run_fnS (E := WE W) (us := [.ref p, .ref r]) (vs := [.ref p, .ref r]) F (hr.mono hle) hb (passAt tk σ) I2 (.cons rfl (.cons rfl .nil)) q
  exact wpAny_mono z (fun r s' z => cmpBack z) fun _ _ e => e
end WC

set_option maxHeartbeats 4000000
/-! != by an own __eq__ (there is no own __ne__) -/
namespace WC
open PySem PySem.Spec PyProof.Rows L2
section
variable {prog : Program} {w : World} {A : Around} {E : Value → Shared → Prop} {s : Shared} {K : PySem.W.Frag} {x C L f : Addr} {h₀ : Heap} {m : Str → Option Value} {ox : Obj} {od : Option Obj} {b tb : Value}
theorem ne_call (hu : A.in1.units < cLine) (X : K.In s.heap) (I : PySem.W.InstAt s.heap x ox C od) (hs : PySem.W.findIn K (.ref C) "__eq__" = some (some (.ref f))) (hf : PySem.W.isFn K (.ref f) = true) (hm : PySem.W.mroIn K C (.type "object") = some true) {Q : Value → Shared → Prop}
    (h : wpAny (model prog w) A.in1 (call (.ref f) [.ref x, b]) (fun v s' => ∃ c, v = .bool c ∧ Q (.bool (!c)) s') E s) : wpAny (model prog w) A (call (.builtin "object.__ne__") [.ref x, b]) Q E s := by
  refine wpAny_call (codeAny_call_builtin F.cmp_object.ne.plain F.cmpEntry_ne (PySem.W.check_slot F.cmpKind_ne F.cmpSplit_ne ((I.type).andThen (PySem.W.looks_subIn X hm)) (F.cmpArgs_ne _ _) ?_))
  unfold Builtin.«object.__ne__»
  refine wpAny_bind (m := slotArgs "__ne__" 1 _) (wpAny_pure ?_)
  refine wpAny_bind (wpAny_cRoomFor hu ?_)
  refine wpAny_bind (m := callSpecialIfBound? (.ref x) (Str.ofString "__eq__") [b]) (PySem.W.ifBound_K X I hs hf (wpAny_mono h (fun v s' z => ?_) fun _ _ e => e))
  obtain ⟨c, rfl, q⟩ := z
  dsimp only
  refine wpAny_bind (m := truthy (.bool c)) (wpAny_truthy_bool ?_)
  exact wpAny_pure q
theorem ne_K (hu : A.in1.units < cLine) (hu0 : A.units < cLine) (F : Fr h₀ L s.heap m) (X₀ : K.In h₀) (I : PySem.W.InstAt s.heap x ox C od) (hb : PySem.W.Looks (model prog w) s.heap (typeOf b) tb) (hn : PySem.W.notFirst K C tb = true)
    (hne : PySem.W.findIn K (.ref C) "__ne__" = some (some (.builtin "object.__ne__"))) (hs : PySem.W.findIn K (.ref C) "__eq__" = some (some (.ref f))) (hf : PySem.W.isFn K (.ref f) = true) (hm : PySem.W.mroIn K C (.type "object") = some true) {Q : Value → Shared → Prop}
    (h : wpAny (model prog w) A.in1 (call (.ref f) [.ref x, b]) (fun v s' => ∃ c, v = .bool c ∧ Q (.bool (!c)) s') E s) : wpAny (model prog w) A (richCompare .NotEq (.ref x) b) Q E s := by
  have X := X₀.keeps F.keep
  have one : wpAny (model prog w) A (tryCompare (.ref x) (cmpInfo .NotEq).2.1 b) (fun r s' => ∃ v, r = some v ∧ Q v s') E s := by
    unfold tryCompare
    refine wpAny_bind ?_
    simp only [callSpecialIfBound?, bindSpecialIfBound?]
    have hne2 : PySem.W.findIn K (.ref C) (cmpInfo .NotEq).2.1 = some (some (.builtin "object.__ne__")) := hne
    refine wpAny_holding (wpAny_bind (wpAny_bind (wpAny_bind (I.type.here ((PySem.W.looks_findIn X hne2).here ?_)))))
    refine wpAny_bind (wpAny_askSetting (wpAny_ite ?_))
    have fin : wpAny (model prog w) A (call (.builtin "object.__ne__") ([.ref x] ++ [b]) >>= fun v => pure (some v)) (fun a s' => wpAny (model prog w) A (match a with | some .notImplemented => pure none | none => pure none | some v => pure (some v)) (fun r s' => ∃ v, r = some v ∧ Q v s') E s') E s :=
      wpAny_bind (ne_call hu X I hs hf hm (wpAny_mono h (fun v s' ⟨c, e, q⟩ => ⟨c, e, wpAny_pure (wpAny_pure ⟨_, rfl, q⟩)⟩) fun _ _ e => e))
    have bd : bindSpecial (.builtin "object.__ne__") (.ref x) = pure (.builtin "object.__ne__", [.ref x]) := PySem.F.cmp_object.ne.bind _
    split
    · rw [bd]
      exact wpAny_bind (wpAny_pure (wpAny_pure (by exact fin)))
    · rw [bd]
      exact wpAny_tryCatch (wpAny_bind (wpAny_pure (wpAny_pure (by exact fin))))
  unfold richCompare
  simp only [oneThing_ref]
  refine wpAny_holding (wpAny_bind (wpAny_cRoomFor hu0 ?_))
  refine wpAny_bind (I.type.here (wpAny_bind (hb.here ?_)))
  split
  · rename_i q
    have e : PySem.W.subIn K tb (.ref C) = some false := by
      rcases Bool.or_eq_true_iff.mp hn with e | e
      · rw [beq_iff_eq.mp e] at q; simp at q
      · exact beq_iff_eq.mp e
    refine wpAny_bind ((PySem.W.looks_subIn X e).here ?_)
    simp only [Bool.false_eq_true, if_false]
    refine wpAny_bind (wpAny_mono one (fun r s' z => ?_) fun _ _ e => e)
    obtain ⟨v, rfl, hq⟩ := z
    exact wpAny_pure hq
  · refine wpAny_bind (wpAny_pure ?_)
    simp only [Bool.false_eq_true, if_false]
    refine wpAny_bind (wpAny_mono one (fun r s' z => ?_) fun _ _ e => e)
    obtain ⟨v, rfl, hq⟩ := z
    exact wpAny_pure hq
end
end WC

set_option maxHeartbeats 4000000
/-! a built-in value on the left does not know an own object on the right -/
namespace WC
open PySem PySem.Spec PyProof.Rows L2
open PySem.AutoSeq1 (wpAny_loadPart')
theorem int_dec (b : Int) (u : Tok) (l C dx : Addr) :
    Meets (Builtin.«int.__eq__» ⟨[.int b u, .ref l], []⟩) (fun _ R s => s.heap.get? l = some (PySem.W.instObj C dx) ∧ R (.ok (.ret .notImplemented)) s) :=
  .of_wp fun prog w A R s h => by
    obtain ⟨hp, g, d, tk, os⟩ := s
    obtain ⟨hl, h⟩ := h
    unfold PySem.W.instObj at hl
    wp_walk using wpAny_loadPart' hl, wpAny_load hl
    exact ⟨_, rfl, h⟩
theorem str_dec18 (b : Str) (u : Tok) (l C dx : Addr) :
    Meets (Builtin.«str.__eq__» ⟨[.str b u, .ref l], []⟩) (fun _ R s => s.heap.get? l = some (PySem.W.instObj C dx) ∧ R (.ok (.ret .notImplemented)) s) :=
  .of_wp fun prog w A R s h => by
    obtain ⟨hp, g, d, tk, os⟩ := s
    obtain ⟨hl, h⟩ := h
    unfold PySem.W.instObj at hl
    wp_walk using wpAny_loadPart' hl, wpAny_load hl
    exact ⟨_, rfl, h⟩
theorem tup_dec {prog : Program} {w : World} (l x C dx : Addr) (items : Array Value) (n : Nat) (dd : Option Addr) (sl : Array (Option Value)) :
    MeetsIn prog w (Builtin.«tuple.__eq__» ⟨[.ref l, .ref x], []⟩) (fun _ R s => s.heap.get? l = some { cls := .type "tuple", dict := dd, data := .seq items n, slots := sl } ∧ s.heap.get? x = some (PySem.W.instObj C dx) ∧ PySem.W.Looks (model prog w) s.heap (isSubtype (.ref C) (.type "tuple")) false ∧ R (.ok (.ret .notImplemented)) s) :=
  .of_wp fun A R s h => by
    obtain ⟨hp, g, d, tk, os⟩ := s
    obtain ⟨hl, hx, hs, h⟩ := h
    unfold PySem.W.instObj at hx
    wp_walk using wpAny_loadPart' hl, wpAny_loadPart' hx, hs.here
    exact ⟨_, rfl, h⟩
theorem lst_dec {prog : Program} {w : World} (l x C dx : Addr) (items : Array Value) (n : Nat) (dd : Option Addr) (sl : Array (Option Value)) :
    MeetsIn prog w (Builtin.«list.__eq__» ⟨[.ref l, .ref x], []⟩) (fun _ R s => s.heap.get? l = some { cls := .type "list", dict := dd, data := .seq items n, slots := sl } ∧ s.heap.get? x = some (PySem.W.instObj C dx) ∧ PySem.W.Looks (model prog w) s.heap (isSubtype (.ref C) (.type "list")) false ∧ R (.ok (.ret .notImplemented)) s) :=
  .of_wp fun A R s h => by
    obtain ⟨hp, g, d, tk, os⟩ := s
    obtain ⟨hl, hx, hs, h⟩ := h
    unfold PySem.W.instObj at hx
    wp_walk using wpAny_loadPart' hl, wpAny_loadPart' hx, hs.here
    exact ⟨_, rfl, h⟩
end WC

set_option maxHeartbeats 4000000
/-! b == x, x an own object, b of a built-in type: x is asked; ==, != with x on the left -/
namespace WC
open PySem PySem.Spec PyProof.Rows L2
section
variable {prog : Program} {w : World} {A : Around} {E : Value → Shared → Prop} {s : Shared} {K : PySem.W.Frag} {x C L f : Addr} {h₀ : Heap} {m : Str → Option Value} {ox : Obj} {od : Option Obj} {b : Value} {Tb idb : String}
theorem rev_K (hu : A.units < cLine) (F : Fr h₀ L s.heap m) (X₀ : K.In h₀) (I : PySem.W.InstAt s.heap x ox C od) (hT : s.TypeIs b Tb) (hs : PySem.W.findIn K (.ref C) "__eq__" = some (some (.ref f))) (hf : PySem.W.isFn K (.ref f) = true) (hsub : PySem.W.mroIn K C (.type Tb) = some false)
    (slot : Slot Tb (cmpInfo .Eq).2.1 idb) {Q : Value → Shared → Prop}
    (hd : ∀ Q' : Value → Shared → Prop, Q' .notImplemented s → wpAny (model prog w) A (call (.builtin idb) [b, .ref x]) Q' E s)
    (h : wpAny (model prog w) A (call (.ref f) [.ref x, b]) (PySem.W.CmpBack Q) E s) : wpAny (model prog w) A (richCompare .Eq b (.ref x)) Q E s := by
  have X := X₀.keeps F.keep
  have two : wpAny (model prog w) A (tryCompare (.ref x) (cmpInfo .Eq).2.2 b) (fun r s' => ∃ v, r = some v ∧ Q v s') E s := by
    unfold tryCompare
    refine wpAny_bind (PySem.W.ifBound_K X I hs hf (wpAny_mono h (fun v s' hv => ?_) fun _ _ e => e))
    cases v <;> first | exact hv.elim | exact wpAny_pure ⟨_, rfl, hv⟩
  unfold richCompare
  simp only [hT.oneThing_none]
  refine wpAny_holding (wpAny_bind (wpAny_cRoomFor hu ?_))
  refine wpAny_bind (wpAny_typeOf hT (wpAny_bind (I.type.here ?_)))
  have ne : (Value.type Tb != Value.ref C) = true := rfl
  rw [if_pos ne]
  refine wpAny_bind ((PySem.W.looks_mroIn X hsub).here ?_)
  simp only [Bool.false_eq_true, if_false, Bool.not_false, if_true]
  refine wpAny_bind (m := tryCompare b _ (.ref x)) (wpAny_tryCompare_declines hT slot (hd _ ⟨rfl, ?_⟩))
  refine wpAny_bind (wpAny_mono two (fun r s' z => ?_) fun _ _ e => e)
  obtain ⟨v, rfl, hq⟩ := z
  exact wpAny_pure hq
end
/-- what == and != of an own class's objects ask of the written part -/
structure EqO (K : PySem.W.Frag) (C f : Addr) : Prop where
  eq : OwnM K C "__eq__" f
  ne : PySem.W.findIn K (.ref C) "__ne__" = some (some (.builtin "object.__ne__"))
  hm : PySem.W.mroIn K C (.type "object") = some true
  fI : PySem.W.notFirst K C (.type "int") = true
  fB : PySem.W.notFirst K C (.type "bool") = true
  fN : PySem.W.notFirst K C (.type "NoneType") = true
  fS : PySem.W.notFirst K C (.type "str") = true
  fT : PySem.W.notFirst K C (.type "tuple") = true
  fL : PySem.W.notFirst K C (.type "list") = true
  sI : PySem.W.mroIn K C (.type "int") = some false
  sN : PySem.W.mroIn K C (.type "NoneType") = some false
  sS : PySem.W.mroIn K C (.type "str") = some false
  sT : PySem.W.mroIn K C (.type "tuple") = some false
  sL : PySem.W.mroIn K C (.type "list") = some false
theorem EqO.nf {K : PySem.W.Frag} {C f : Addr} {H : Hp} {v : V} (F : EqO K C f) (k : Known K H v) : PySem.W.notFirst K C (.type (tyN H v)) = true := by
  cases v with
  | int i => exact F.fI
  | bl b => exact F.fB
  | non => exact F.fN
  | str z => exact F.fS
  | ref a => rcases @tyN_ref H a with q | q <;> rw [q]; exact F.fT; exact F.fL
  | byt b => exact k.elim
  | flt b => exact k.elim
  | ty n => exact k.elim
theorem looks_known18 {X : Cx} {pins : List (Addr × Obj)} {σ : L2.St} {H : Hp} {s : Shared} {y : V} {u : Value} (I : Inv X pins σ H s) (r : RelV y u) (k : Known X.K H y) : PySem.W.Looks (model X.prog X.w) s.heap (typeOf u) (.type (tyN H y)) := by
  cases y with
  | non => cases (show u = Value.none from r); exact PySem.W.Looks.of_pure rfl
  | bl b => cases (show u = Value.bool b from r); exact PySem.W.Looks.of_pure rfl
  | int i => obtain ⟨t, q⟩ := (show ∃ t, u = Value.int i t from r); cases q; exact PySem.W.Looks.of_pure rfl
  | str z => obtain ⟨t, q⟩ := (show ∃ t, u = Value.str z t from r); cases q; exact PySem.W.Looks.of_pure rfl
  | ref a =>
    cases (show u = Value.ref a from r)
    rcases k with ⟨xs, e⟩ | ⟨xs, e⟩
    · have q : tyN H (.ref a) = "tuple" := by simp only [tyN, e]
      rw [q]
      obtain ⟨_, _, _, o, h1, h2, _⟩ := (show ObjOk X.prog X.w H s.heap a (.tup xs) from I.hok a _ e)
      exact fun A Q E s' k2 q2 => wpAny_typeOf_ref (k2 _ _ h1) (by rw [h2]; exact q2)
    · have q : tyN H (.ref a) = "list" := by simp only [tyN, e]
      rw [q]
      obtain ⟨_, _, n, _, h1⟩ := (show ObjOk X.prog X.w H s.heap a (.lst xs) from I.hok a _ e)
      exact fun A Q E s' k2 q2 => wpAny_typeOf_ref (k2 _ _ h1) q2
  | byt b => exact k.elim
  | flt b => exact k.elim
  | ty n => exact k.elim
/-- what may stand beside: an own object of a class that is not under C, or a value of a built-in type -/
def BesideV (K : PySem.W.Frag) (C : Addr) (H : Hp) (y : V) : Prop := (∃ (b D dy : Addr) (gs : List (Str × V)), y = .ref b ∧ H b = some (.ins D dy gs) ∧ PySem.W.notFirst K C (.ref D) = true) ∨ Known K H y
def rEqO (K : PySem.W.Frag) (C : Addr) (sp : Sp) (neg : Bool) : R2 := fun x y H Q => ∃ (a dx : Addr) (fs : List (Str × V)), x = .ref a ∧ H a = some (.ins C dx fs) ∧ BesideV K C H y ∧ sp [.ref a, y] H (fun v H' => ∃ c, v = .bl c ∧ Q (.bl (neg ^^ c)) H') E0
def rEqR (K : PySem.W.Frag) (C : Addr) (sp : Sp) : R2 := fun x y H Q => ∃ (a dx : Addr) (fs : List (Str × V)), y = .ref a ∧ H a = some (.ins C dx fs) ∧ Known K H x ∧ (∀ c, x ≠ .bl c) ∧ sp [.ref a, x] H (fun v H' => ∃ c, v = .bl c ∧ Q (.bl c) H') E0
section
variable {X : Cx} {C f : Addr} {n : Nat} {fd : FuncData} {ps : List Str} {sp : Sp}
theorem beside {pins : List (Addr × Obj)} {σ : L2.St} {H : Hp} {s : Shared} {y : V} {v : Value} (T : EqO X.K C f) (I : Inv X pins σ H s) (ry : RelV y v) (hy : BesideV X.K C H y) : ∃ tb, PySem.W.Looks (model X.prog X.w) s.heap (typeOf v) tb ∧ PySem.W.notFirst X.K C tb = true := by
  rcases hy with ⟨b, D, dy, gs, rfl, hb', nf⟩ | hk
  · cases ry
    obtain ⟨_, Jb, _⟩ := ins_get I.hok hb'
    obtain ⟨ob, Jb, _⟩ := Jb.look
    exact ⟨.ref D, Jb.type, nf⟩
  · exact ⟨_, looks_known18 I ry hk, T.nf hk⟩
theorem op_eqO (T : EqO X.K C f) (F : FnOk X.prog X.w X.K X.mg X.base (L2.CX X.prog X.w) n f fd ps sp) (hb : Binds X.K fd ps []) (hr : Room n X.A) : OpR X (compareOp .Eq) (rEqO X.K C sp false) := by
  rintro pins s σ H x y u v Q I rx ry ⟨a, dx, fs, rfl, ha, hy, q⟩
  cases rx
  show wpAny (model X.prog X.w) X.A (richCompare .Eq (.ref a) v) (EP X pins σ Q) X.xe s
  obtain ⟨_, J, _⟩ := ins_get I.hok ha
  obtain ⟨oa, J, _⟩ := J.look
  obtain ⟨m, fr⟩ := I.fr
  obtain ⟨tb, Lb, nf⟩ := beside T I ry hy
  refine PySem.W.cmp_K (op := .Eq) (tb := tb) hr.units0 fr I.ok.mod.kin J Lb nf T.eq.at_ T.eq.fn ?_
  have z := run_at (A := X.A) (us := [.ref a, v]) (vs := [.ref a, y]) F hr hb I.env0 I (.cons rfl (.cons ry .nil)) q
  refine wpAny_mono z (fun r s' ⟨w1, H1, I1, r1, c, ec, qc⟩ => ?_) fun _ _ e => e
  subst ec
  cases r1
  rw [Bool.false_xor] at qc
  exact ⟨.bl c, H1, I1, rfl, qc⟩
theorem op_neO (T : EqO X.K C f) (F : FnOk X.prog X.w X.K X.mg X.base (L2.CX X.prog X.w) n f fd ps sp) (hb : Binds X.K fd ps []) (hr : Room (n + 1) X.A) : OpR X (compareOp .NotEq) (rEqO X.K C sp true) := by
  rintro pins s σ H x y u v Q I rx ry ⟨a, dx, fs, rfl, ha, hy, q⟩
  cases rx
  show wpAny (model X.prog X.w) X.A (richCompare .NotEq (.ref a) v) (EP X pins σ Q) X.xe s
  obtain ⟨_, J, _⟩ := ins_get I.hok ha
  obtain ⟨oa, J, _⟩ := J.look
  obtain ⟨m, fr⟩ := I.fr
  obtain ⟨tb, Lb, nf⟩ := beside T I ry hy
  refine ne_K hr.in1.units0 hr.units0 fr I.ok.mod.kin J Lb nf T.ne T.eq.at_ T.eq.fn T.hm ?_
  have z := run_at (A := X.A.in1) (us := [.ref a, v]) (vs := [.ref a, y]) F hr.in1 hb I.env0.in1 I (.cons rfl (.cons ry .nil)) q
  refine wpAny_mono z (fun r s' ⟨w1, H1, I1, r1, c, ec, qc⟩ => ?_) fun _ _ e => e
  subst ec
  cases r1
  rw [Bool.true_xor] at qc
  exact ⟨c, rfl, .bl (!c), H1, I1, rfl, qc⟩
theorem op_eqRv (T : EqO X.K C f) (F : FnOk X.prog X.w X.K X.mg X.base (L2.CX X.prog X.w) n f fd ps sp) (hb : Binds X.K fd ps []) (hr : Room n X.A) : OpR X (compareOp .Eq) (rEqR X.K C sp) := by
  rintro pins s σ H x y u v Q I rx ry ⟨a, dx, fs, rfl, ha, hk, nb, q⟩
  cases ry
  show wpAny (model X.prog X.w) X.A (richCompare .Eq u (.ref a)) (EP X pins σ Q) X.xe s
  obtain ⟨_, J0, _⟩ := ins_get I.hok ha
  obtain ⟨oa, J, _⟩ := J0.look
  obtain ⟨m, fr⟩ := I.fr
  have X1 := I.ok.mod.kin.keeps fr.keep
  have hx := J.1
  have z := run_at (A := X.A) (us := [.ref a, u]) (vs := [.ref a, x]) F hr hb I.env0 I (.cons rfl (.cons rx .nil)) q
  have z : wpAny (model X.prog X.w) X.A (call (.ref f) [.ref a, u]) (PySem.W.CmpBack (EP X pins σ Q)) X.xe s := wpAny_mono z (fun r s' ⟨w1, H1, I1, r1, c, ec, qc⟩ => by
    subst ec
    cases r1
    exact ⟨.bl c, H1, I1, rfl, qc⟩) fun _ _ e => e
  cases x with
  | non =>
    cases (show u = Value.none from rx)
    exact rev_K hr.units0 fr I.ok.mod.kin J (typeIs_none s) T.eq.at_ T.eq.fn T.sN PySem.F.slot_NoneType_eq (fun Q' h => call_gives PySem.F.slot_NoneType_eq (typeIs_none s) PySem.F.entry_NoneType_eq (PySem.F.args_NoneType_eq_2 _ _) (SeqAt.NoneType___eq___none_ref_0 a) h) z
  | bl c => exact absurd rfl (nb c)
  | int i =>
    obtain ⟨t, rfl⟩ := (show ∃ t, u = Value.int i t from rx)
    exact rev_K hr.units0 fr I.ok.mod.kin J (typeIs_int s i t) T.eq.at_ T.eq.fn T.sI PySem.F.slot_int_eq (fun Q' h => call_meets PySem.F.slot_int_eq (typeIs_int s i t) PySem.F.entry_int_eq (PySem.F.args_int_eq_2 _ _) (int_dec i t a C dx) ⟨hx, h⟩) z
  | str c =>
    obtain ⟨t, rfl⟩ := (show ∃ t, u = Value.str c t from rx)
    exact rev_K hr.units0 fr I.ok.mod.kin J (typeIs_str s c t) T.eq.at_ T.eq.fn T.sS PySem.F.slot_str_eq (fun Q' h => call_meets PySem.F.slot_str_eq (typeIs_str s c t) PySem.F.entry_str_eq (PySem.F.args_str_eq_2 _ _) (str_dec18 c t a C dx) ⟨hx, h⟩) z
  | ref b =>
    cases (show u = Value.ref b from rx)
    rcases hk with ⟨xs, e⟩ | ⟨xs, e⟩
    · obtain ⟨_, its, _, o, h1, h2, n2, h3⟩ := (show ObjOk X.prog X.w H s.heap b (.tup xs) from I.hok b _ e)
      obtain ⟨oc, od2, dt, sl⟩ := o
      simp only at h2 h3
      subst h2 h3
      exact rev_K (b := .ref b) (Tb := "tuple") hr.units0 fr I.ok.mod.kin J ⟨_, h1, rfl⟩ T.eq.at_ T.eq.fn T.sT PySem.F.slot_tuple_eq (fun Q' h => call_meetsIn PySem.F.slot_tuple_eq ⟨_, h1, rfl⟩ PySem.F.entry_tuple_eq (PySem.F.args_tuple_eq_2 _ _) (tup_dec b a C dx _ _ _ _) ⟨h1, hx, PySem.W.looks_mroIn X1 T.sT, h⟩) z
    · obtain ⟨_, its, n2, _, h1⟩ := (show ObjOk X.prog X.w H s.heap b (.lst xs) from I.hok b _ e)
      exact rev_K (b := .ref b) (Tb := "list") hr.units0 fr I.ok.mod.kin J ⟨_, h1, rfl⟩ T.eq.at_ T.eq.fn T.sL PySem.F.slot_list_eq (fun Q' h => call_meetsIn PySem.F.slot_list_eq ⟨_, h1, rfl⟩ PySem.F.entry_list_eq (PySem.F.args_list_eq_2 _ _) (lst_dec b a C dx _ _ _ _) ⟨h1, hx, PySem.W.looks_mroIn X1 T.sL, h⟩) z
  | byt b => exact hk.elim
  | flt b => exact hk.elim
  | ty n => exact hk.elim
end
end WC

set_option maxHeartbeats 4000000
/-! in a try: a class called, a staticmethod called by its class, a method called with keywords or with its keyword defaults -/
namespace WC
open PySem PySem.Spec PyProof.Rows L2
def tMakeS (C : Addr) (sp : Sp) (E : L2.St → XK) (t : L2.TA) : TE := fun σ H Q => t σ H fun vs H1 => ∀ x dx, H1 x = Option.none → H1 dx = Option.none → dx ≠ x → sp (V.ref x :: vs) (upd (upd H1 dx (.own x)) x (.ins C dx [])) (fun v H2 => v = .non ∧ Q (.ref x) H2) (E σ)
theorem run_makeS {X : Cx} {W : WX} {C f : Addr} {k : Nat} {sp : Sp} {pins : List (Addr × Obj)} {σ : L2.St} {H : Hp} {s : Shared} {Q : VK} {us : List Value} {vs : List V} (M : Mk X.K C f) (F : FnR X.prog X.w X.K X.mg X.base (L2.CX X.prog X.w) k f sp) (hr : Room (k + 1) X.A) (tk : Takes X W) (I : Inv X pins σ H s) (r : Vals vs us)
    (h : ∀ x dx, H x = Option.none → H dx = Option.none → dx ≠ x → sp (V.ref x :: vs) (upd (upd H dx (.own x)) x (.ins C dx [])) (fun v H2 => v = .non ∧ Q (.ref x) H2) (WE W σ)) :
    wpAny (model X.prog X.w) X.A (call (.ref C) us) (EP X pins σ Q) X.xe s := by
  have hq := h (s.heap.objs.size + 1) s.heap.objs.size (I.hok.fresh (Nat.le_succ _)) (I.hok.fresh (Nat.le_refl _)) (Nat.ne_of_lt (Nat.lt_succ_self _))
  have J := Inv.made (C := C) I
  have rr : Vals (V.ref (s.heap.objs.size + 1) :: vs) (Value.ref (s.heap.objs.size + 1) :: us) := .cons rfl r
  refine wpAny_call (make_map (f := f) I.kIn M.makes M.init (beq_iff_eq.mp M.fn) (codeAny_mono (F _ X.stack _ _ (Value.ref (s.heap.objs.size + 1) :: us) _ _ (WE W σ) (hr.make C us []) (J.env0.make C us []) rr hq) fun rs s' back => ?_))
  match rs, back with
  | .error er, back => exact passAt tk σ pins _ _ er s' J back
  | .ok (.ret v), back =>
    obtain ⟨v', H', J2, rv, ev, q3⟩ := J.after back
    subst ev
    exact ⟨rv, ⟨V.ref (s.heap.objs.size + 1), H', J2, rfl, q3⟩⟩
  | .ok .next, back => exact False.elim back
  | .ok .brk, back => exact False.elim back
  | .ok .cont, back => exact False.elim back
theorem pe_ccS {X : Cx} {W : WX} {C : Addr} {j k : Nat} {sp : Sp} {x : Str} {e : Expr} {es : List Expr} {t : L2.TA} {p pos : Pos} (D : ClsR X.prog X.w X.K X.mg X.base C k sp) (hm : X.mg x = some (.ref C)) (hr : Room j X.A) (tk : Takes X W) (ha : PA X (e :: es) t) (hle : k + 1 ≤ j := by decide) (hg : Gl X x := by rfl) (hdb : (x == ("__debug__" : Str)) = false := by decide)
    (he : starEach (e :: es) X.env = (false, eval e X.env) :: starEach es X.env := by rfl) (hpl : (backTo pos (starEach es X.env)).any (·.1) = false := by rfl) : PE X (.Call (.Name x p) (e :: es) [] pos) (tMakeS C sp (WE W) t) := by
  obtain ⟨f, M, F⟩ := D.ex
  refine ⟨fun pins s σ H Q I h => wpAny_Call_Name_kw (ld_glob I hg hm ?_ hdb)⟩
  exact PySem.W.callWith_K (h₀ := X.base) I.ok.mod.kin M.kp (thn (ha.run pos pins s σ H _ I h) fun us s1 ⟨vs, H1, I1, r, q⟩ => ⟨I1.kIn, run_makeS M F (hr.mono hle) tk I1 r q⟩) he hpl
theorem run_fnRS {X : Cx} {W : WX} {f : Addr} {k : Nat} {sp : Sp} {pins : List (Addr × Obj)} {σ : L2.St} {H : Hp} {s : Shared} {Q : VK} {us : List Value} {vs : List V} (F : FnR X.prog X.w X.K X.mg X.base (L2.CX X.prog X.w) k f sp) (hr : Room k X.A) (tk : Takes X W) (I : Inv X pins σ H s) (r : Vals vs us) (h : sp vs H Q (WE W σ)) : wpAny (model X.prog X.w) X.A (call (.ref f) us) (EP X pins σ Q) X.xe s := by
  refine wpAny_call (codeAny_mono (F X.A X.stack s H us vs Q (WE W σ) hr I.env0 r h) fun rr s' hq => ?_)
  cases rr with
  | error er => exact passAt tk σ pins H s er s' I hq
  | ok fl =>
    cases fl with
    | ret u => exact I.after hq
    | next => exact False.elim hq
    | brk => exact False.elim hq
    | cont => exact False.elim hq
def tStaS (C : Addr) (sp : Sp) (E : L2.St → XK) (ta : TE) (t : L2.TA) : TE := fun σ H Q => ta σ H fun y H1 => y = .ref C ∧ t σ H1 fun vs H2 => sp vs H2 Q (E σ)
theorem pe_staS {X : Cx} {W : WX} {C : Addr} {m : Str} {j k : Nat} {sp : Sp} {o e : Expr} {es : List Expr} {ta : TE} {t : L2.TA} {pos apos : Pos} {pl : Sem Bool} (D : StaR X.prog X.w X.K X.mg X.base C m k sp) (ho : PE X o ta) (hr : Room j X.A) (tk : Takes X W) (ha : PA X (e :: es) t) (hle : k ≤ j := by decide)
    (hst : starEach (e :: es) X.env = (false, eval e X.env) :: starEach es X.env := by rfl) (hpl : (backTo pos (starEach es X.env)).any (·.1) = false := by rfl)
    (ht : eval (.Call (.Attribute o m apos) (e :: es) [] pos) X.env = (do
      let ov ← eval o X.env
      standAt apos.atName
      let (f, first) ← holding [ov] (getMethod ov m pl)
      callWith pos f first (backTo pos (starEach (e :: es) X.env)) (backToKw pos (keywordEach [] X.env))) := by rfl) : PE X (.Call (.Attribute o m apos) (e :: es) [] pos) (tStaS C sp (WE W) ta t) := by
  obtain ⟨mc, p, g, S, F⟩ := D.ex
  obtain ⟨l, hl⟩ := S.rc
  refine ⟨fun pins s σ H Q I h => PySem.W.methodCall_KW (pl := pl) (thn (ho.run pins s σ H _ I h) fun u s1 ⟨y, H1, I1, ry, ey, q⟩ => ?_) ht⟩
  subst ey
  obtain rfl : u = Value.ref C := ry
  refine PySem.W.method_cls I1.kIn S.ga (PySem.W.cls_bind I1.kIn S.rd S.at_ (wpAny_call (PySem.W.sm_get (s := { s1 with toks := s1.toks + 1 }) I1.kIn hl (PySem.W.handed_on rfl ?_))))
  have I2 := I1.tok (s1.toks + 1)
  exact PySem.W.callWith_K (h₀ := X.base) I.ok.mod.kin S.kp (thn (ha.run pos pins _ σ H1 _ I2 q) fun us s2 ⟨vs, H2, I3, r, q2⟩ => ⟨I3.kIn, run_fnRS F (hr.mono hle) tk I3 r q2⟩) hst hpl
/-- the method m of C, with defaults dvs behind what is written -/
structure MetD (P : Program) (w : World) (K : PySem.W.Frag) (mg : Str → Option Value) (base : Heap) (C : Addr) (m : Str) (k : Nat) (dvs : List V) (sp : Sp) : Prop where
  ex : ∃ f fd ps ds, Cls K C ∧ Meth K C m f ∧ Vals dvs ds ∧ Binds K fd ps ds ∧ FnOk P w K mg base (L2.CX P w) k f fd ps sp
def tMtD (C : Addr) (m : Str) (dvs : List V) (sp : Sp) (E : L2.St → XK) (ta : TE) (t : L2.TA) : TE := fun σ H Q => ta σ H fun x H1 => ∃ a dx fs, x = .ref a ∧ H1 a = some (.ins C dx fs) ∧ fs.lookup m = none ∧ t σ H1 fun vs H2 => sp (x :: (vs ++ dvs)) H2 Q (E σ)
theorem pe_mtD {X : Cx} {C : Addr} {m : Str} {j k : Nat} {dvs : List V} {sp : Sp} {W : WX} {o e : Expr} {es : List Expr} {ta : TE} {t : L2.TA} {pos apos : Pos} {pl : Sem Bool} (D : MetD X.prog X.w X.K X.mg X.base C m k dvs sp) (ho : PE X o ta) (hr : Room j X.A) (tk : Takes X W) (ha : PA X (e :: es) t) (hle : k ≤ j := by decide)
    (hst : starEach (e :: es) X.env = (false, eval e X.env) :: starEach es X.env := by rfl) (hpl : (backTo pos (starEach es X.env)).any (·.1) = false := by rfl)
    (ht : eval (.Call (.Attribute o m apos) (e :: es) [] pos) X.env = (do
      let ov ← eval o X.env
      standAt apos.atName
      let (f, first) ← holding [ov] (getMethod ov m pl)
      callWith pos f first (backTo pos (starEach (e :: es) X.env)) (backToKw pos (keywordEach [] X.env))) := by rfl) : PE X (.Call (.Attribute o m apos) (e :: es) [] pos) (tMtD C m dvs sp (WE W) ta t) := by
  obtain ⟨f, fd, ps, ds, c, hm, rd, hb, F⟩ := D.ex
  refine ⟨fun pins s σ H Q I h => ?_⟩
  refine PySem.W.methodCall_KW (pl := pl) (thn (ho.run pins s σ H _ I h) fun u s1 ⟨x, H1, I1, rx, a, dx, fs, ex, ea, l, q⟩ => ?_) ht
  subst ex
  obtain rfl : u = Value.ref a := rx
  refine getmeth_ok I1 ea c hm l ?_
  refine PySem.W.callWith_K (first := [.ref a]) (h₀ := X.base) I.ok.mod.kin hm.kp (thn (ha.run pos pins s1 σ H1 _ I1 q) fun us s2 ⟨vs, H2, I2, r, q2⟩ => ⟨I2.kIn, ?_⟩) hst hpl
  exact run_fnSD (E := WE W) (us := .ref a :: us) (vs := .ref a :: vs) F (hr.mono hle) hb rd (passAt tk σ) I2 (.cons rfl r) q2
/-- the method m of C, called with keywords ks -/
structure MetK (P : Program) (w : World) (K : PySem.W.Frag) (mg : Str → Option Value) (base : Heap) (C : Addr) (m : Str) (k n : Nat) (ks : List Str) (gV : List V → List V → List V) (sp : Sp) : Prop where
  ex : ∃ f fd ps g, Cls K C ∧ Meth K C m f ∧ KBn K fd ps n ks g gV ∧ FnOk P w K mg base (L2.CX P w) k f fd ps sp
def tMtK (C : Addr) (m : Str) (n : Nat) (ks : List Str) (gV : List V → List V → List V) (sp : Sp) (E : L2.St → XK) (ta : TE) (t tk : L2.TA) : TE := fun σ H Q => ta σ H fun x H1 => ∃ a dx fs, x = .ref a ∧ H1 a = some (.ins C dx fs) ∧ fs.lookup m = none ∧ t σ H1 fun vs H2 => tk σ H2 fun zs H3 => vs.length + 1 = n ∧ zs.length = ks.length ∧ sp (gV (x :: vs) zs) H3 Q (E σ)
theorem pe_mtK {X : Cx} {C : Addr} {m : Str} {j k n : Nat} {ks : List Str} {gV : List V → List V → List V} {sp : Sp} {W : WX} {o e : Expr} {es : List Expr} {kws : List Keyword} {ta : TE} {t tk_ : L2.TA} {pos apos : Pos} {pl : Sem Bool} (D : MetK X.prog X.w X.K X.mg X.base C m k n ks gV sp) (ho : PE X o ta) (hr : Room j X.A) (tk : Takes X W) (ha : PA X (e :: es) t) (hkw : PK X kws tk_) (hle : k ≤ j := by decide)
    (hall : (backToKw pos (keywordEach kws X.env)).all (·.1.isSome) = true := by rfl) (hks : (backToKw pos (keywordEach kws X.env)).filterMap (·.1) = ks := by rfl)
    (hst : starEach (e :: es) X.env = (false, eval e X.env) :: starEach es X.env := by rfl) (hpl : ((backTo pos (starEach (e :: es) X.env)).any (·.1) || (backToKw pos (keywordEach kws X.env)).any (·.1.isNone)) = false := by rfl)
    (ht : eval (.Call (.Attribute o m apos) (e :: es) kws pos) X.env = (do
      let ov ← eval o X.env
      standAt apos.atName
      let (f, first) ← holding [ov] (getMethod ov m pl)
      callWith pos f first (backTo pos (starEach (e :: es) X.env)) (backToKw pos (keywordEach kws X.env))) := by rfl) : PE X (.Call (.Attribute o m apos) (e :: es) kws pos) (tMtK C m n ks gV sp (WE W) ta t tk_) := by
  obtain ⟨f, fd, ps, g, c, hm, hb, F⟩ := D.ex
  refine ⟨fun pins s σ H Q I h => ?_⟩
  refine PySem.W.methodCall_KW (pl := pl) (thn (ho.run pins s σ H _ I h) fun u s1 ⟨x, H1, I1, rx, a, dx, fs, ex, ea, l, q⟩ => ?_) ht
  subst ex
  obtain rfl : u = Value.ref a := rx
  refine getmeth_ok I1 ea c hm l ?_
  refine PySem.W.callWith_KW (first := [.ref a]) (h₀ := X.base) I.ok.mod.kin hm.kp hall (thn (ha.run pos pins s1 σ H1 _ I1 q) fun us s2 ⟨vs, H2, I2, r, q2⟩ => ?_) hpl hst
  refine thn (hkw.run pos pins s2 σ H2 _ I2 q2) fun ws s3 ⟨zs, H3, I3, rz, l1, l2, q3⟩ => ⟨I3.kIn, ?_⟩
  rw [hks]
  have r1 : Vals (.ref a :: vs) (Value.ref a :: us) := .cons rfl r
  refine wpAny_call (codeAny_mono (F.run X.A X.stack s3 H3 ⟨Value.ref a :: us, ks.zip ws⟩ (g (Value.ref a :: us) ws) (gV (.ref a :: vs) zs) Q (WE W σ) (hr.mono hle) I3.env0 (hb.to s3 (Value.ref a :: us) ws I3.kIn (r1.length.symm.trans l1) (rz.length.symm.trans l2)) (hb.rel r1 rz) q3) fun rr s' hq => ?_)
  cases rr with
  | error er => exact passAt tk σ pins H3 s3 er s' I3 hq
  | ok fl =>
    cases fl with
    | ret u => exact I3.after hq
    | next => exact False.elim hq
    | brk => exact False.elim hq
    | cont => exact False.elim hq
end WC

set_option maxHeartbeats 4000000
/-! zip of three lists or tuples -/
namespace WC
open PySem PySem.Spec PyProof.Rows L2
def ItzM3 (K : PySem.W.Frag) (k1 k2 k3 : Bool) (a b c : Addr) : It :=
  ⟨fun i H => ∃ (xs ys zs : List V) (x y z : V), SqX K H k1 a xs ∧ SqX K H k2 b ys ∧ SqX K H k3 c zs ∧ xs[i]? = some x ∧ ys[i]? = some y ∧ zs[i]? = some z,
    fun i H v H' => ∃ T x y z, v = .ref T ∧ H T = none ∧ H' = upd H T (.tup [x, y, z]) ∧ (∀ xs, SqX K H k1 a xs → xs[i]? = some x) ∧ (∀ ys, SqX K H k2 b ys → ys[i]? = some y) ∧ ∀ zs, SqX K H k3 c zs → zs[i]? = some z,
    fun i H => ∃ xs ys zs : List V, SqX K H k1 a xs ∧ SqX K H k2 b ys ∧ SqX K H k3 c zs ∧ i ≤ xs.length ∧ i ≤ ys.length ∧ i ≤ zs.length ∧ (xs.length = i ∨ ys.length = i ∨ zs.length = i)⟩
structure ZpM3 (z TI TO i1 i2 i3 a b c : Addr) : Prop where
  s : ZipSep3 z TI TO i1 i2 i3 [i1, a] [i2, b] [i3, c]
  n1 : a ≠ i1
  n2 : b ≠ i2
  n3 : c ≠ i3
theorem turn_zipM3 {P : Program} {w : World} {K : PySem.W.Frag} {elts : List Expr} {kk : Nat} {tpos : Pos} {k1 k2 k3 : Bool} {a b c z TI TO i1 i2 i3 : Addr} (D : ZpM3 z TI TO i1 i2 i3 a b c) :
    Turn P w K (.Tuple elts kk tpos) (ItzM3 K k1 k2 k3 a b c) [z, TI, TO, i1, i2, i3] z (fun i h => IsZip h z TI TO .none ∧ IsTupOf3 h TI (.ref i1) (.ref i2) (.ref i3) ∧ (∃ x y v, IsTupOf3 h TO x y v) ∧ ItX h k1 i1 a i ∧ ItX h k2 i2 b i ∧ ItX h k3 i3 c i) where
  mem := by simp
  obj := fun i h st e hc => by
    obtain ⟨hz, hTI, ⟨x, y, v, hTO⟩, h1, h2, h3⟩ := st
    obtain ⟨o1, e1, d1, _⟩ := itx_obj h1
    obtain ⟨o2, e2, d2, _⟩ := itx_obj h2
    obtain ⟨o3, e3, d3, _⟩ := itx_obj h3
    have e' : e = z ∨ e = TI ∨ e = TO ∨ e = i1 ∨ e = i2 ∨ e = i3 := by simpa using hc
    rcases e' with q | q | q | q | q | q <;> rw [q]
    · exact ⟨_, hz, fun v q => nomatch q⟩
    · exact ⟨_, hTI, fun v q => nomatch q⟩
    · exact ⟨_, hTO, fun v q => nomatch q⟩
    · exact ⟨o1, e1, d1⟩
    · exact ⟨o2, e2, d2⟩
    · exact ⟨o3, e3, d3⟩
  keep := fun i h h' st k => by
    obtain ⟨hz, hTI, ⟨x, y, v, hTO⟩, h1, h2, h3⟩ := st
    exact ⟨k z (by simp) _ hz, k TI (by simp) _ hTI, ⟨x, y, v, k TO (by simp) _ hTO⟩, itx_at h1 fun o q => k i1 (by simp) o q, itx_at h2 fun o q => k i2 (by simp) o q, itx_at h3 fun o q => k i3 (by simp) o q⟩
  item := by
    intro X hP hw hK hc i pins s σ H E I hf st hg
    subst hP hw hK
    obtain ⟨hz, hTI, ⟨x0, y0, v0, hTO⟩, h1, h2, h3⟩ := st
    obtain ⟨xs, ys, zs, x, y, v, hqx, hqy, hqz, hx, hy, hv⟩ := hg
    obtain ⟨its, rv, p⟩ := sqx_is I hqx
    obtain ⟨its2, rv2, p2⟩ := sqx_is I hqy
    obtain ⟨its3, rv3, p3⟩ := sqx_is I hqz
    obtain ⟨u, hu, ru⟩ := rv.get hx
    obtain ⟨u2, hu2, ru2⟩ := rv2.get hy
    obtain ⟨u3, hu3, ru3⟩ := rv3.get hv
    have hzl : z < s.heap.objs.size := Heap.lt_size hz
    have S := D.s
    have hl1 : i < its.toArray.size := by have := (List.getElem?_eq_some_iff.mp hu).1; simpa using this
    have hl2 : i < its2.toArray.size := by have := (List.getElem?_eq_some_iff.mp hu2).1; simpa using this
    have hl3 : i < its3.toArray.size := by have := (List.getElem?_eq_some_iff.mp hu3).1; simpa using this
    have hcal := I.ok.hd hc
    refine wpAny_pyNext_zipD3_item S (drX (A := X.A.in1) hcal k1 i1 a D.n1 its.toArray) (drX (A := X.A.in1) hcal k2 i2 b D.n2 its2.toArray) (drX (A := X.A.in1) hcal k3 i3 c D.n3 its3.toArray) hz hTI hTO ⟨h1, p⟩ ⟨h2, p2⟩ ⟨h3, p3⟩ hl1 hl2 hl3 fun v1 v2 v3 h' tk e1 e2 e3 z' TO' h1' h2' h3' hT hsz hk => ?_
    have e1 : its[i]? = some v1 := by simpa using e1
    have e2 : its2[i]? = some v2 := by simpa using e2
    have e3 : its3[i]? = some v3 := by simpa using e3
    rw [hu] at e1; cases e1
    rw [hu2] at e2; cases e2
    rw [hu3] at e3; cases e3
    refine ⟨_, rfl, wpAny_letOwnedTupleGo_zip (s := { s with heap := h', toks := tk }) z' fun h'' z'' sb => ?_⟩
    have hT2 : h''.get? s.heap.objs.size = some { cls := .type "tuple", data := .seq #[u, u2, u3] } := (sb.2 _ (Nat.ne_of_gt hzl)).trans hT
    have new : ObjOk X.prog X.w (upd H s.heap.objs.size (.tup [x, y, v])) h'' s.heap.objs.size (.tup [x, y, v]) :=
      ⟨by show 3 ≤ sizeLine; decide, [u, u2, u3], .cons ru (.cons ru2 (.cons ru3 .nil)), ⟨_, hT2, rfl, _, rfl⟩⟩
    have kp : ∀ e o, e ∉ [z, TI, TO, i1, i2, i3] → s.heap.get? e = some o → h''.get? e = some o := fun e o hb q => by
      have w1 := hk e o (fun q' => hb (by simp [q'])) (fun q' => hb (by simp [q'])) (fun q' => hb (by simp [q'])) (fun q' => hb (by simp [q'])) (fun q' => hb (by simp [q'])) q
      exact (sb.2 e fun q' => hb (by simp [q'])).trans w1
    have I1 : Inv X pins σ (upd H s.heap.objs.size (.tup [x, y, v])) { s with heap := h'', toks := tk } := I.turnedNew (t' := tk) (ch := [z, TI, TO, i1, i2, i3]) kp hf (Nat.le_refl _) new
    refine ⟨.ref s.heap.objs.size, _, I1, rfl, ⟨_, x, y, v, rfl, I.hok.fresh (Nat.le_refl _), rfl, fun l hl => by rw [sqx_inj I hl hqx]; exact hx, fun l hl => by rw [sqx_inj I hl hqy]; exact hy, fun l hl => by rw [sqx_inj I hl hqz]; exact hv⟩, ⟨z'', ?_, ⟨u, u2, u3, ?_⟩, ?_, ?_, ?_⟩, fun e hcm => ?_⟩
    · exact (sb.2 _ S.TIz).trans (hk _ _ S.TIz S.TITO S.TIi1 S.TIi2 S.TIi3 hTI)
    · exact (sb.2 _ S.TOz).trans TO'
    · exact itx_at h1'.1 fun o q => (sb.2 _ (Ne.symm S.zi1)).trans q
    · exact itx_at h2'.1 fun o q => (sb.2 _ (Ne.symm S.zi2)).trans q
    · exact itx_at h3'.1 fun o q => (sb.2 _ (Ne.symm S.zi3)).trans q
    · have hlt : e < s.heap.objs.size := by
        have e' : e = z ∨ e = TI ∨ e = TO ∨ e = i1 ∨ e = i2 ∨ e = i3 := by simpa using hcm
        rcases e' with q | q | q | q | q | q <;> rw [q]
        · exact hzl
        · exact Heap.lt_size hTI
        · exact Heap.lt_size hTO
        · obtain ⟨_, e1, _⟩ := itx_obj h1; exact Heap.lt_size e1
        · obtain ⟨_, e2, _⟩ := itx_obj h2; exact Heap.lt_size e2
        · obtain ⟨_, e3, _⟩ := itx_obj h3; exact Heap.lt_size e3
      rw [upd_ne (Nat.ne_of_lt hlt)]
      exact (hf e hcm).1
  done := by
    intro X hP hw hK hc i pins s σ H E I hf st hg
    subst hP hw hK
    obtain ⟨hz, hTI, ⟨x0, y0, v0, hTO⟩, h1, h2, h3⟩ := st
    obtain ⟨xs, ys, zs, hqx, hqy, hqz, g1, g2, g3, hend⟩ := hg
    obtain ⟨its, rv, p⟩ := sqx_is I hqx
    obtain ⟨its2, rv2, p2⟩ := sqx_is I hqy
    obtain ⟨its3, rv3, p3⟩ := sqx_is I hqz
    have l1 := rv.length
    have l2 := rv2.length
    have l3 := rv3.length
    have hcal := I.ok.hd hc
    refine wpAny_pyNext_zipD3_end D.s (drX (A := X.A.in1) hcal k1 i1 a D.n1 its.toArray) (drX (A := X.A.in1) hcal k2 i2 b D.n2 its2.toArray) (drX (A := X.A.in1) hcal k3 i3 c D.n3 its3.toArray) hz hTI hTO ⟨h1, p⟩ ⟨h2, p2⟩ ⟨h3, p3⟩ (by simp; omega) (by simp; omega) (by simp; omega) (by simp; omega) fun h' tk hk => ⟨rfl, I.turnedL (t' := tk) (ch := [z, TI, TO, i1, i2, i3]) (fun e o hb q => ?_) hf⟩
    exact hk e o (fun q' => hb (by simp [q'])) (fun q' => hb (by simp [q'])) (fun q' => hb (by simp [q'])) (fun q' => hb (by simp [q'])) (fun q' => hb (by simp [q'])) q
  self := fun A i s Q E st h => wpAny_pyIter_zip st.1 h
def iZipM3 (K : PySem.W.Frag) (ta : TA) : TI := fun σ H R => ta σ H fun vs H1 => ∃ a b c xs ys zs k1 k2 k3, vs = [.ref a, .ref b, .ref c] ∧ SqX K H1 k1 a xs ∧ SqX K H1 k2 b ys ∧ SqX K H1 k3 c zs ∧ R (ItzM3 K k1 k2 k3 a b c) H1
theorem zip3_ld {M : Model} {A : Around} {E : Value → Shared → Prop} {ev : Sem Value} {Q : Value → Shared → Prop} {s : Shared} (h : wpAny M A ev Q E s) : wpAny M A ev Q E s := h
theorem pi_zip3 {X : Cx} {e e2 e3 : Expr} {ta : TA} {p pos tpos : Pos} {elts : List Expr} {kk : Nat} (hm : X.mg "zip" = none) (ha : PA X [e, e2, e3] ta) (hg : Gl X "zip" := by rfl)
    (hs : starEach [e, e2, e3] X.env = (false, eval e X.env) :: starEach [e2, e3] X.env := by rfl) (hpl : (backTo pos (starEach [e2, e3] X.env)).any (·.1) = false := by rfl) :
    PI X (.Tuple elts kk tpos) (.Call (.Name "zip" p) [e, e2, e3] [] pos) (iZipM3 X.K ta) := by
  refine ⟨fun pins s σ H R I h => ?_⟩
  refine Call_ (ld_blt I hg hm PyProof.Rows.boot_zip (PyProof.Rows.callWith_type1 (thn (ha.run pos pins s σ H _ I h) fun us s1 ⟨vs, H1, I1, r1, q1⟩ => ?_) hs hpl))
  obtain ⟨a, b, c, xs, ys, zs, k1, k2, k3, ex, hqx, hqy, hqz, q⟩ := q1
  subst ex
  obtain ⟨u1, u2, u3, rfl, ra, rb, rc⟩ : ∃ u1 u2 u3, us = [u1, u2, u3] ∧ RelV (.ref a) u1 ∧ RelV (.ref b) u2 ∧ RelV (.ref c) u3 := by
    cases r1 with
    | cons r rr =>
      cases rr with
      | cons r' rr =>
        cases rr with
        | cons r'' rr =>
          cases rr
          exact ⟨_, _, _, rfl, r, r', r''⟩
  cases ra
  cases rb
  cases rc
  obtain ⟨its, rv, p1⟩ := sqx_is I1 hqx
  obtain ⟨its2, rv2, p2⟩ := sqx_is I1 hqy
  obtain ⟨its3, rv3, p3⟩ := sqx_is I1 hqz
  obtain ⟨o1, B1, g1⟩ := begX k1 a its.toArray
  obtain ⟨o2, B2, g2⟩ := begX k2 b its2.toArray
  obtain ⟨o3, B3, g3⟩ := begX k3 c its3.toArray
  have lt : ∀ {k l} {z : Array Value}, IsX s1.heap k l z → l < s1.heap.objs.size := fun x => isx_lt x
  refine zip_begins3 B1 B2 B3 p1 p2 p3 fun h' hz hTI hTO ho1 ho2 ho3 hsz hk => wpAny_pyIter_zip hz ?_
  have I2 : Inv X pins σ H1 { s1 with heap := h' } := I1.kept (t' := s1.toks) hk
  generalize hN : s1.heap.objs.size = N at *
  have D : ZpM3 (N + 5) (N + 3) (N + 4) N (N + 1) (N + 2) a b c :=
    ⟨zip_sep3 (fun c hc => by rw [List.mem_singleton.mp hc]; exact lt p1) (fun c hc => by rw [List.mem_singleton.mp hc]; exact lt p2) (fun c hc => by rw [List.mem_singleton.mp hc]; exact lt p3), Nat.ne_of_lt (lt p1), Nat.ne_of_lt (Nat.lt_succ_of_lt (lt p2)), Nat.ne_of_lt (Nat.lt_succ_of_lt (Nat.lt_succ_of_lt (lt p3)))⟩
  refine ⟨N + 5, [N + 5, N + 3, N + 4, N, N + 1, N + 2], _, _, H1, rfl, I2, turn_zipM3 D, ⟨hz, hTI, ⟨_, _, _, hTO⟩, g1 _ _ ho1, g2 _ _ ho2, g3 _ _ ho3⟩, fun e hcm => ?_, q⟩
  have e' : e = N + 5 ∨ e = N + 3 ∨ e = N + 4 ∨ e = N ∨ e = N + 1 ∨ e = N + 2 := by simpa using hcm
  have hle : s1.heap.objs.size ≤ e := by
    rw [hN]
    rcases e' with q | q | q | q | q | q <;> rw [q] <;> first | exact Nat.le_add_right _ _ | exact Nat.le_refl _
  exact I1.fpOk hle (I1.hok.fresh hle)
def YTri (f g h : Nat → Option V) : Nat → Hp → V → Hp → Prop := fun i H v H' => ∃ T x y z, v = .ref T ∧ H T = none ∧ H' = upd H T (.tup [x, y, z]) ∧ f i = some x ∧ g i = some y ∧ h i = some z
theorem walk_zip3 {K : PySem.W.Frag} {k1 k2 k3 : Bool} {a b c : Addr} {xs ys zs : List V} (hl : xs.length = ys.length) (hl2 : xs.length = zs.length) : Walk (ItzM3 K k1 k2 k3 a b c) xs.length (fun H => SqX K H k1 a xs ∧ SqX K H k2 b ys ∧ SqX K H k3 c zs) (YTri (fun i => xs[i]?) (fun i => ys[i]?) (fun i => zs[i]?)) := by
  refine ⟨fun i _ hi q => ⟨xs, ys, zs, xs[i], ys[i], zs[i], q.1, q.2.1, q.2.2, by simp [hi], by simp [hl ▸ hi], by simp [hl2 ▸ hi]⟩, fun _ q => ⟨xs, ys, zs, q.1, q.2.1, q.2.2, Nat.le_refl _, by omega, by omega, .inl rfl⟩, fun i H v H2 _ q y => ?_⟩
  obtain ⟨T, x, y, z, h1, h2, h3, h4, h5, h6⟩ := y
  exact ⟨T, x, y, z, h1, h2, h3, h4 xs q.1, h5 ys q.2.1, h6 zs q.2.2⟩
end WC

set_option maxHeartbeats 4000000
/-! enumerate(zip(x, y)): the zip's own tuple may still be out when the next is asked for -/
namespace WC
open PySem PySem.Spec PyProof.Rows L2
abbrev ZipG (h : Heap) (z TI TO : Addr) (f0 : Value) (f1 : Bool) : Prop := h.get? z = some { cls := .type "zip", dict := none, data := .fields #[f0, .bool f1, .bool false, .ref TI, .ref TO], slots := #[] }
def OutF (f0 : Value) : Prop := f0 = .none ∨ ∃ T : Nat, f0 = rawInt (T : Int)
def ZipAny (h : Heap) (z TI TO : Addr) : Prop := ∃ f0 f1, OutF f0 ∧ ZipG h z TI TO f0 f1
section
variable {prog : Program} {w : World} {A : Around} {E : Value → Shared → Prop} {s : Shared} {z TI TO i1 i2 : Addr} {fp1 fp2 : List Addr} {n1 n2 i : Nat} {P1 P2 : Nat → Value → Prop} {St1 St2 : Nat → Heap → Prop} {a1 a2 : Value} {f0 : Value} {f1 : Bool}
theorem free_any {Q : Bool → Shared → Prop} (hz : ZipG s.heap z TI TO f0 f1) (ho : OutF f0) (ht : Q true s) (hf : ∀ h', ZipG h' z TI TO f0 true → Heap.SameBut z s.heap h' → Q false { s with heap := h' }) : wpAny (model prog w) A (Builtin.SmallTypes.ownedTupleIsFree (.ref z)) Q E s := by
  unfold Builtin.SmallTypes.ownedTupleIsFree
  rcases ho with rfl | ⟨T, rfl⟩
  · exact wpAny_bind (wpAny_field hz rfl (x := .none) rfl (wpAny_pure ht))
  · refine wpAny_bind (wpAny_field hz rfl (x := rawInt T) rfl ?_)
    have al : ∀ {Q' : Option Obj → Shared → Prop}, Q' (s.heap.get? T) s → wpAny (model prog w) A (loadIfAlive T) Q' E s := fun h _ _ _ => h
    show wpAny _ _ (loadIfAlive ((T : Int).toNat) >>= _) _ _ _; rw [Int.toNat_natCast]
    refine wpAny_bind (al ?_)
    cases s.heap.get? T with
    | none =>
      simp only [Option.isNone_none, if_true]
      exact wpAny_pure ht
    | some o =>
      simp only [Option.isNone_some, Bool.false_eq_true, if_false]; refine wpAny_bind (wpAny_field hz rfl (x := .bool f1) rfl ?_)
      cases f1 with
      | true =>
        rw [if_neg (show ¬ ((Value.bool true != Value.bool true) = true) by decide)]
        exact wpAny_pure (hf s.heap hz (Heap.SameBut.refl _ _))
      | false =>
        rw [if_pos (show (Value.bool false != Value.bool true) = true by decide)]
        exact wpAny_bind (wpAny_setField_rec hz (by simp) fun g1 z1 b1 => wpAny_pure (hf g1 z1 b1))
theorem zipG_item {Q : Value → Shared → Prop} (S : ZipSep2 z TI TO i1 i2 fp1 fp2) (D1 : Draws prog w A i1 fp1 n1 P1 St1) (D2 : Draws prog w A i2 fp2 n2 P2 St2) (hz : ZipG s.heap z TI TO f0 f1) (ho : OutF f0)
    (hTI : IsTupOf2 s.heap TI (.ref i1) (.ref i2)) (hTO : IsTupOf2 s.heap TO a1 a2) (st1 : St1 i s.heap) (st2 : St2 i s.heap) (l1 : i < n1) (l2 : i < n2)
    (hQ : ∀ x1 x2 h' tk, P1 i x1 → P2 i x2 → ZipAny h' z TI TO → (∃ b1 b2, IsTupOf2 h' TO b1 b2) → St1 (i + 1) h' → St2 (i + 1) h' → IsTupOf2 h' s.heap.objs.size x1 x2 → h'.objs.size = s.heap.objs.size + 1 →
      (∀ c o, c ≠ z → c ≠ TO → c ≠ i1 → c ≠ i2 → s.heap.get? c = some o → h'.get? c = some o) → Q (.ref s.heap.objs.size) { s with heap := h', toks := tk }) :
    wpAny (model prog w) A (Builtin.«zip.__next__» ⟨[.ref z], []⟩) (fun r s' => ∃ v, r = .done (.ret v) ∧ Q v s') E s := by
  obtain ⟨hp, gn, dn, tk0, os⟩ := s
  show wpAny _ _ (field (.ref z) 2 >>= _) _ _ _; refine wpAny_bind (wpAny_field hz rfl (x := .bool false) rfl ?_)
  show wpAny _ _ (field (.ref z) 3 >>= _) _ _ _; refine wpAny_bind (wpAny_field hz rfl (x := .ref TI) rfl (wpAny_bind (wpAny_seqItems hTI rfl ?_)))
  show wpAny _ _ (Builtin.SmallTypes.ownedTupleIsFree (.ref z) >>= _) _ _ _; refine wpAny_bind (free_any hz ho ?_ fun g0 hz0 sb0 => ?_)
  · simp only [if_true]; refine wpAny_bind (wpAny_rule (wpAny_bind (wpAny_field hz rfl (x := .ref TO) rfl (wpAny_bind (wpAny_setField_rec hz (by simp) fun g0 hz0 sb0 => ?_)))))
    replace sb0 : Heap.SameBut z hp g0 := sb0
    replace hz0 : ZipG g0 z TI TO .ellipsis f1 := hz0
    refine wpAny_bind ?_
    simp only [List.zipIdx_cons, List.zipIdx_nil, List.forIn_cons, List.forIn_nil]; refine wpAny_bind (wpAny_bind (wpAny_onRaise ?_))
    show wpAny _ _ (Builtin.SmallTypes.nextOf (.ref i1) >>= _) _ _ ⟨g0, gn, dn, tk0, os⟩
    refine wpAny_bind (D1.item i _ _ _ l1 (D1.over st1 sb0 S.zf1) fun x1 p1 tk1 e1 sn1 sb1 => wpAny_pure ?_)
    replace sb1 : Heap.SameBut i1 g0 p1 := sb1
    have t1 : IsTupOf2 p1 TO a1 a2 := sb1.extBut _ _ S.Ti1 (sb0.extBut _ _ S.TOz hTO)
    refine wpAny_bind (wpAny_seqItems (s := ⟨p1, gn, dn, tk1, os⟩) t1 rfl (wpAny_bind (updateSeq_IsTupOf2 (s := ⟨p1, gn, dn, tk1, os⟩) t1 fun g1 t2 sb2 => ?_)))
    replace t2 : IsTupOf2 g1 TO x1 a2 := t2
    replace sb2 : Heap.SameBut TO p1 g1 := sb2
    refine wpAny_bind (wpAny_letGo (wpAny_pure (wpAny_bind (wpAny_bind (wpAny_onRaise ?_)))))
    show wpAny _ _ (Builtin.SmallTypes.nextOf (.ref i2) >>= _) _ _ ⟨g1, gn, dn, tk1, os⟩
    refine wpAny_bind (D2.item i _ _ _ l2 (D2.over (D2.over (D2.over st2 sb0 S.zf2) sb1 S.sep1_2) sb2 S.Tf2) fun x2 p2 tk2 e2 sn2 sb3 => wpAny_pure ?_)
    replace sb3 : Heap.SameBut i2 g1 p2 := sb3
    have t3 : IsTupOf2 p2 TO x1 a2 := sb3.extBut _ _ S.Ti2 t2
    refine wpAny_bind (wpAny_seqItems (s := ⟨p2, gn, dn, tk2, os⟩) t3 rfl (wpAny_bind (updateSeq_IsTupOf2 (s := ⟨p2, gn, dn, tk2, os⟩) t3 fun g2 t4 sb4 => ?_)))
    replace t4 : IsTupOf2 g2 TO x1 x2 := t4
    replace sb4 : Heap.SameBut TO p2 g2 := sb4
    refine wpAny_bind (wpAny_letGo (wpAny_pure (wpAny_pure (wpAny_bind (wpAny_seqItems (s := ⟨g2, gn, dn, tk2, os⟩) t4 rfl (wpAny_bind (wpAny_newTuple ?_)))))))
    have sz : g2.objs.size = hp.objs.size := by rw [sb4.1, sb3.1, sb2.1, sb1.1, sb0.1]
    have zz : ZipG g2 z TI TO .ellipsis f1 := sb4.extBut _ _ S.TOz.symm (sb3.extBut _ _ S.zi2 (sb2.extBut _ _ S.TOz.symm (sb1.extBut _ _ S.zi1 hz0)))
    have kk : ∀ c o, c ≠ z → c ≠ TO → c ≠ i1 → c ≠ i2 → hp.get? c = some o → g2.get? c = some o := fun c o n1 n2 n3 n4 e => sb4.extBut _ _ n2 (sb3.extBut _ _ n4 (sb2.extBut _ _ n2 (sb1.extBut _ _ n3 (sb0.extBut _ _ n1 e))))
    have j1 : St1 (i + 1) g2 := D1.over (D1.over (D1.over sn1 sb2 S.Tf1) sb3 S.sep2_1) sb4 S.Tf1
    have j2 : St2 (i + 1) g2 := D2.over sn2 sb4 S.Tf2
    have zl : z < g2.objs.size := Heap.lt_size zz
    obtain ⟨g3, eg3⟩ : ∃ g3, g3 = g2.push { cls := .type "tuple", data := .seq #[x1, x2] } := ⟨_, rfl⟩
    show wpAny _ _ (Builtin.SmallTypes.ownedTupleHandOut (.ref z) (.ref g2.objs.size) >>= _) _ _ ⟨g2.push { cls := .type "tuple", data := .seq #[x1, x2] }, gn, dn, tk2, os⟩
    rw [← eg3]
    have pu : ∀ c o, g2.get? c = some o → g3.get? c = some o := fun c o e => by rw [eg3]; exact Heap.get?_push_of_some _ e
    have nw : IsTupOf2 g3 g2.objs.size x1 x2 := by rw [eg3]; exact Heap.get?_push_size _ rfl
    have ps : g3.objs.size = g2.objs.size + 1 := by rw [eg3, Heap.size_push]
    refine wpAny_bind ?_
    unfold Builtin.SmallTypes.ownedTupleHandOut
    refine wpAny_bind (wpAny_setField_rec (s := ⟨g3, gn, dn, tk2, os⟩) (pu _ _ zz) (by simp) fun g4 z4 sb5 => wpAny_setField_rec (s := ⟨g4, gn, dn, tk2, os⟩) z4 (by simp) fun g5 z5 sb6 => wpAny_pure ⟨_, rfl, ?_⟩)
    replace z5 : ZipG g5 z TI TO (rawInt g2.objs.size) false := z5
    replace sb5 : Heap.SameBut z g3 g4 := sb5
    replace sb6 : Heap.SameBut z g4 g5 := sb6
    have up : ∀ c o, c ≠ z → g2.get? c = some o → g5.get? c = some o := fun c o n e => sb6.extBut _ _ n (sb5.extBut _ _ n (pu _ _ e))
    have nw5 : IsTupOf2 g5 g2.objs.size x1 x2 := sb6.extBut _ _ (Nat.ne_of_gt zl) (sb5.extBut _ _ (Nat.ne_of_gt zl) nw)
    have s5 : g5.objs.size = g2.objs.size + 1 := by rw [sb6.1, sb5.1, ps]
    show Q (.ref g2.objs.size) ⟨g5, gn, dn, tk2, os⟩
    rw [sz] at z5 nw5 s5 ⊢
    exact hQ x1 x2 g5 tk2 e1 e2 ⟨_, _, .inr ⟨_, rfl⟩, z5⟩ ⟨_, _, up _ _ S.TOz t4⟩ (D1.frame _ _ _ j1 fun b hb o e => up b o (fun q => S.zf1 (q ▸ hb)) e) (D2.frame _ _ _ j2 fun b hb o e => up b o (fun q => S.zf2 (q ▸ hb)) e) nw5 s5 fun c o n1 n2 n3 n4 e => up c o n1 (kk c o n1 n2 n3 n4 e)
  · replace sb0 : Heap.SameBut z hp g0 := sb0
    simp only [Bool.false_eq_true, if_false]; refine wpAny_bind ?_
    rw [← Array.forIn_toList]; simp only [List.forIn_cons, List.forIn_nil]; refine wpAny_bind (wpAny_bind (wpAny_holding ?_))
    show wpAny _ _ (Builtin.SmallTypes.nextOf (.ref i1) >>= _) _ _ ⟨g0, gn, dn, tk0, os⟩
    refine wpAny_bind (D1.item i _ _ _ l1 (D1.over st1 sb0 S.zf1) fun x1 p1 tk1 e1 sn1 sb1 => wpAny_pure (wpAny_pure (wpAny_bind (wpAny_bind (wpAny_holding ?_)))))
    replace sb1 : Heap.SameBut i1 g0 p1 := sb1
    show wpAny _ _ (Builtin.SmallTypes.nextOf (.ref i2) >>= _) _ _ ⟨p1, gn, dn, tk1, os⟩
    refine wpAny_bind (D2.item i _ _ _ l2 (D2.over (D2.over st2 sb0 S.zf2) sb1 S.sep1_2) fun x2 p2 tk2 e2 sn2 sb2 => wpAny_pure (wpAny_pure (wpAny_pure ?_)))
    replace sb2 : Heap.SameBut i2 p1 p2 := sb2
    show wpAny _ _ (newTuple [x1, x2] >>= _) _ _ ⟨p2, gn, dn, tk2, os⟩
    refine wpAny_bind (wpAny_newTuple (wpAny_pure ⟨_, rfl, ?_⟩))
    have sz : p2.objs.size = hp.objs.size := by rw [sb2.1, sb1.1, sb0.1]
    obtain ⟨g3, eg3⟩ : ∃ g3, g3 = p2.push { cls := .type "tuple", data := .seq #[x1, x2] } := ⟨_, rfl⟩
    show Q (.ref p2.objs.size) ⟨p2.push { cls := .type "tuple", data := .seq #[x1, x2] }, gn, dn, tk2, os⟩
    rw [← eg3]
    have pu : ∀ c o, p2.get? c = some o → g3.get? c = some o := fun c o e => by rw [eg3]; exact Heap.get?_push_of_some _ e
    have nw : IsTupOf2 g3 p2.objs.size x1 x2 := by rw [eg3]; exact Heap.get?_push_size _ rfl
    have ps : g3.objs.size = p2.objs.size + 1 := by rw [eg3, Heap.size_push]
    have zz : ZipG g3 z TI TO f0 true := pu _ _ (sb2.extBut _ _ S.zi2 (sb1.extBut _ _ S.zi1 hz0))
    rw [sz] at nw ps ⊢
    exact hQ x1 x2 g3 tk2 e1 e2 ⟨_, _, ho, zz⟩ ⟨_, _, pu _ _ (sb2.extBut _ _ S.Ti2 (sb1.extBut _ _ S.Ti1 (sb0.extBut _ _ S.TOz hTO)))⟩ (D1.frame _ _ _ (D1.over sn1 sb2 S.sep2_1) fun b hb o e => pu b o e) (D2.frame _ _ _ sn2 fun b hb o e => pu b o e) nw ps
      fun c o n1 n2 n3 n4 e => pu _ _ (sb2.extBut _ _ n4 (sb1.extBut _ _ n3 (sb0.extBut _ _ n1 e)))
theorem zipG_end {Q : Fin → Shared → Prop} (S : ZipSep2 z TI TO i1 i2 fp1 fp2) (D1 : Draws prog w A i1 fp1 n1 P1 St1) (D2 : Draws prog w A i2 fp2 n1 P2 St2) (hz : ZipG s.heap z TI TO f0 f1) (ho : OutF f0)
    (hTI : IsTupOf2 s.heap TI (.ref i1) (.ref i2)) (st1 : St1 n1 s.heap)
    (hE : ∀ h' tk e, (∀ c o, c ≠ z → c ≠ TO → c ≠ i1 → c ≠ i2 → s.heap.get? c = some o → h'.get? c = some o) → (∃ o, h'.get? e = some o ∧ o.cls = .type "StopIteration") → E (.ref e) { s with heap := h', toks := tk }) :
    wpAny (model prog w) A (Builtin.«zip.__next__» ⟨[.ref z], []⟩) Q E s := by
  obtain ⟨hp, gn, dn, tk0, os⟩ := s
  show wpAny _ _ (field (.ref z) 2 >>= _) _ _ _; refine wpAny_bind (wpAny_field hz rfl (x := .bool false) rfl ?_)
  show wpAny _ _ (field (.ref z) 3 >>= _) _ _ _; refine wpAny_bind (wpAny_field hz rfl (x := .ref TI) rfl (wpAny_bind (wpAny_seqItems hTI rfl ?_)))
  show wpAny _ _ (Builtin.SmallTypes.ownedTupleIsFree (.ref z) >>= _) _ _ _; refine wpAny_bind (free_any hz ho ?_ fun g0 hz0 sb0 => ?_)
  · simp only [if_true]; refine wpAny_bind (wpAny_rule (wpAny_bind (wpAny_field hz rfl (x := .ref TO) rfl (wpAny_bind (wpAny_setField_rec hz (by simp) fun g0 hz0 sb0 => ?_)))))
    replace sb0 : Heap.SameBut z hp g0 := sb0
    replace hz0 : ZipG g0 z TI TO .ellipsis f1 := hz0
    refine wpAny_bind ?_
    simp only [List.zipIdx_cons, List.zipIdx_nil, List.forIn_cons, List.forIn_nil]; refine wpAny_bind (wpAny_bind (wpAny_onRaise ?_))
    show wpAny _ _ (Builtin.SmallTypes.nextOf (.ref i1) >>= _) _ _ ⟨g0, gn, dn, tk0, os⟩
    refine wpAny_bind (D1.done ⟨g0, gn, dn, tk0, os⟩ _ _ (D1.over st1 sb0 S.zf1) fun q e sb1 he => ?_)
    replace sb1 : Heap.ExtBut i1 g0 q := sb1
    obtain ⟨oe, hoe, hce⟩ := he
    replace hoe : q.get? e = some oe := hoe
    have zq : ZipG q z TI TO .ellipsis f1 := sb1 _ _ S.zi1 hz0
    have ez : e ≠ z := fun x => by subst x; rw [zq] at hoe; cases hoe; simp at hce
    refine wpAny_setField_rec (s := ⟨q, gn, dn, tk0, os⟩) zq (by simp) fun q2 _ sb2 => ?_
    replace sb2 : Heap.SameBut z q q2 := sb2
    exact hE q2 tk0 e (fun c o n1 n2 n3 n4 x => sb2.extBut _ _ n1 (sb1 _ _ n3 (sb0.extBut _ _ n1 x))) ⟨oe, sb2.extBut _ _ ez hoe, hce⟩
  · replace sb0 : Heap.SameBut z hp g0 := sb0
    simp only [Bool.false_eq_true, if_false]; refine wpAny_bind ?_
    rw [← Array.forIn_toList]; simp only [List.forIn_cons, List.forIn_nil]; refine wpAny_bind (wpAny_bind (wpAny_holding ?_))
    show wpAny _ _ (Builtin.SmallTypes.nextOf (.ref i1) >>= _) _ _ ⟨g0, gn, dn, tk0, os⟩
    refine wpAny_bind (D1.done ⟨g0, gn, dn, tk0, os⟩ _ _ (D1.over st1 sb0 S.zf1) fun q e sb1 he => ?_)
    exact hE q tk0 e (fun c o n1 n2 n3 n4 x => sb1 _ _ n3 (sb0.extBut _ _ n1 x)) he
end
end WC

set_option maxHeartbeats 4000000
namespace WC
open PySem PySem.Spec PyProof.Rows L2
section
variable {prog : Program} {w : World} {A : Around} {E : Value → Shared → Prop} {s : Shared} {e z TI TO i1 i2 : Addr} {fp1 fp2 : List Addr} {n1 n2 i : Nat} {P1 P2 : Nat → Value → Prop} {St1 St2 : Nat → Heap → Prop} {a1 a2 : Value} {f0 : Value} {f1 : Bool} {c : Int} {old : Value}
theorem enumZ_item {Q : Option Value → Shared → Prop} (S : ZipSep2 z TI TO i1 i2 fp1 fp2) (D1 : Draws prog w A.in1.in1 i1 fp1 n1 P1 St1) (D2 : Draws prog w A.in1.in1 i2 fp2 n2 P2 St2) (he : IsEnum s.heap e z c old) (hz : ZipG s.heap z TI TO f0 f1) (ho : OutF f0)
    (hTI : IsTupOf2 s.heap TI (.ref i1) (.ref i2)) (hTO : IsTupOf2 s.heap TO a1 a2) (st1 : St1 i s.heap) (st2 : St2 i s.heap) (l1 : i < n1) (l2 : i < n2) (ez : e ≠ z) (eI : e ≠ TI) (eO : e ≠ TO) (e1 : e ∉ fp1) (e2 : e ∉ fp2)
    (hQ : ∀ x1 x2 h' tk, P1 i x1 → P2 i x2 → IsEnumOut h' e z (c + 1) (.ref s.heap.objs.size) (s.heap.objs.size + 1) → ZipAny h' z TI TO → IsTupOf2 h' TI (.ref i1) (.ref i2) → (∃ b1 b2, IsTupOf2 h' TO b1 b2) → St1 (i + 1) h' → St2 (i + 1) h' → IsTupOf2 h' s.heap.objs.size x1 x2 →
      h'.get? (s.heap.objs.size + 1) = some { cls := .type "tuple", data := .seq #[.int c tk, .ref s.heap.objs.size] } →
      (∀ b o, b ≠ e → b ≠ z → b ≠ TO → b ≠ i1 → b ≠ i2 → s.heap.get? b = some o → h'.get? b = some o) → Q (some (.ref (s.heap.objs.size + 1))) { s with heap := h', toks := tk + 1 }) :
    wpAny (model prog w) A (pyNext (.ref e)) Q E s := by
  have hT : s.TypeIs (.ref e) "enumerate" := ⟨_, he, rfl⟩
  have hTz : s.TypeIs (.ref z) "zip" := ⟨_, hz, rfl⟩
  have ei1 : e ≠ i1 := fun q => e1 (q ▸ S.mem1)
  have ei2 : e ≠ i2 := fun q => e2 (q ▸ S.mem2)
  unfold pyNext
  refine wpAny_bind (wpAny_attempt (wpAny_callSpecial?_slot (name := Str.ofString "__next__") hT F.slot_enumerate_next (wpAny_call_entry F.slot_enumerate_next hT F.entry_enumerate_next ?_ (F.args_enumerate_next_1 _))))
  obtain ⟨hp, gn, dn, tk0, os⟩ := s
  show wpAny _ _ (field (.ref e) 2 >>= _) _ _ _; refine wpAny_bind (wpAny_field he rfl (x := .ref z) rfl (wpAny_bind ?_))
  unfold Builtin.SmallTypes.nextOf
  refine wpAny_bind (wpAny_callSpecial?_slot (name := Str.ofString "__next__") hTz F.slot_zip_next (wpAny_call_entry F.slot_zip_next hTz F.entry_zip_next ?_ (F.args_zip_next_1 _)))
  refine zipG_item S D1 D2 hz ho hTI hTO st1 st2 l1 l2 fun x1 x2 h1 tk q1 q2 za zo sn1 sn2 nw sz kk => ?_
  have he1 : IsEnum h1 e z c old := kk _ _ ez eO ei1 ei2 he
  refine wpAny_pure ?_
  show wpAny _ _ (field (.ref e) 3 >>= _) _ _ ⟨h1, gn, dn, tk, os⟩; refine wpAny_bind (wpAny_field he1 rfl (x := rawInt c) rfl ?_)
  show wpAny _ _ (field (.ref e) 4 >>= _) _ _ ⟨h1, gn, dn, tk, os⟩; refine wpAny_bind (wpAny_field he1 rfl (x := .none) rfl ?_)
  show wpAny _ _ (mkInt c >>= _) _ _ ⟨h1, gn, dn, tk, os⟩; refine wpAny_bind (wpAny_mkInt ?_)
  show wpAny _ _ (setField (.ref e) 3 (rawInt (c + 1)) >>= _) _ _ ⟨h1, gn, dn, tk + 1, os⟩; refine wpAny_bind (wpAny_setField_rec he1 (by simp) fun h2 he2 b2 => ?_)
  replace b2 : Heap.SameBut e h1 h2 := b2
  replace he2 : IsEnum h2 e z (c + 1) old := he2
  show wpAny _ _ (setField (.ref e) 4 .none >>= _) _ _ ⟨h2, gn, dn, tk + 1, os⟩; refine wpAny_bind (wpAny_setField_rec he2 (by simp) fun h3 he3 b3 => ?_)
  replace b3 : Heap.SameBut e h2 h3 := b3
  replace he3 : IsEnum h3 e z (c + 1) old := he3
  show wpAny _ _ (newTuple [.int c tk, .ref hp.objs.size] >>= _) _ _ ⟨h3, gn, dn, tk + 1, os⟩; refine wpAny_bind (wpAny_newTuple ?_)
  obtain ⟨h4, e4⟩ : ∃ h4, h4 = h3.push { cls := .type "tuple", data := .seq #[.int c tk, .ref hp.objs.size] } := ⟨_, rfl⟩
  have z3 : h3.objs.size = hp.objs.size + 1 := by rw [b3.1, b2.1]; exact sz
  have pu : ∀ b o, h3.get? b = some o → h4.get? b = some o := fun b o q => by rw [e4]; exact Heap.get?_push_of_some _ q
  have nT : h4.get? (hp.objs.size + 1) = some { cls := .type "tuple", data := .seq #[.int c tk, .ref hp.objs.size] } := by rw [e4, ← z3]; exact Heap.get?_push_size _ rfl
  have k4 : ∀ b o, b ≠ e → h1.get? b = some o → h4.get? b = some o := fun b o q x => pu _ _ (b3.extBut _ _ q (b2.extBut _ _ q x))
  have he4 : IsEnum h4 e z (c + 1) old := pu _ _ he3
  have elt : e < hp.objs.size := Heap.lt_size he
  show wpAny _ _ (Builtin.SmallTypes.ownedTupleIsFree (.ref e) >>= _) _ _ ⟨h3.push { cls := .type "tuple", data := .seq #[.int c tk, .ref hp.objs.size] }, gn, dn, tk + 1, os⟩
  rw [← e4, z3]
  refine wpAny_bind ?_
  unfold Builtin.SmallTypes.ownedTupleIsFree
  refine wpAny_bind (wpAny_field he4 rfl (x := .none) rfl (wpAny_pure ?_))
  simp only [if_true]; refine wpAny_bind (wpAny_rule (wpAny_bind (wpAny_field he4 rfl (x := old) rfl (wpAny_bind (wpAny_setField_rec he4 (by simp) fun h5 he5 b5 => ?_)))))
  replace b5 : Heap.SameBut e h4 h5 := b5
  replace he5 : IsEnum h5 e z (c + 1) (.ref hp.objs.size) := he5
  show wpAny _ _ (Builtin.SmallTypes.ownedTupleHandOut (.ref e) (.ref (hp.objs.size + 1)) >>= _) _ _ ⟨h5, gn, dn, tk + 1, os⟩; refine wpAny_bind ?_
  unfold Builtin.SmallTypes.ownedTupleHandOut
  refine wpAny_bind (wpAny_setField_rec (s := ⟨h5, gn, dn, tk + 1, os⟩) he5 (by simp) fun h6 he6 b6 => ?_)
  replace b6 : Heap.SameBut e h5 h6 := b6
  replace he6 : IsEnumOut h6 e z (c + 1) (.ref hp.objs.size) (hp.objs.size + 1) := he6
  refine wpAny_setField_rec (s := ⟨h6, gn, dn, tk + 1, os⟩) he6 (by simp) fun h7 he7 b7 => ?_
  replace b7 : Heap.SameBut e h6 h7 := b7
  replace he7 : IsEnumOut h7 e z (c + 1) (.ref hp.objs.size) (hp.objs.size + 1) := he7
  have k7 : ∀ b o, b ≠ e → h1.get? b = some o → h7.get? b = some o := fun b o q x => b7.extBut _ _ q (b6.extBut _ _ q (b5.extBut _ _ q (k4 _ _ q x)))
  have nN : e ≠ hp.objs.size := Nat.ne_of_lt elt
  have nM : hp.objs.size + 1 ≠ e := fun q => absurd (q ▸ elt) (Nat.not_lt.mpr (Nat.le_succ _))
  obtain ⟨g0, g1, gO, gz⟩ := za
  obtain ⟨b1', b2', gb⟩ := zo
  exact wpAny_bind (wpAny_letGo (wpAny_pure ⟨_, rfl, wpAny_pure (hQ x1 x2 h7 tk q1 q2 he7 ⟨g0, g1, gO, k7 _ _ (Ne.symm ez) gz⟩ (k7 _ _ (Ne.symm eI) (kk _ _ S.TIz S.TITO S.TIi1 S.TIi2 hTI)) ⟨_, _, k7 _ _ (Ne.symm eO) gb⟩ (D1.frame _ _ _ sn1 fun b hb o x => k7 b o (fun q => e1 (q ▸ hb)) x)
    (D2.frame _ _ _ sn2 fun b hb o x => k7 b o (fun q => e2 (q ▸ hb)) x) (k7 _ _ (Ne.symm nN) nw) (b7.extBut _ _ nM (b6.extBut _ _ nM (b5.extBut _ _ nM nT))) fun b o m1 m2 m3 m4 m5 x => k7 _ _ m1 (kk _ _ m2 m3 m4 m5 x))⟩))
theorem enumZ_end {Q : Option Value → Shared → Prop} (S : ZipSep2 z TI TO i1 i2 fp1 fp2) (D1 : Draws prog w A.in1.in1 i1 fp1 n1 P1 St1) (D2 : Draws prog w A.in1.in1 i2 fp2 n1 P2 St2) (he : IsEnum s.heap e z c old) (hz : ZipG s.heap z TI TO f0 f1) (ho : OutF f0)
    (hTI : IsTupOf2 s.heap TI (.ref i1) (.ref i2)) (st1 : St1 n1 s.heap)
    (hQ : ∀ h' tk, (∀ b o, b ≠ z → b ≠ TO → b ≠ i1 → b ≠ i2 → s.heap.get? b = some o → h'.get? b = some o) → Q none { s with heap := h', toks := tk }) : wpAny (model prog w) A (pyNext (.ref e)) Q E s := by
  have hT : s.TypeIs (.ref e) "enumerate" := ⟨_, he, rfl⟩
  have hTz : s.TypeIs (.ref z) "zip" := ⟨_, hz, rfl⟩
  unfold pyNext
  refine wpAny_bind (wpAny_attempt (wpAny_callSpecial?_slot (name := Str.ofString "__next__") hT F.slot_enumerate_next (wpAny_call_entry F.slot_enumerate_next hT F.entry_enumerate_next ?_ (F.args_enumerate_next_1 _))))
  show wpAny _ _ (field (.ref e) 2 >>= _) _ _ _; refine wpAny_bind (wpAny_field he rfl (x := .ref z) rfl (wpAny_bind ?_))
  unfold Builtin.SmallTypes.nextOf
  refine wpAny_bind (wpAny_callSpecial?_slot (name := Str.ofString "__next__") hTz F.slot_zip_next (wpAny_call_entry F.slot_zip_next hTz F.entry_zip_next ?_ (F.args_zip_next_1 _)))
  refine zipG_end S D1 D2 hz ho hTI st1 fun h' tk x kk hx => ?_
  obtain ⟨o, h1, h2⟩ := hx
  refine wpAny_bind (wpAny_isInstance (T := "StopIteration") (b := true) ⟨o, h1, h2⟩ isSubtype_stop ?_)
  exact wpAny_pure (hQ _ _ kk)
end
section
variable {prog : Program} {w : World} {A : Around} {E : Value → Shared → Prop} {s : Shared}
set_option maxHeartbeats 1000000 in
/-- enumerate(x), x its own iterator -/
theorem new_enumI {v : Value} {Hh : Heap → Prop} (hi : ∀ (prog : Program) (w : World) (A : Around) (E : Value → Shared → Prop) (s : Shared) (Q : Value → Shared → Prop), Hh s.heap → Q v s → wpAny (model prog w) A (pyIter v) Q E s) :
    Meets (Builtin.«enumerate.__new__» ⟨[.type "enumerate", v], []⟩) (fun _ R s => Hh s.heap ∧ R (.ok (.ret (.ref s.heap.objs.size))) { s with heap := s.heap.push { cls := .type "enumerate", data := .fields #[.none, .bool false, v, rawInt 0, .none, .none] } }) :=
  .of_wp fun prog w A R s h => by
    obtain ⟨hp, g, d, tk, os⟩ := s
    obtain ⟨h1, h⟩ := h
    have hsub := sub_enumerate
    have q1 : ∀ {A2 : Around} {E : Value → Shared → Prop} {Q : Value → Shared → Prop}, Q v ⟨hp, g, d, tk, os⟩ → wpAny (model prog w) A2 (pyIter v) Q E ⟨hp, g, d, tk, os⟩ := fun q => hi prog w _ _ ⟨hp, g, d, tk, os⟩ _ h1 q
    wp_walk using q1
    refine wpAny_stack_any fun st => wpAny_pure ?_
    split
    · rename_i c _ _ _ _ _
      cases (c == Value.type "enumerate") <;> (wp_walk using q1; exact ⟨_, rfl, h⟩)
    · wp_walk using q1
      exact ⟨_, rfl, h⟩
theorem enumI_begins {v : Addr} {Hh : Heap → Prop} {Q : Value → Shared → Prop} (hi : ∀ (prog : Program) (w : World) (A : Around) (E : Value → Shared → Prop) (s : Shared) (Q : Value → Shared → Prop), Hh s.heap → Q (.ref v) s → wpAny (model prog w) A (pyIter (.ref v)) Q E s) (h1 : Hh s.heap)
    (h : ∀ h2, IsEnum h2 s.heap.objs.size v 0 .none → (∀ b u, s.heap.get? b = some u → h2.get? b = some u) → Q (.ref s.heap.objs.size) { s with heap := h2 }) : wpAny (model prog w) A (call (.type "enumerate") [.ref v]) Q E s := by
  refine callType_new F.called_enumerate (by decide) (F.typeCall_enumerate_1 _) (F.newCall_enumerate_1 _) (fun obj => F.args_object_init_2 obj _) F.entry_enumerate_new (new_enumI hi) ⟨h1, ?_⟩
  have he : IsEnum (s.heap.push { cls := .type "enumerate", data := .fields #[.none, .bool false, .ref v, rawInt 0, .none, .none] }) s.heap.objs.size v 0 .none := Heap.get?_push_size _ rfl
  exact ⟨⟨_, he, rfl⟩, h _ he fun b u x => Heap.get?_push_of_some _ x⟩
end
end WC

set_option maxHeartbeats 4000000
namespace WC
open PySem PySem.Spec PyProof.Rows L2
def ItEZ (K : PySem.W.Frag) (k1 k2 : Bool) (a b : Addr) : It :=
  ⟨fun i H => ∃ (xs ys : List V) (x y : V), SqX K H k1 a xs ∧ SqX K H k2 b ys ∧ xs[i]? = some x ∧ ys[i]? = some y,
    fun i H v H' => ∃ T1 T2 x y, v = .ref T2 ∧ H T1 = none ∧ H T2 = none ∧ T1 ≠ T2 ∧ H' = upd (upd H T1 (.tup [x, y])) T2 (.tup [.int (i : Nat), .ref T1]) ∧ (∀ xs, SqX K H k1 a xs → xs[i]? = some x) ∧ ∀ ys, SqX K H k2 b ys → ys[i]? = some y,
    fun i H => ∃ xs ys : List V, SqX K H k1 a xs ∧ SqX K H k2 b ys ∧ xs.length = i ∧ ys.length = i⟩
structure EzP (e z TI TO i1 i2 a b : Addr) : Prop where
  s : ZipSep2 z TI TO i1 i2 [i1, a] [i2, b]
  n1 : a ≠ i1
  n2 : b ≠ i2
  ez : e ≠ z
  eI : e ≠ TI
  eO : e ≠ TO
  e1 : e ∉ [i1, a]
  e2 : e ∉ [i2, b]
theorem six_mem {e z TI TO i1 i2 : Addr} {c : Addr} (h : c ∈ [e, z, TI, TO, i1, i2]) : c = e ∨ c = z ∨ c = TI ∨ c = TO ∨ c = i1 ∨ c = i2 := by simpa using h
theorem turn_ez {P : Program} {w : World} {K : PySem.W.Frag} {elts : List Expr} {kk : Nat} {tpos : Pos} {k1 k2 : Bool} {a b e z TI TO i1 i2 : Addr} (D : EzP e z TI TO i1 i2 a b) :
    Turn P w K (.Tuple elts kk tpos) (ItEZ K k1 k2 a b) [e, z, TI, TO, i1, i2] e (fun i h => (∃ old, IsEnum h e z ((i : Nat) : Int) old) ∧ ZipAny h z TI TO ∧ IsTupOf2 h TI (.ref i1) (.ref i2) ∧ (∃ x y, IsTupOf2 h TO x y) ∧ ItX h k1 i1 a i ∧ ItX h k2 i2 b i) where
  mem := by simp
  obj := fun i h st c hc => by
    obtain ⟨⟨old, he⟩, ⟨f0, f1, _, hz⟩, hTI, ⟨x, y, hTO⟩, h1, h2⟩ := st
    obtain ⟨o1, e1, d1, _⟩ := itx_obj h1
    obtain ⟨o2, e2, d2, _⟩ := itx_obj h2
    rcases six_mem hc with q | q | q | q | q | q <;> rw [q]
    · exact ⟨_, he, fun v q => nomatch q⟩
    · exact ⟨_, hz, fun v q => nomatch q⟩
    · exact ⟨_, hTI, fun v q => nomatch q⟩
    · exact ⟨_, hTO, fun v q => nomatch q⟩
    · exact ⟨o1, e1, d1⟩
    · exact ⟨o2, e2, d2⟩
  keep := fun i h h' st k => by
    obtain ⟨⟨old, he⟩, ⟨f0, f1, fo, hz⟩, hTI, ⟨x, y, hTO⟩, h1, h2⟩ := st
    exact ⟨⟨old, k e (by simp) _ he⟩, ⟨f0, f1, fo, k z (by simp) _ hz⟩, k TI (by simp) _ hTI, ⟨x, y, k TO (by simp) _ hTO⟩, itx_at h1 fun o q => k i1 (by simp) o q, itx_at h2 fun o q => k i2 (by simp) o q⟩
  item := by
    intro X hP hw hK hc i pins s σ H E I hf st hg
    subst hP hw hK
    obtain ⟨⟨old, he⟩, ⟨f0, f1, fo, hz⟩, hTI, ⟨x0, y0, hTO⟩, h1, h2⟩ := st
    obtain ⟨xs, ys, x, y, hqx, hqy, hx, hy⟩ := hg
    obtain ⟨its, rv, p⟩ := sqx_is I hqx
    obtain ⟨its2, rv2, p2⟩ := sqx_is I hqy
    obtain ⟨u, hu, ru⟩ := rv.get hx
    obtain ⟨u2, hu2, ru2⟩ := rv2.get hy
    have S := D.s
    have hl1 : i < its.toArray.size := by have := (List.getElem?_eq_some_iff.mp hu).1; simpa using this
    have hl2 : i < its2.toArray.size := by have := (List.getElem?_eq_some_iff.mp hu2).1; simpa using this
    have hcal : X.A.in1.in1.handled = none := I.ok.hd hc
    refine enumZ_item S (drX hcal k1 i1 a D.n1 its.toArray) (drX hcal k2 i2 b D.n2 its2.toArray) he hz fo hTI hTO ⟨h1, p⟩ ⟨h2, p2⟩ hl1 hl2 D.ez D.eI D.eO D.e1 D.e2 fun v1 v2 h' tk e1 e2 eo za TI' TO' h1' h2' hN hM hk => ?_
    have e1 : its[i]? = some v1 := by simpa using e1
    have e2 : its2[i]? = some v2 := by simpa using e2
    rw [hu] at e1; cases e1
    rw [hu2] at e2; cases e2
    have S1 := S.zi1
    have elt : e < s.heap.objs.size := Heap.lt_size he
    refine ⟨_, rfl, wpAny_letOwnedTupleGo_enum (s := { s with heap := h', toks := tk + 1 }) eo fun h'' he'' sb => ?_⟩
    have hN2 : h''.get? s.heap.objs.size = some { cls := .type "tuple", data := .seq #[u, u2] } := (sb.2 _ (Nat.ne_of_gt elt)).trans hN
    have nM : s.heap.objs.size + 1 ≠ e := fun q => absurd (q ▸ elt) (Nat.not_lt.mpr (Nat.le_succ _))
    have hM2 : h''.get? (s.heap.objs.size + 1) = some { cls := .type "tuple", data := .seq #[.int i tk, .ref s.heap.objs.size] } := (sb.2 _ nM).trans hM
    have kp : ∀ c o, c ∉ [e, z, TI, TO, i1, i2] → s.heap.get? c = some o → h''.get? c = some o := fun c o hb q =>
      (sb.2 c fun q' => hb (by simp [q'])).trans (hk c o (fun q' => hb (by simp [q'])) (fun q' => hb (by simp [q'])) (fun q' => hb (by simp [q'])) (fun q' => hb (by simp [q'])) (fun q' => hb (by simp [q'])) q)
    obtain ⟨N, eN⟩ : ∃ N, N = s.heap.objs.size := ⟨_, rfl⟩
    have fr : ∀ {c}, N ≤ c → H c = none := fun q => I.hok.fresh (by rw [← eN]; exact q)
    rw [← eN] at hN2 hM2
    obtain ⟨G, g1, g2⟩ := restrict h'' fun c => decide (c ≠ N + 1)
    have gN : G.get? N = some { cls := .type "tuple", data := .seq #[u, u2] } := (g1 N (decide_eq_true (Nat.ne_of_lt (Nat.lt_succ_self N)))).trans hN2
    have gu : ∀ c o, G.get? c = some o → h''.get? c = some o := fun c o q => by
      by_cases ec : c = N + 1
      · rw [g2 c (by simp [ec])] at q; cases q
      · rw [← g1 c (decide_eq_true ec)]; exact q
    have kG : ∀ c o, c ∉ [e, z, TI, TO, i1, i2] → s.heap.get? c = some o → G.get? c = some o := fun c o hb q => by
      have lt := Heap.lt_size q
      rw [← eN] at lt
      rw [g1 c (decide_eq_true (Nat.ne_of_lt (Nat.lt_succ_of_lt lt)))]
      exact kp c o hb q
    have new1 : ObjOk X.prog X.w (upd H N (.tup [x, y])) G N (.tup [x, y]) := ⟨by show 2 ≤ sizeLine; decide, [u, u2], .cons ru (.cons ru2 .nil), ⟨_, gN, rfl, _, rfl⟩⟩
    have I1 : Inv X pins σ (upd H N (.tup [x, y])) { s with heap := G, toks := tk + 1 } := I.turnedNew (t' := tk + 1) (ch := [e, z, TI, TO, i1, i2]) kG hf (by rw [eN]; exact Nat.le_refl _) new1
    have n1N : N ≠ N + 1 := Nat.ne_of_lt (Nat.lt_succ_self N)
    have hn1 : upd H N (.tup [x, y]) (N + 1) = none := by rw [upd_ne (Ne.symm n1N)]; exact fr (Nat.le_succ N)
    have new2 : ObjOk X.prog X.w (upd (upd H N (.tup [x, y])) (N + 1) (.tup [.int (i : Nat), .ref N])) h'' (N + 1) (.tup [.int (i : Nat), .ref N]) :=
      ⟨by show 2 ≤ sizeLine; decide, [.int i tk, .ref N], .cons ⟨_, rfl⟩ (.cons rfl .nil), ⟨_, hM2, rfl, _, rfl⟩⟩
    have I2 : Inv X pins σ (upd (upd H N (.tup [x, y])) (N + 1) (.tup [.int (i : Nat), .ref N])) { s with heap := h'', toks := tk + 1 } := I1.laidN (t' := tk + 1) gu (g2 _ (by simp)) hn1 new2
    refine ⟨.ref (N + 1), _, I2, by rw [← eN]; rfl, ⟨N, N + 1, x, y, rfl, fr (Nat.le_refl _), fr (Nat.le_succ N), n1N, rfl, fun l hl => by rw [sqx_inj I hl hqx]; exact hx, fun l hl => by rw [sqx_inj I hl hqy]; exact hy⟩, ⟨⟨.ref s.heap.objs.size, ?_⟩, ?_, ?_, ?_, ?_, ?_⟩, fun c hcm => ?_⟩
    · have q1 : ((i + 1 : Nat) : Int) = (i : Int) + 1 := by omega
      rw [q1]
      exact he''
    · obtain ⟨t0, t1, to, tz⟩ := za
      exact ⟨t0, t1, to, (sb.2 _ (Ne.symm D.ez)).trans tz⟩
    · exact (sb.2 _ (Ne.symm D.eI)).trans TI'
    · obtain ⟨t0, t1, tz⟩ := TO'
      exact ⟨t0, t1, (sb.2 _ (Ne.symm D.eO)).trans tz⟩
    · exact itx_at h1'.1 fun o q => (sb.2 _ fun q' => D.e1 (by simp [q'])).trans q
    · exact itx_at h2'.1 fun o q => (sb.2 _ fun q' => D.e2 (by simp [q'])).trans q
    · have hlt : c < N := by
        rw [eN]
        rcases six_mem hcm with q | q | q | q | q | q <;> rw [q]
        · exact elt
        · exact Heap.lt_size hz
        · exact Heap.lt_size hTI
        · exact Heap.lt_size hTO
        · obtain ⟨_, e1, _⟩ := itx_obj h1; exact Heap.lt_size e1
        · obtain ⟨_, e2, _⟩ := itx_obj h2; exact Heap.lt_size e2
      rw [upd_ne (Nat.ne_of_lt (Nat.lt_succ_of_lt hlt)), upd_ne (Nat.ne_of_lt hlt)]
      exact (hf c hcm).1
  done := by
    intro X hP hw hK hc i pins s σ H E I hf st hg
    subst hP hw hK
    obtain ⟨⟨old, he⟩, ⟨f0, f1, fo, hz⟩, hTI, ⟨x0, y0, hTO⟩, h1, h2⟩ := st
    obtain ⟨xs, ys, hqx, hqy, g1, g2⟩ := hg
    obtain ⟨its, rv, p⟩ := sqx_is I hqx
    obtain ⟨its2, rv2, p2⟩ := sqx_is I hqy
    have l1 : its.toArray.size = i := by have := rv.length; simp; omega
    have l2 : its2.toArray.size = i := by have := rv2.length; simp; omega
    have hcal : X.A.in1.in1.handled = none := I.ok.hd hc
    have D1 := drX (prog := X.prog) (w := X.w) hcal k1 i1 a D.n1 its.toArray
    have D2 := drX (prog := X.prog) (w := X.w) hcal k2 i2 b D.n2 its2.toArray
    rw [l1] at D1
    rw [l2] at D2
    refine enumZ_end D.s D1 D2 he hz fo hTI ⟨h1, p⟩ fun h' tk hk => ⟨rfl, I.turnedL (t' := tk) (ch := [e, z, TI, TO, i1, i2]) (fun c o hb q => ?_) hf⟩
    exact hk c o (fun q' => hb (by simp [q'])) (fun q' => hb (by simp [q'])) (fun q' => hb (by simp [q'])) (fun q' => hb (by simp [q'])) q
  self := fun A i s Q E st h => let ⟨⟨_, he⟩, _⟩ := st; wpAny_pyIter_enum he h
def iEZ (K : PySem.W.Frag) (ta : TA) : TI := fun σ H R => ta σ H fun vs H1 => ∃ a b xs ys k1 k2, vs = [.ref a, .ref b] ∧ SqX K H1 k1 a xs ∧ SqX K H1 k2 b ys ∧ R (ItEZ K k1 k2 a b) H1
theorem pi_ez {X : Cx} {e e2 : Expr} {ta : TA} {p p2 pos pos2 tpos : Pos} {elts : List Expr} {kk : Nat} (hme : X.mg "enumerate" = none) (hm : X.mg "zip" = none) (ha : PA X [e, e2] ta) (hge : Gl X "enumerate" := by rfl) (hg : Gl X "zip" := by rfl)
    (hse : starEach [Expr.Call (.Name "zip" p2) [e, e2] [] pos2] X.env = [(false, eval (.Call (.Name "zip" p2) [e, e2] [] pos2) X.env)] := by rfl) (hs : starEach [e, e2] X.env = (false, eval e X.env) :: starEach [e2] X.env := by rfl) (hpl : (backTo pos2 (starEach [e2] X.env)).any (·.1) = false := by rfl) :
    PI X (.Tuple elts kk tpos) (.Call (.Name "enumerate" p) [.Call (.Name "zip" p2) [e, e2] [] pos2] [] pos) (iEZ X.K ta) := by
  refine ⟨fun pins s σ H R I h => Call_ (ld_blt I hge hme boot_enumerate (PyProof.Rows.callWith_type1 ?_ hse rfl))⟩
  rw [hse]
  show wpAny _ _ (spliced ((false, eval (.Call (.Name "zip" p2) [e, e2] [] pos2) X.env) :: [])) _ _ s
  refine Calls.spliced_cons ?_
  refine Call_ (ld_blt I hg hm PyProof.Rows.boot_zip (PyProof.Rows.callWith_type1 (thn (ha.run pos2 pins s σ H _ I h) fun us s1 ⟨vs, H1, I1, r1, q1⟩ => ?_) hs hpl))
  obtain ⟨a, b, xs, ys, k1, k2, ex, hqx, hqy, q⟩ := q1
  subst ex
  obtain ⟨u1, u2, rfl, ra, rb⟩ : ∃ u1 u2, us = [u1, u2] ∧ RelV (.ref a) u1 ∧ RelV (.ref b) u2 := by
    cases r1 with
    | cons r rr =>
      cases rr with
      | cons r' rr =>
        cases rr
        exact ⟨_, _, rfl, r, r'⟩
  cases ra
  cases rb
  obtain ⟨its, rv, p1⟩ := sqx_is I1 hqx
  obtain ⟨its2, rv2, p2⟩ := sqx_is I1 hqy
  obtain ⟨o1, B1, g1⟩ := begX k1 a its.toArray
  obtain ⟨o2, B2, g2⟩ := begX k2 b its2.toArray
  have l1 := isx_lt p1
  have l2 := isx_lt p2
  refine zip_begins2 B1 B2 p1 p2 fun h' hz hTI hTO ho1 ho2 hsz hk => Calls.spliced_nil ?_
  refine enumI_begins (s := { s1 with heap := h' }) (Hh := fun h => IsZip h (s1.heap.objs.size + 4) (s1.heap.objs.size + 2) (s1.heap.objs.size + 3) .none) (fun prog w A E s Q hz q => wpAny_pyIter_zip hz q) hz fun h2 he hk2 => wpAny_pyIter_enum he ?_
  have I2 : Inv X pins σ H1 { s1 with heap := h2 } := I1.kept (t' := s1.toks) fun b o q => hk2 b o (hk b o q)
  obtain ⟨N, eN⟩ : ∃ N, N = s1.heap.objs.size := ⟨_, rfl⟩
  have hsz : h'.objs.size = N + 5 := by rw [hsz, eN]
  have he : IsEnum h2 (N + 5) (N + 4) 0 .none := by
    have he : IsEnum h2 h'.objs.size (s1.heap.objs.size + 4) 0 .none := he
    rw [hsz, ← eN] at he
    exact he
  have eqv : (Value.ref h'.objs.size) = .ref (N + 5) := by rw [hsz]
  show PIE X pins σ _ _ (Value.ref h'.objs.size) _
  rw [eqv]
  rw [← eN] at l1 l2 hz hTI hTO ho1 ho2
  have D : EzP (N + 5) (N + 4) (N + 2) (N + 3) N (N + 1) a b := by
    refine ⟨zip_sep2 (fun c hc => by rw [List.mem_singleton.mp hc]; exact l1) (fun c hc => by rw [List.mem_singleton.mp hc]; exact l2), Nat.ne_of_lt l1, Nat.ne_of_lt (Nat.lt_succ_of_lt l2), ?_, ?_, ?_, ?_, ?_⟩
    · exact Nat.ne_of_gt (Nat.lt_succ_self (N + 4))
    · exact Nat.ne_of_gt (Nat.add_lt_add_left (by decide) N)
    · exact Nat.ne_of_gt (Nat.add_lt_add_left (by decide) N)
    · intro hm
      have hm : N + 5 = N ∨ N + 5 = a := by simpa using hm
      rcases hm with q | q
      · exact absurd q (Nat.ne_of_gt (Nat.lt_add_of_pos_right (by decide)))
      · exact absurd q (Nat.ne_of_gt (Nat.lt_of_lt_of_le l1 (Nat.le_add_right _ _)))
    · intro hm
      have hm : N + 5 = N + 1 ∨ N + 5 = b := by simpa using hm
      rcases hm with q | q
      · exact absurd q (Nat.ne_of_gt (Nat.add_lt_add_left (by decide) N))
      · exact absurd q (Nat.ne_of_gt (Nat.lt_of_lt_of_le l2 (Nat.le_add_right _ _)))
  refine ⟨N + 5, [N + 5, N + 4, N + 2, N + 3, N, N + 1], _, _, H1, rfl, I2, turn_ez D, ⟨⟨_, he⟩, ⟨_, _, .inl rfl, hk2 _ _ hz⟩, hk2 _ _ hTI, ⟨_, _, hk2 _ _ hTO⟩, g1 _ _ (hk2 _ _ ho1), g2 _ _ (hk2 _ _ ho2)⟩, fun e hcm => ?_, q⟩
  have hle : s1.heap.objs.size ≤ e := by
    rw [← eN]
    rcases six_mem hcm with q | q | q | q | q | q <;> rw [q] <;> first | exact Nat.le_add_right _ _ | exact Nat.le_refl _
  exact I1.fpOk hle (I1.hok.fresh hle)
def YEz (f g : Nat → Option V) : Nat → Hp → V → Hp → Prop := fun i H v H' => ∃ T1 T2 x y, v = .ref T2 ∧ H T1 = none ∧ H T2 = none ∧ T1 ≠ T2 ∧ H' = upd (upd H T1 (.tup [x, y])) T2 (.tup [.int (i : Nat), .ref T1]) ∧ f i = some x ∧ g i = some y
theorem walk_ez {K : PySem.W.Frag} {k1 k2 : Bool} {a b : Addr} {xs ys : List V} (hl : xs.length = ys.length) : Walk (ItEZ K k1 k2 a b) xs.length (fun H => SqX K H k1 a xs ∧ SqX K H k2 b ys) (YEz (fun i => xs[i]?) (fun i => ys[i]?)) := by
  refine ⟨fun i _ hi q => ⟨xs, ys, xs[i], ys[i], q.1, q.2, by simp [hi], by simp [hl ▸ hi]⟩, fun _ q => ⟨xs, ys, q.1, q.2, rfl, hl.symm⟩, fun i H v H2 _ q y => ?_⟩
  obtain ⟨T1, T2, x, z, h1, h2, h3, h4, h5, h6, h7⟩ := y
  exact ⟨T1, T2, x, z, h1, h2, h3, h4, h5, h6 xs q.1, h7 ys q.2⟩
end WC

set_option maxHeartbeats 4000000
namespace WC
open PySem PySem.Spec PyProof.Rows L2
structure Blt2 (mg : Str → Option Value) : Prop where
  zip : mg "zip" = none
  rev : mg "reversed" = none
/-- a net as it is drawn: of few stages and channels, each right -/
structure NOk (n : Nat) (cs : List Tri) : Prop where
  ok : ∀ c ∈ cs, ChOk n c
  len : cs.length ≤ 60
  n40 : n ≤ 40
  n1 : 1 ≤ n
def flP : List V → List (Str × V)
  | [v] => [("position", v)]
  | _ => []
def StAt (H : Hp) (v : V) (ns : List Int) : Prop := ∃ t, v = .ref t ∧ H t = some (.tup (ns.map V.int))
def StOk (n : Nat) (ns : List Int) : Prop := ns.length = n ∧ ∀ c ∈ ns, 0 ≤ c ∧ c ≤ 999
/-- a value that is handed over as a state -/
def Cand (K : PySem.W.Frag) (H : Hp) (v : V) : Prop := Known K H v ∧ ∀ t xs, v = .ref t → H t = some (.tup xs) → xs.length ≤ 1000 ∧ ∀ y ∈ xs, Known K H y
/-- a value that is no state: what InvalidState tells -/
inductive StBad (K : PySem.W.Frag) (H : Hp) (n : Nat) : V → V → Prop
  | shape {v : V} (k : Known K H v) (h : ∀ t xs, v = .ref t → H t = some (.tup xs) → xs.length ≠ n) : StBad K H n v .non
  | item {t : Addr} {xs : List V} {x : V} {i : Nat} (ht : H t = some (.tup xs)) (hl : xs.length = n) (hi : xs[i]? = some x) (hx : btw x 0 999 = false) (hb : ∀ j y, j < i → xs[j]? = some y → btw y 0 999 = true) (hk : ∀ y ∈ xs, Known K H y) : StBad K H n (.ref t) (.int (i : Nat))
theorem Known.same {K : PySem.W.Frag} {H H2 : Hp} {v : V} (k : Known K H v) (s : Same H H2) : Known K H2 v := by
  cases v with
  | ref a => exact k.imp (fun ⟨xs, e⟩ => ⟨xs, s _ _ e⟩) (fun ⟨xs, e⟩ => ⟨xs, s _ _ e⟩)
  | int i => trivial
  | bl b => trivial
  | non => trivial
  | str z => trivial
  | byt b => exact k
  | flt b => exact k
  | ty n => exact k
theorem StAt.same {H H2 : Hp} {v : V} {ns : List Int} (h : StAt H v ns) (s : Same H H2) : StAt H2 v ns := let ⟨t, e, q⟩ := h; ⟨t, e, s _ _ q⟩
theorem ints_inj : ∀ {ns ms : List Int}, ns.map V.int = ms.map V.int → ns = ms
  | [], [], _ => rfl
  | [], _ :: _, h => by cases h
  | _ :: _, [], h => by cases h
  | a :: ns, b :: ms, h => by
    rw [List.map_cons, List.map_cons] at h
    injection h with h1 h2
    rw [V.int.inj h1, ints_inj h2]
theorem st_one {H : Hp} {v : V} {ns ms : List Int} (h : StAt H v ns) (g : StAt H v ms) : ns = ms := by
  obtain ⟨t, e, q⟩ := h
  obtain ⟨u, e2, q2⟩ := g
  rw [e] at e2
  cases e2
  rw [q] at q2
  injection q2 with q2
  injection q2 with q2
  exact ints_inj q2
theorem st_not {K : PySem.W.Frag} {H : Hp} {n : Nat} {v p : V} {ns : List Int} (h : StAt H v ns) (k : StOk n ns) (b : StBad K H n v p) : False := by
  obtain ⟨t, e, q⟩ := h
  subst e
  cases b with
  | shape _ h2 => exact h2 t _ rfl q (by rw [List.length_map]; exact k.1)
  | @item _ xs x i ht _ hi hx _ _ =>
    rw [q] at ht
    cases ht
    rw [List.getElem?_map] at hi
    cases e3 : ns[i]? with
    | none => rw [e3] at hi; cases hi
    | some c =>
      rw [e3] at hi
      cases hi
      obtain ⟨c0, c1⟩ := k.2 c (List.mem_of_getElem? e3)
      rw [btw_in c0 c1] at hx
      cases hx
theorem st_cand {K : PySem.W.Frag} {H : Hp} {v : V} {n : Nat} {ns : List Int} (h : StAt H v ns) (k : StOk n ns) (hn : n ≤ 1000) : Cand K H v := by
  obtain ⟨t, rfl, q⟩ := h
  refine ⟨.inl ⟨_, q⟩, fun u xs e q2 => ?_⟩
  cases e
  rw [q] at q2
  cases q2
  refine ⟨by rw [List.length_map, k.1]; exact hn, fun y hy => ?_⟩
  obtain ⟨i, _, rfl⟩ := List.mem_map.mp hy
  trivial
theorem Cand.same {K : PySem.W.Frag} {H H2 : Hp} {v : V} (c : Cand K H v) (s : Same H H2) : Cand K H2 v := by
  refine ⟨c.1.same s, fun t xs e q => ?_⟩
  subst e
  rcases c.1 with ⟨ys, e2⟩ | ⟨ys, e2⟩
  · have e3 := s _ _ e2
    rw [q] at e3
    cases e3
    obtain ⟨h1, h2⟩ := c.2 t xs rfl e2
    exact ⟨h1, fun y hy => (h2 y hy).same s⟩
  · have e3 := s _ _ e2
    rw [q] at e3
    cases e3
theorem StBad.same {K : PySem.W.Frag} {H H2 : Hp} {n : Nat} {v p : V} (b : StBad K H n v p) (s : Same H H2) : StBad K H2 n v p := by
  cases b with
  | shape k h =>
    refine .shape (k.same s) fun t xs e q => ?_
    subst e
    rcases k with ⟨ys, e2⟩ | ⟨ys, e2⟩
    · have e3 := s _ _ e2
      rw [q] at e3
      cases e3
      exact h t xs rfl e2
    · have e3 := s _ _ e2
      rw [q] at e3
      cases e3
  | item ht hl hi hx hb hk => exact .item (s _ _ ht) hl hi hx hb fun y hy => (hk y hy).same s
def isTup (H : Hp) : V → Bool
  | .ref a => match H a with
    | some (.tup _) => true
    | _ => false
  | _ => false
theorem kit_tup {K : PySem.W.Frag} {H : Hp} {x : V} (k : Known K H x) : PySem.W.kitOne K (.type (tyN H x)) (.type "tuple") = some (isTup H x) := by
  cases x with
  | int i => exact kb "int" "tuple" false (by decide +kernel) rfl
  | bl b => exact kb "bool" "tuple" false (by decide +kernel) rfl
  | non  => exact kb "NoneType" "tuple" false (by decide +kernel) rfl
  | str z => exact kb "str" "tuple" false (by decide +kernel) rfl
  | ref a =>
    rcases k with ⟨xs, e⟩ | ⟨xs, e⟩
    · have q1 : tyN H (.ref a) = "tuple" := by simp only [tyN, e]
      have q2 : isTup H (.ref a) = true := by simp only [isTup, e]
      rw [q2]
      exact kb "tuple" "tuple" true (by decide +kernel) q1
    · have q1 : tyN H (.ref a) = "list" := by simp only [tyN, e]
      have q2 : isTup H (.ref a) = false := by simp only [isTup, e]
      rw [q2]
      exact kb "list" "tuple" false (by decide +kernel) q1
  | byt b => exact k.elim
  | flt b => exact k.elim
  | ty n => exact k.elim
theorem istup_cases {K : PySem.W.Frag} {H : Hp} {v : V} (k : Known K H v) : (isTup H v = true ∧ ∃ t xs, v = .ref t ∧ H t = some (.tup xs)) ∨ (isTup H v = false ∧ ∀ t xs, v = .ref t → H t ≠ some (.tup xs)) := by
  cases v with
  | ref a =>
    rcases k with ⟨xs, e⟩ | ⟨xs, e⟩
    · exact .inl ⟨by simp only [isTup, e], a, xs, rfl, e⟩
    · refine .inr ⟨by simp only [isTup, e], fun t ys z q => ?_⟩
      cases z
      rw [e] at q
      cases q
  | _ => exact .inr ⟨rfl, fun t xs e => by cases e⟩
/-- a function of a net and a state, and of further arguments -/
def spS (K : PySem.W.Frag) (CS : List Addr) (CX : Addr) (m : Nat) (res : Hp → Nat → List Tri → V → List Int → List V → VK → XK → Prop) : Sp := fun vs H Q E => ∃ (C x : Addr) (v : V) (n : Nat) (cs : List Tri) (rest : List V), C ∈ CS ∧ vs = .ref x :: v :: rest ∧ rest.length = m ∧ NetAt H x C n cs ∧ NOk n cs ∧ Cand K H v ∧
  (∀ ns, StAt H v ns → StOk n ns → res H n cs v ns rest Q E) ∧ (∀ p, StBad K H n v p → ErrX E CX H [("position", p)])
def resState : Hp → Nat → List Tri → V → List Int → List V → VK → XK → Prop := fun H _ _ v _ _ Q _ => ∀ H2, Same H H2 → Q v H2
end WC

set_option maxHeartbeats 8000000
namespace WC
open PySem PySem.Spec PyProof.Rows L2
/-! boxes: rows of counters, what a row may be -/
/-- is it a tuple? -/
def IsTu (K : PySem.W.Frag) (H : Hp) (v : V) (r : Bool) : Prop := ∃ T, TyX K H v T ∧ PySem.W.kitOne K T (.type "tuple") = some r
theorem Known.tu {K : PySem.W.Frag} {H : Hp} {v : V} (k : Known K H v) : IsTu K H v (isTup H v) := ⟨_, k.ty, kit_tup k⟩
theorem tup_tu {K : PySem.W.Frag} {H : Hp} {a : Addr} {xs : List V} (h : H a = some (.tup xs)) : IsTu K H (.ref a) true := ⟨_, .base (.tup h), kit_ty (r := true) (by decide +kernel)⟩
/-- a value handed over as a row: a tuple of these items, or another value -/
def RowA (K : PySem.W.Frag) (H : Hp) (o : Option (List V)) (v : V) : Prop := match o with
  | some xs => (∃ a, v = .ref a ∧ H a = some (.tup xs)) ∧ xs.length ≤ 1000 ∧ ∀ x ∈ xs, Known K H x
  | none => Known K H v ∧ isTup H v = false
theorem isTup_same {K : PySem.W.Frag} {H H2 : Hp} {v : V} (k : Known K H v) (s : Same H H2) : isTup H2 v = isTup H v := by
  cases v with
  | ref a =>
    rcases k with ⟨xs, e⟩ | ⟨xs, e⟩
    · simp only [isTup, e, s _ _ e]
    · simp only [isTup, e, s _ _ e]
  | int i => rfl
  | bl b => rfl
  | non => rfl
  | str z => rfl
  | byt b => exact k.elim
  | flt b => exact k.elim
  | ty n => exact k.elim
theorem RowA.same {K : PySem.W.Frag} {H H2 : Hp} {o : Option (List V)} {v : V} (r : RowA K H o v) (s : Same H H2) : RowA K H2 o v := by
  cases o with
  | some xs =>
    obtain ⟨⟨a, e, h⟩, l, k⟩ := r
    exact ⟨⟨a, e, s _ _ h⟩, l, fun x hx => (k x hx).same s⟩
  | none => exact ⟨r.1.same s, by rw [isTup_same r.1 s]; exact r.2⟩
theorem RowA.tu {K : PySem.W.Frag} {H : Hp} {o : Option (List V)} {v : V} (r : RowA K H o v) : IsTu K H v o.isSome := by
  cases o with
  | some xs =>
    obtain ⟨⟨a, rfl, h⟩, _⟩ := r
    exact tup_tu h
  | none =>
    have q := r.1.tu
    rw [r.2] at q
    exact q
def rowL (xs : List V) : Bool := decide (1 ≤ xs.length) && decide (xs.length ≤ 40)
def rowO : Option (List V) → Bool
  | some xs => rowL xs
  | none => false
def gC (v : V) : Bool := btw v 0 999
/-- the first position where a counter is none -/
def badAt : List V → List V → Option Nat
  | x :: xs, y :: ys => if gC x && gC y then (badAt xs ys).map (· + 1) else some 0
  | _, _ => none
theorem badAt_none {xs ys : List V} (hl : xs.length = ys.length) (h : ∀ (i : Nat) (x y : V), xs[i]? = some x → ys[i]? = some y → gC x = true ∧ gC y = true) : badAt xs ys = none := by
  induction xs generalizing ys with
  | nil => rfl
  | cons x xs ih =>
    cases ys with
    | nil => rfl
    | cons y ys =>
      obtain ⟨a, b⟩ := h 0 x y rfl rfl
      have q := ih (ys := ys) (by simpa using hl) fun i u v e1 e2 => h (i + 1) u v e1 e2
      simp only [badAt, a, b, Bool.and_self, if_true, q, Option.map_none]
theorem badAt_some {xs ys : List V} {k : Nat} {x y : V} (hx : xs[k]? = some x) (hy : ys[k]? = some y) (hb : (gC x && gC y) = false) (h : ∀ (i : Nat) (u v : V), i < k → xs[i]? = some u → ys[i]? = some v → gC u = true ∧ gC v = true) : badAt xs ys = some k := by
  induction k generalizing xs ys with
  | zero =>
    cases xs with
    | nil => cases hx
    | cons u xs =>
      cases ys with
      | nil => cases hy
      | cons v ys =>
        cases hx
        cases hy
        simp only [badAt, hb]
        rfl
  | succ k ih =>
    cases xs with
    | nil => cases hx
    | cons u xs =>
      cases ys with
      | nil => cases hy
      | cons v ys =>
        obtain ⟨a, b⟩ := h 0 u v (Nat.succ_pos k) rfl rfl
        have q := ih (xs := xs) (ys := ys) hx hy fun i u2 v2 hi e1 e2 => h (i + 1) u2 v2 (Nat.succ_lt_succ hi) e1 e2
        simp only [badAt, a, b, Bool.and_self, if_true, q, Option.map_some]
def posV : Option Nat → Option V
  | none => none
  | some k => some (.int (k : Nat))
/-- what InvalidBox tells of these rows; none: they are the rows of a box -/
def faultO : Option (List V) → Option (List V) → Option V
  | some xs, some ys => if rowL xs && (rowL ys && decide (xs.length = ys.length)) then posV (badAt xs ys) else some .non
  | _, _ => some .non
structure BoxK (K : PySem.W.Frag) (mg : Str → Option Value) (BX : Addr) : Prop where
  gB : mg "Box" = some (.ref BX)
  cr : ∃ mc, ClX.CRead K BX mc ∧ (∃ u, ClX.CVal K BX mc "LOWEST" (.int 0) u) ∧ ∃ u, ClX.CVal K BX mc "HIGHEST" (.int 999) u
def spIC (K : PySem.W.Frag) : Sp := fun vs H Q _ => ∃ x, vs = [x] ∧ Known K H x ∧ Q (.bl (gC x)) H
def spIR (K : PySem.W.Frag) : Sp := fun vs H Q _ => ∃ x o, vs = [x] ∧ RowA K H o x ∧ Q (.bl (rowO o)) H
def spCW (K : PySem.W.Frag) (CB : Addr) : Sp := fun vs H Q E => ∃ x y o1 o2, vs = [x, y] ∧ RowA K H o1 x ∧ RowA K H o2 y ∧ (faultO o1 o2 = none → ∀ H2, Same H H2 → Q .non H2) ∧ ∀ p, faultO o1 o2 = some p → ErrX E CB H [("position", p)]
section
variable {P : Program} {w : World} {K : PySem.W.Frag} {mg : Str → Option Value} {base : Heap}
theorem ok_InvalidBox_init {f C : Addr} {fd : FuncData} (F : Fun K "__init__" "InvalidBox.__init__" s_InvalidBox_init f fd) (T : OexC K C) (hno : PySem.W.findIn K (.ref C) "position" = some none) : FnOk P w K mg base (L2.CX P w) 1 f fd ["self", "position"] (spX C 1 flP) := by
  refine F.okX sc_InvalidBox_init (fun vs H Q E h => ?_) (fun cdv A outer s H vs Q E hr h => ?_)
  · obtain ⟨a, ws, rfl, hl, _⟩ := h
    simp [hl]
  · obtain ⟨a, ws, rfl, hl, ha, k⟩ := h
    match ws, hl with
    | [v], _ =>
      refine ⟨_, pss_one (ps_ost (pv 0) (pv 1)), ?_⟩
      exact ⟨_, rfl, _, rfl, a, C, rfl, T, hno, .inl ⟨ha, fun d hd hne => k d hd hne⟩⟩
theorem ok_is_counter {f BX : Addr} {fd : FuncData} (F : Fun K "_is_counter" "_is_counter" s_is_counter f fd) (ZB : BoxK K mg BX) (g_is_between : DefR P w K mg base "is_between" 1 (spBtw K)) : FnOk P w K mg base (L2.CX P w) 2 f fd ["value"] (spIC K) := by
  refine F.okX sc_is_counter (fun vs H Q E h => ?_) (fun cdv A outer s H vs Q E hr h => ?_)
  · obtain ⟨x, rfl, _⟩ := h
    rfl
  · obtain ⟨x, rfl, hk, q⟩ := h
    obtain ⟨mc, cr, ⟨u1, c1⟩, ⟨u2, c2⟩⟩ := ZB.cr
    refine ⟨_, (pss_one (ps_ret (pe_cd g_is_between hr psE (pa_cons (pv 0) (pa_cons (ClX.pe_cval (pe_glob (v := .ref BX) (by rfl) ZB.gB rfl)) (pa_cons (ClX.pe_cval (pe_glob (v := .ref BX) (by rfl) ZB.gB rfl)) pa_nil)))))), ?_⟩
    exact ⟨_, rfl, BX, mc, _, u1, rfl, cr, c1, BX, mc, _, u2, rfl, cr, c2, _, _, _, rfl, hk, q⟩
theorem ok_is_row {f N : Addr} {fd : FuncData} (F : Fun K "_is_row" "_is_row" s_is_row f fd) (B : Blt mg) (Z : NetK K mg N) : FnOk P w K mg base (L2.CX P w) 1 f fd ["value"] (spIR K) := by
  refine F.okX sc_is_row (fun vs H Q E h => ?_) (fun cdv A outer s H vs Q E hr h => ?_)
  · obtain ⟨x, o, rfl, _⟩ := h
    rfl
  · obtain ⟨x, o, rfl, hk, q⟩ := h
    obtain ⟨mc, cr, ⟨u1, c1⟩, _⟩ := Z.cr
    refine ⟨_, (pss_one (ps_ret (pe_and (pe_callB call_isi (by rfl) B.isi bt_isi (pa_cons (pv 0) (pa_cons (pe_bltn (v := .ty "tuple") (by rfl) B.tuple bt_tuple rfl) pa_nil))) (pe_one (pe_chain op_le op_le pe_int (pe_callB call_len_seq (by rfl) B.len bt_len (pa_cons (pv 0) pa_nil)) (ClX.pe_cval (pe_glob (v := .ref N) (by rfl) Z.gN rfl))))))), ?_⟩
    obtain ⟨T, ty, kt⟩ := hk.tu
    refine ⟨_, rfl, _, _, _, _, _, rfl, .ty _, ty, kt, _, rfl, ?_⟩
    cases o with
    | none => exact iteF q
    | some xs =>
      obtain ⟨⟨a, rfl, ha⟩, _, _⟩ := hk
      refine iteT ⟨_, rfl, a, _, rfl, .inr (SqT.of ha), ?_⟩
      have q : Q (.bl (rowL xs)) H := q
      unfold rowL at q
      refine ⟨_, _, rfl, rfl, _, rfl, ite2 (fun e => ?_) (fun e => ?_)⟩
      · have e := of_decide_eq_true e
        rw [decide_eq_true (show 1 ≤ xs.length by omega), Bool.true_and] at q
        refine ⟨N, mc, _, u1, rfl, cr, c1, _, _, rfl, rfl, ?_⟩
        have e2 : decide ((xs.length : Int) ≤ 40) = decide (xs.length ≤ 40) := decide_eq_decide.mpr (by omega)
        show Q (.bl (decide ((xs.length : Int) ≤ 40))) H
        rw [e2]
        exact q
      · have e : ¬ ((1 : Int) ≤ (xs.length : Int)) := fun z => e (decide_eq_true z)
        rw [decide_eq_false (show ¬ 1 ≤ xs.length by omega), Bool.false_and] at q
        exact q
theorem ok_check_windows {f CB : Addr} {fd : FuncData} (F : Fun K "_check_windows" "_check_windows" s_check_windows f fd) (B : Blt mg) (B2 : Blt2 mg) (g_is_row : DefR P w K mg base "_is_row" 1 (spIR K)) (g_is_counter : DefR P w K mg base "_is_counter" 2 (spIC K)) (t_InvalidBox : ExcR P w K mg base "InvalidBox" CB 1 1 flP) : FnOk P w K mg base (L2.CX P w) 3 f fd ["lows", "highs"] (spCW K CB) := by
  refine F.okX sc_check_windows (fun vs H Q E h => ?_) (fun cdv A outer s H vs Q E hr h => ?_)
  · obtain ⟨x, y, o1, o2, rfl, _⟩ := h
    rfl
  · obtain ⟨x, y, o1, o2, rfl, r1, r2, q0, q1⟩ := h
    -- slots: 0 lows, 1 highs, 2 position, 3 low, 4 high
    refine ⟨_, (pss_cons (ps_if (PW.pt (pw_or (pt_not (pt_val (pe_cd g_is_row hr psE (pa_cons (pv 0) pa_nil)))) (pw_or (pt_not (pt_val (pe_cd g_is_row hr psE (pa_cons (pv 1) pa_nil)))) (pw_or1 (pt_cmpR op_ne (pe_callB call_len_seq (by rfl) B.len bt_len (pa_cons (pv 0) pa_nil)) (pe_callB call_len_seq (by rfl) B.len bt_len (pa_cons (pv 1) pa_nil)) (nomark _)))))) (pss_one (ps_raise rfl (takes_of rfl rfl rfl rfl) (pmk_x t_InvalidBox hr (pa_cons pe_non pa_nil)))) pss_nil)
      (pss_one (ps_for (passes_of rfl) rfl (pi_ez B.enum B2.zip (pa_cons (pv 0) (pa_cons (pv 1) pa_nil))) (pg_tup rfl (pgs_cons (pg_name (i := 2) sc_check_windows.nd rfl (Or.inl rfl)) (pgs_cons (pg_tup rfl (pgs_cons (pg_name (i := 3) sc_check_windows.nd rfl (Or.inl rfl)) (pgs_cons (pg_name (i := 4) sc_check_windows.nd rfl (Or.inl rfl)) pgs_nil))) pgs_nil)))
        (pss_one (ps_if (PW.pt (pw_or (pt_not (pt_val (pe_cd g_is_counter hr psE (pa_cons (pv 3) pa_nil)))) (pw_or1 (pt_not (pt_val (pe_cd g_is_counter hr psE (pa_cons (pv 4) pa_nil))))))) (pss_one (ps_raise rfl (takes_of rfl rfl rfl rfl) (pmk_x t_InvalidBox hr (pa_cons (pv 2) pa_nil)))) pss_nil))))), ?_⟩
    have bad : faultO o1 o2 = some .non → ErrX E CB H [("position", .non)] := fun e => q1 _ e
    refine ⟨_, rfl, x, o1, rfl, r1, _, rfl, ?_⟩
    cases e1 : rowO o1 with
    | false =>
      refine iteT (iteT (x_use rfl (by decide) fun d hd => (bad ?_).new d hd))
      cases o1 with
      | none => rfl
      | some xs =>
        cases o2 with
        | none => rfl
        | some ys =>
          have e1 : rowL xs = false := e1
          simp only [faultO, e1, Bool.false_and]
          rfl
    | true =>
      refine iteF ⟨_, rfl, y, o2, rfl, r2, _, rfl, ?_⟩
      cases e2 : rowO o2 with
      | false =>
        refine iteT (iteT (x_use rfl (by decide) fun d hd => (bad ?_).new d hd))
        cases o1 with
        | none => rfl
        | some xs =>
          cases o2 with
          | none => rfl
          | some ys =>
            have e2 : rowL ys = false := e2
            simp only [faultO, e2, Bool.false_and, Bool.and_false]
            rfl
      | true =>
        cases o1 with
        | none => cases e1
        | some xs =>
          cases o2 with
          | none => cases e2
          | some ys =>
            have e1 : rowL xs = true := e1
            have e2 : rowL ys = true := e2
            obtain ⟨⟨a, rfl, ha⟩, _, kx⟩ := r1
            obtain ⟨⟨b, rfl, hb⟩, _, ky⟩ := r2
            refine iteF ⟨_, rfl, a, _, rfl, .inr (SqT.of ha), _, rfl, b, _, rfl, .inr (SqT.of hb), rfl, _, rfl, ?_⟩
            by_cases el : xs.length = ys.length
            · rw [show (!decide (V.int (xs.length : Nat) = V.int (ys.length : Nat))) = false by simp [el]]
              have lx : xs.length ≤ 40 := by
                have z := (Bool.and_eq_true_iff.mp e1).2
                exact of_decide_eq_true z
              refine iteF ?_
              have fo : faultO (some xs) (some ys) = posV (badAt xs ys) := by simp only [faultO, e1, e2, el, decide_true, Bool.and_self, if_true]
              rw [fo] at q0 q1
              refine ⟨_, rfl, _, rfl, a, b, xs, ys, true, true, rfl, SqT.of ha, SqT.of hb, for_it (walk_ez el) (fun i σ H2 => ∃ v2 v3 v4, σ = [some (.ref a), some (.ref b), v2, v3, v4] ∧ Same H H2 ∧ ∀ (j : Nat) (u v : V), j < i → xs[j]? = some u → ys[j]? = some v → gC u = true ∧ gC v = true) ⟨_, _, _, rfl, Same.refl H, fun j u v z => absurd z (Nat.not_lt_zero j)⟩ ?_ ?_ ?_⟩
              · rintro i σ H2 _ ⟨_, _, _, _, s2, _⟩
                exact ⟨SqT.of (s2 _ _ ha), SqT.of (s2 _ _ hb)⟩
              · rintro i x σ H2 H3 hi ⟨v2, v3, v4, rfl, s2, al⟩ ⟨T1, T2, u, v, rfl, n1, n2, n12, rfl, hu, hv⟩
                have s3 : Same H2 (upd H2 T1 (.tup [u, v])) := Same.new n1
                have n2' : upd H2 T1 (.tup [u, v]) T2 = none := by rw [upd_ne (Ne.symm n12)]; exact n2
                have s4 : Same (upd H2 T1 (.tup [u, v])) (upd (upd H2 T1 (.tup [u, v])) T2 (.tup [.int (i : Nat), .ref T1])) := Same.new n2'
                have t1 : upd (upd H2 T1 (.tup [u, v])) T2 (.tup [.int (i : Nat), .ref T1]) T1 = some (.tup [u, v]) := s4 _ _ upd_same
                have s5 := s2.trans (s3.trans s4)
                have ku := (kx u (List.mem_of_getElem? hu)).same s5
                have kv := (ky v (List.mem_of_getElem? hv)).same s5
                have hu : xs[i]? = some u := hu
                have hv : ys[i]? = some v := hv
                refine ⟨T2, _, rfl, SqT.of upd_same, rfl, _, _, rfl, _, _, rfl, ?_⟩
                refine ⟨T1, _, rfl, SqT.of t1, rfl, _, _, rfl, _, _, rfl, rfl, rfl, ?_⟩
                have nxt : (gC u && gC v) = true → ∀ (j : Nat) (p q : V), j < i + 1 → xs[j]? = some p → ys[j]? = some q → gC p = true ∧ gC q = true := fun g j p q hj e3 e4 => by
                  rcases Nat.lt_succ_iff_lt_or_eq.mp hj with z | z
                  · exact al j p q z e3 e4
                  · subst z
                    rw [hu] at e3
                    rw [hv] at e4
                    cases e3
                    cases e4
                    exact Bool.and_eq_true_iff.mp g
                have bd : (gC u && gC v) = false → faultO (some xs) (some ys) = some (.int (i : Nat)) := fun g => by
                  rw [fo, badAt_some hu hv g al]
                  rfl
                rw [← fo] at q1
                refine ⟨_, rfl, u, rfl, ku, _, rfl, ?_⟩
                cases gu : gC u with
                | false => exact iteT (iteT ⟨_, rfl, x_use rfl (by decide) fun d hd => ((q1 _ (bd (by rw [gu]; rfl))).on s5).new d hd⟩)
                | true =>
                  refine iteF ⟨_, rfl, v, rfl, kv, _, rfl, ?_⟩
                  cases gv : gC v with
                  | false => exact iteT ⟨_, rfl, x_use rfl (by decide) fun d hd => ((q1 _ (bd (by rw [gu, gv]; rfl))).on s5).new d hd⟩
                  | true => exact iteF ⟨_, _, _, rfl, s5, nxt (by rw [gu, gv]; rfl)⟩
              · rintro σ H2 ⟨_, _, _, _, s2, al⟩
                refine q0 ?_ H2 s2
                rw [badAt_none el fun j u v h1 h2 => al j u v ((List.getElem?_eq_some_iff.mp h1).1) h1 h2]
                rfl
            · rw [show (!decide (V.int (xs.length : Nat) = V.int (ys.length : Nat))) = true by simp; omega]
              refine iteT (x_use rfl (by decide) fun d hd => (bad ?_).new d hd)
              simp only [faultO, decide_eq_false el, Bool.and_false]
              rfl
end
end WC

set_option maxHeartbeats 8000000
namespace WC
open PySem PySem.Spec PyProof.Rows L2
/-- the rows of a box -/
structure BxOk (lo hi : List Int) : Prop where
  len : lo.length = hi.length
  n1 : 1 ≤ lo.length
  n40 : lo.length ≤ 40
  lo0 : ∀ c ∈ lo, 0 ≤ c ∧ c ≤ 999
  hi0 : ∀ c ∈ hi, 0 ≤ c ∧ c ≤ 999
theorem BxOk.m1 {lo hi : List Int} (b : BxOk lo hi) : 1 ≤ hi.length := by have := b.len; have := b.n1; omega
theorem BxOk.m40 {lo hi : List Int} (b : BxOk lo hi) : hi.length ≤ 40 := by have := b.len; have := b.n40; omega
abbrev flB (a b : V) : List (Str × V) := [(("lows" : Str), a), (("highs" : Str), b)]
/-- an object of the class Box that holds these two -/
def BoxV (H : Hp) (x BX : Addr) (u v : V) : Prop := ∃ dx, H x = some (.ins BX dx (flB u v))
def BoxR (H : Hp) (x BX : Addr) (lo hi : List Int) : Prop := ∃ a b, BoxV H x BX (.ref a) (.ref b) ∧ H a = some (.tup (lo.map V.int)) ∧ H b = some (.tup (hi.map V.int))
theorem BoxR.same {H H2 : Hp} {x BX : Addr} {lo hi : List Int} (h : BoxR H x BX lo hi) (s : Same H H2) : BoxR H2 x BX lo hi := by
  obtain ⟨a, b, ⟨dx, e⟩, f, g⟩ := h
  exact ⟨a, b, ⟨dx, s _ _ e⟩, s _ _ f, s _ _ g⟩
theorem gC_int {i : Int} : gC (.int i) = (decide (0 ≤ i) && decide (i ≤ 999)) := rfl
theorem gC_is {v : V} (h : gC v = true) : ∃ i : Int, v = .int i ∧ 0 ≤ i ∧ i ≤ 999 := by
  cases v with
  | int i =>
    rw [gC_int, Bool.and_eq_true_iff] at h
    exact ⟨i, rfl, of_decide_eq_true h.1, of_decide_eq_true h.2⟩
  | bl b => cases h
  | non => cases h
  | str z => cases h
  | ref a => cases h
  | byt b => cases h
  | flt b => cases h
  | ty n => cases h
theorem gC_in {i : Int} (h1 : 0 ≤ i) (h2 : i ≤ 999) : gC (.int i) = true := by rw [gC_int, decide_eq_true h1, decide_eq_true h2]; rfl
theorem badAt_all {xs ys : List V} (hl : xs.length = ys.length) (h : badAt xs ys = none) : ∃ lo hi : List Int, xs = lo.map V.int ∧ ys = hi.map V.int ∧ (∀ c ∈ lo, 0 ≤ c ∧ c ≤ 999) ∧ ∀ c ∈ hi, 0 ≤ c ∧ c ≤ 999 := by
  induction xs generalizing ys with
  | nil =>
    cases ys with
    | nil => exact ⟨[], [], rfl, rfl, (fun c z => by cases z), (fun c z => by cases z)⟩
    | cons y ys => cases hl
  | cons x xs ih =>
    cases ys with
    | nil => cases hl
    | cons y ys =>
      simp only [badAt] at h
      cases g : gC x && gC y with
      | false => rw [g] at h; cases h
      | true =>
        rw [g] at h
        simp only [if_true, Option.map_eq_none_iff] at h
        obtain ⟨g1, g2⟩ := Bool.and_eq_true_iff.mp g
        obtain ⟨i, rfl, i0, i1⟩ := gC_is g1
        obtain ⟨j, rfl, j0, j1⟩ := gC_is g2
        obtain ⟨lo, hi, rfl, rfl, a, b⟩ := ih (by simpa using hl) h
        refine ⟨i :: lo, j :: hi, rfl, rfl, fun c hc => ?_, fun c hc => ?_⟩
        · rcases List.mem_cons.mp hc with e | e
          · rw [e]; exact ⟨i0, i1⟩
          · exact a c e
        · rcases List.mem_cons.mp hc with e | e
          · rw [e]; exact ⟨j0, j1⟩
          · exact b c e
theorem rowL_true {xs : List V} (h : rowL xs = true) : 1 ≤ xs.length ∧ xs.length ≤ 40 := by
  obtain ⟨a, b⟩ := Bool.and_eq_true_iff.mp h
  exact ⟨of_decide_eq_true a, of_decide_eq_true b⟩
theorem fault_none {o1 o2 : Option (List V)} (h : faultO o1 o2 = none) : ∃ lo hi : List Int, o1 = some (lo.map V.int) ∧ o2 = some (hi.map V.int) ∧ BxOk lo hi := by
  cases o1 with
  | none => cases h
  | some xs =>
    cases o2 with
    | none => cases h
    | some ys =>
      simp only [faultO] at h
      cases g : rowL xs && (rowL ys && decide (xs.length = ys.length)) with
      | false => rw [g] at h; cases h
      | true =>
        rw [g] at h
        simp only [if_true] at h
        obtain ⟨g1, g⟩ := Bool.and_eq_true_iff.mp g
        obtain ⟨g2, g3⟩ := Bool.and_eq_true_iff.mp g
        have g3 := of_decide_eq_true g3
        have hb : badAt xs ys = none := by
          cases e : badAt xs ys with
          | none => rfl
          | some k => rw [e] at h; cases h
        obtain ⟨lo, hi, rfl, rfl, a, b⟩ := badAt_all g3 hb
        rw [List.length_map, List.length_map] at g3
        have n := rowL_true g1
        rw [List.length_map] at n
        exact ⟨lo, hi, rfl, rfl, ⟨g3, n.1, n.2, a, b⟩⟩
theorem fault_ok {lo hi : List Int} (b : BxOk lo hi) : faultO (some (lo.map V.int)) (some (hi.map V.int)) = none := by
  have hl : (lo.map V.int).length = (hi.map V.int).length := by rw [List.length_map, List.length_map, b.len]
  have e1 : rowL (lo.map V.int) = true := by unfold rowL; rw [List.length_map, decide_eq_true b.n1, decide_eq_true b.n40]; rfl
  have e2 : rowL (hi.map V.int) = true := by unfold rowL; rw [List.length_map, decide_eq_true b.m1, decide_eq_true b.m40]; rfl
  have e3 : badAt (lo.map V.int) (hi.map V.int) = none := badAt_none hl fun i x y hx hy => by
    rw [List.getElem?_map] at hx hy
    cases h1 : lo[i]? with
    | none => rw [h1] at hx; cases hx
    | some c =>
      cases h2 : hi[i]? with
      | none => rw [h2] at hy; cases hy
      | some d =>
        rw [h1] at hx
        rw [h2] at hy
        cases hx
        cases hy
        have a := b.lo0 c (List.mem_of_getElem? h1)
        have a2 := b.hi0 d (List.mem_of_getElem? h2)
        exact ⟨gC_in a.1 a.2, gC_in a2.1 a2.2⟩
  simp only [faultO, e1, e2, hl, decide_true, Bool.and_self, if_true, e3]
  rfl
theorem row_ints {K : PySem.W.Frag} {H : Hp} {a : Addr} {lo : List Int} (h : H a = some (.tup (lo.map V.int))) (hl : lo.length ≤ 1000) : RowA K H (some (lo.map V.int)) (.ref a) := by
  refine ⟨⟨a, rfl, h⟩, by rw [List.length_map]; exact hl, fun x hx => ?_⟩
  obtain ⟨i, _, rfl⟩ := List.mem_map.mp hx
  trivial
structure BoxC (K : PySem.W.Frag) (BX : Addr) : Prop where
  cl : Cls K BX
  nL : NoAttr K BX "lows"
  nH : NoAttr K BX "highs"
def Left (H H2 : Hp) (x : Addr) : Prop := ∀ b o, H b = some o → b ≠ x → H2 b = some o
def spBoxI (K : PySem.W.Frag) (BX CB : Addr) : Sp := fun vs H Q E => ∃ x dx v1 v2 o1 o2, vs = [.ref x, v1, v2] ∧ H x = some (.ins BX dx []) ∧ RowA K H o1 v1 ∧ RowA K H o2 v2 ∧ (faultO o1 o2 = none → ∀ H2, Left H H2 x → BoxV H2 x BX v1 v2 → Q .non H2) ∧ ∀ p, faultO o1 o2 = some p → ErrX E CB H [("position", p)]
theorem mkb_use {K : PySem.W.Frag} {H1 : Hp} {BX CB : Addr} {v1 v2 : V} {o1 o2 : Option (List V)} {Q : VK} {E : XK} (r1 : RowA K H1 o1 v1) (r2 : RowA K H1 o2 v2) (q0 : faultO o1 o2 = none → ∀ x H2, Same H1 H2 → H1 x = none → BoxV H2 x BX v1 v2 → Q (.ref x) H2) (q1 : ∀ p, faultO o1 o2 = some p → ErrX E CB H1 [("position", p)]) :
    ∀ x dx, H1 x = none → H1 dx = none → dx ≠ x → spBoxI K BX CB [.ref x, v1, v2] (upd (upd H1 dx (.own x)) x (.ins BX dx [])) (fun v H2 => v = .non ∧ Q (.ref x) H2) E := by
  intro x dx hx hd hne
  have s1 : Same H1 (upd (upd H1 dx (.own x)) x (.ins BX dx [])) := fun b o e => by
    rw [upd_ne (ne_of_none e hx), upd_ne (ne_of_none e hd)]
    exact e
  refine ⟨x, dx, v1, v2, o1, o2, rfl, upd_same, r1.same s1, r2.same s1, fun f H2 l b => ⟨rfl, q0 f x H2 (fun c o e => l _ _ (s1 _ _ e) (ne_of_none e hx)) hx b⟩, fun p f => (q1 p f).on s1⟩
theorem putL {a b : V} : putF "highs" b (putF "lows" a []) = flB a b := by
  have h1 : ¬ (("lows" : Str) = "highs") := by decide +kernel
  simp only [putF, h1, if_false]
theorem lk_lo {a b : V} : (flB a b).lookup ("lows" : Str) = some a := by simp [List.lookup]
theorem lk_hi {a b : V} : (flB a b).lookup ("highs" : Str) = some b := by
  have h1 : (("highs" : Str) == ("lows" : Str)) = false := by decide +kernel
  simp [List.lookup, h1]
def spFull (K : PySem.W.Frag) (BX CB : Addr) : Sp := fun vs H Q E => ∃ v, vs = [v] ∧ Known K H v ∧ (∀ n : Nat, v = .int n → 1 ≤ n → n ≤ 40 → ∀ x H2, Same H H2 → H x = none → BoxR H2 x BX (List.replicate n 0) (List.replicate n 999) → Q (.ref x) H2) ∧ (btw v 1 40 = false → ErrX E CB H [("position", .non)])
def spExact (K : PySem.W.Frag) (BX CB : Addr) : Sp := fun vs H Q E => ∃ v o, vs = [v] ∧ RowA K H o v ∧ (faultO o o = none → ∀ x H2, Same H H2 → H x = none → BoxV H2 x BX v v → Q (.ref x) H2) ∧ ∀ p, faultO o o = some p → ErrX E CB H [("position", p)]
section
variable {P : Program} {w : World} {K : PySem.W.Frag} {mg : Str → Option Value} {base : Heap}
theorem ok_Box_init {f BX CB : Addr} {fd : FuncData} (F : Fun K "__init__" "Box.__init__" s_Box_init f fd) (TB : BoxC K BX) (g_check_windows : DefR P w K mg base "_check_windows" 3 (spCW K CB)) : FnOk P w K mg base (L2.CX P w) 4 f fd ["self", "lows", "highs"] (spBoxI K BX CB) := by
  refine F.okX sc_Box_init (fun vs H Q E h => ?_) (fun cdv A outer s H vs Q E hr h => ?_)
  · obtain ⟨x, dx, v1, v2, o1, o2, rfl, _⟩ := h
    rfl
  · obtain ⟨x, dx, v1, v2, o1, o2, rfl, hx, r1, r2, q0, q1⟩ := h
    refine ⟨_, (pss_cons (ps_expr (pe_cd g_check_windows hr psE (pa_cons (pv 1) (pa_cons (pv 2) pa_nil))))
      (pss_cons (ps_fld (pv 0) (pv 1) rfl)
      (pss_one (ps_fld (pv 0) (pv 2) rfl)))), ?_⟩
    refine ⟨_, rfl, _, rfl, v1, v2, o1, o2, rfl, r1, r2, fun f0 H2 s2 => ?_, fun p f0 => q1 p f0⟩
    refine ⟨_, rfl, _, rfl, x, BX, dx, _, rfl, s2 _ _ hx, TB.cl, TB.nL, by show 0 < 1000; decide, ?_⟩
    refine ⟨_, rfl, _, rfl, x, BX, dx, _, rfl, upd_same, TB.cl, TB.nH, by show 1 < 1000; decide, ?_⟩
    refine q0 f0 _ (fun b o e ne => ?_) ⟨dx, ?_⟩
    · rw [upd_ne ne, upd_ne ne]
      exact s2 _ _ e
    · rw [upd_same, putL]
theorem ok_Box_exactly {f BX CB : Addr} {fd : FuncData} (F : Fun K "exactly" "Box.exactly" s_Box_exactly f fd) (ZB : BoxK K mg BX) (DB : ClsR P w K mg base BX 4 (spBoxI K BX CB)) : FnOk P w K mg base (L2.CX P w) 6 f fd ["state"] (spExact K BX CB) := by
  refine F.okX sc_Box_exactly (fun vs H Q E h => ?_) (fun cdv A outer s H vs Q E hr h => ?_)
  · obtain ⟨v, o, rfl, _⟩ := h
    rfl
  · obtain ⟨v, o, rfl, r, q0, q1⟩ := h
    refine ⟨_, (pss_one (ps_ret (pe_cc DB ZB.gB hr psE (pa_cons (pv 0) (pa_cons (pv 0) pa_nil))))), ?_⟩
    exact ⟨_, rfl, _, rfl, mkb_use r r q0 q1⟩
theorem ok_Box_full {f N BX CB : Addr} {fd : FuncData} (F : Fun K "full" "Box.full" s_Box_full f fd) (Z : NetK K mg N) (ZB : BoxK K mg BX) (g_is_between : DefR P w K mg base "is_between" 1 (spBtw K)) (t_InvalidBox : ExcR P w K mg base "InvalidBox" CB 1 1 flP) (DB : ClsR P w K mg base BX 4 (spBoxI K BX CB)) : FnOk P w K mg base (L2.CX P w) 6 f fd ["stages"] (spFull K BX CB) := by
  refine F.okX sc_Box_full (fun vs H Q E h => ?_) (fun cdv A outer s H vs Q E hr h => ?_)
  · obtain ⟨v, rfl, _⟩ := h
    rfl
  · obtain ⟨v, rfl, kv, q0, q1⟩ := h
    obtain ⟨mc, cr, ⟨u1, c1⟩, _⟩ := Z.cr
    obtain ⟨bc, br, ⟨w1, d1⟩, ⟨w2, d2⟩⟩ := ZB.cr
    refine ⟨_, (pss_cons (ps_if (pt_not (pt_val (pe_cd g_is_between hr psE (pa_cons (pv 0) (pa_cons pe_int (pa_cons (ClX.pe_cval (pe_glob (v := .ref N) (by rfl) Z.gN rfl)) pa_nil)))))) (pss_one (ps_raise rfl (takes_of rfl rfl rfl rfl) (pmk_x t_InvalidBox hr (pa_cons pe_non pa_nil)))) pss_nil)
      (pss_one (ps_ret (pe_cc DB ZB.gB hr psE (pa_cons (pe_op op_repA (pe_tup (pa_cons (ClX.pe_cval (pe_glob (v := .ref BX) (by rfl) ZB.gB rfl)) pa_nil)) (pv 0)) (pa_cons (pe_op op_repA (pe_tup (pa_cons (ClX.pe_cval (pe_glob (v := .ref BX) (by rfl) ZB.gB rfl)) pa_nil)) (pv 0)) pa_nil)))))), ?_⟩
    refine ⟨_, rfl, N, mc, _, u1, rfl, cr, c1, _, _, _, rfl, kv, _, rfl, ?_⟩
    cases e : btw v 1 40 with
    | false => exact iteT (x_use rfl (by decide) fun d hd => (q1 e).new d hd)
    | true =>
      refine iteF ?_
      obtain ⟨n, rfl, n1, n40⟩ : ∃ n : Nat, v = .int n ∧ 1 ≤ n ∧ n ≤ 40 := by
        cases v with
        | int i =>
          have e : (decide (1 ≤ i) && decide (i ≤ 40)) = true := e
          obtain ⟨a, b⟩ := Bool.and_eq_true_iff.mp e
          have a := of_decide_eq_true a
          have b := of_decide_eq_true b
          exact ⟨i.toNat, by rw [Int.toNat_of_nonneg (by omega)], by omega, by omega⟩
        | bl b => cases e
        | non => cases e
        | str z => cases e
        | ref a => cases e
        | byt b => cases e
        | flt b => cases e
        | ty n => cases e
      have fl : ∀ (c : Int), (List.replicate (n : Int).toNat [V.int c]).flatten = (List.replicate n c).map V.int := fun c => by
        rw [Int.toNat_natCast]
        clear q0 q1 e kv n1 n40
        induction n with
        | zero => rfl
        | succ n ih => rw [List.replicate_succ, List.flatten_cons, ih, List.replicate_succ]; rfl
      have mk : ∀ (c : Int) (H1 : Hp) (R : V → Hp → Prop), (∀ p H2, Same H1 H2 → H2 p = some (.tup ((List.replicate n c).map V.int)) → R (.ref p) H2) → ∀ p, H1 p = none → rRepA K (.ref p) (.int (n : Int)) (upd H1 p (.tup [.int c])) R := fun c H1 R k p hp => by
        have s1 : Same H1 (upd H1 p (.tup [.int c])) := Same.new hp
        refine ⟨p, (n : Int), [.int c], rfl, rfl, SqT.of upd_same, by simp, by omega, by omega, by simp, fun e1 => ?_, fun _ q hq => ?_⟩
        · refine k p _ s1 ?_
          have e2 : n = 1 := by omega
          rw [e2, upd_same]
          rfl
        · refine k q _ (s1.trans (Same.new hq)) ?_
          rw [upd_same, fl]
      refine ⟨BX, bc, _, w1, rfl, br, d1, by show 1 ≤ sizeLine; decide, fun p hp => ⟨_, rfl, mk 0 H _ (fun a H2 s2 ha => ?_) p hp⟩⟩
      refine ⟨BX, bc, _, w2, rfl, br, d2, by show 1 ≤ sizeLine; decide, fun p2 hp2 => ⟨_, rfl, mk 999 H2 _ (fun b H3 s3 hb => ?_) p2 hp2⟩⟩
      have ok : BxOk (List.replicate n 0) (List.replicate n 999) := ⟨by simp, by simp; exact n1, by simp; exact n40, fun c hc => by rw [(List.mem_replicate.mp hc).2]; decide, fun c hc => by rw [(List.mem_replicate.mp hc).2]; decide⟩
      have ha3 := s3 _ _ ha
      refine mkb_use (row_ints ha3 (by simp; omega)) (row_ints hb (by simp; omega)) (fun _ x H4 s4 hx hb4 => ?_) (fun p f0 => ?_)
      · refine q0 n rfl n1 n40 x H4 (s2.trans (s3.trans s4)) (Same.free (s2.trans s3) hx) ⟨a, b, hb4, s4 _ _ ha3, s4 _ _ hb⟩
      · rw [fault_ok ok] at f0
        cases f0
end
end WC

set_option maxHeartbeats 8000000
namespace WC
open PySem PySem.Spec PyProof.Rows L2
def mx2 (i j : Int) : Int := if j > i then j else i
def mn2 (i j : Int) : Int := if j < i then j else i
theorem mx2_in {i j : Int} (h : 0 ≤ i ∧ i ≤ 999) (g : 0 ≤ j ∧ j ≤ 999) : 0 ≤ mx2 i j ∧ mx2 i j ≤ 999 := by unfold mx2; split <;> omega
theorem mn2_in {i j : Int} (h : 0 ≤ i ∧ i ≤ 999) (g : 0 ≤ j ∧ j ≤ 999) : 0 ≤ mn2 i j ∧ mn2 i j ≤ 999 := by unfold mn2; split <;> omega
/-- the rows cut down at k -/
def cutL (lo : List Int) (k : Nat) (l : Int) : List Int := lo.set k (mx2 (lo.getD k 0) l)
def cutH (hi : List Int) (k : Nat) (h : Int) : List Int := hi.set k (mn2 (hi.getD k 0) h)
theorem getD_in {lo : List Int} {k : Nat} (h : ∀ c ∈ lo, 0 ≤ c ∧ c ≤ 999) : 0 ≤ lo.getD k 0 ∧ lo.getD k 0 ≤ 999 := by
  rw [List.getD_eq_getElem?_getD]
  cases e : lo[k]? with
  | none => exact ⟨Int.le_refl _, by decide⟩
  | some c => exact h c (List.mem_of_getElem? e)
theorem set_in {lo : List Int} {k : Nat} {c : Int} (h : ∀ c ∈ lo, 0 ≤ c ∧ c ≤ 999) (g : 0 ≤ c ∧ c ≤ 999) : ∀ d ∈ lo.set k c, 0 ≤ d ∧ d ≤ 999 := fun d hd => by
  rcases List.mem_or_eq_of_mem_set hd with e | e
  · exact h d e
  · rw [e]; exact g
theorem BxOk.cut {lo hi : List Int} (b : BxOk lo hi) {k : Nat} {l h : Int} (hl : 0 ≤ l ∧ l ≤ 999) (hh : 0 ≤ h ∧ h ≤ 999) : BxOk (cutL lo k l) (cutH hi k h) := by
  unfold cutL cutH
  exact ⟨by rw [List.length_set, List.length_set, b.len], by rw [List.length_set]; exact b.n1, by rw [List.length_set]; exact b.n40, set_in b.lo0 (mx2_in (getD_in b.lo0) hl), set_in b.hi0 (mn2_in (getD_in b.hi0) hh)⟩
def spNar (K : PySem.W.Frag) (BX CB CN : Addr) : Sp := fun vs H Q E => ∃ x lo hi stage low high, vs = [.ref x, stage, low, high] ∧ BoxR H x BX lo hi ∧ BxOk lo hi ∧ Known K H stage ∧ Known K H low ∧ Known K H high ∧
  (btw stage 0 ((lo.length : Int) - 1) = false → ErrX E CN H [("number", stage)]) ∧ (btw stage 0 ((lo.length : Int) - 1) = true → (gC low && gC high) = false → ErrX E CB H [("position", stage)]) ∧
  ∀ (k : Nat) (l h : Int), stage = .int k → k < lo.length → low = .int l → high = .int h → (0 ≤ l ∧ l ≤ 999) → (0 ≤ h ∧ h ≤ 999) → ∀ y H2, Same H H2 → H y = none → BoxR H2 y BX (cutL lo k l) (cutH hi k h) → Q (.ref y) H2
theorem at_int {lo : List Int} {k : Nat} (h : k < lo.length) : (lo.map V.int)[k]? = some (.int (lo.getD k 0)) := by
  rw [List.getElem?_map, List.getD_eq_getElem?_getD, List.getElem?_eq_getElem h]
  rfl
theorem ixn18 {n p : Nat} (h : p < n) : ixN n (p : Int) = some p := by
  unfold ixN
  rw [if_pos (by omega), if_pos (by omega), Int.toNat_natCast]
section
variable {P : Program} {w : World} {K : PySem.W.Frag} {mg : Str → Option Value} {base : Heap}
theorem ok_Box_narrowed {f BX CB CN : Addr} {fd : FuncData} (F : Fun K "narrowed" "Box.narrowed" s_Box_narrowed f fd) (B : Blt mg) (ZB : BoxK K mg BX) (TB : BoxC K BX) (g_check_number : DefR P w K mg base "check_number" 3 (spCheckNumber K CN)) (g_is_counter : DefR P w K mg base "_is_counter" 2 (spIC K)) (t_InvalidBox : ExcR P w K mg base "InvalidBox" CB 1 1 flP) (DB : ClsR P w K mg base BX 4 (spBoxI K BX CB)) : FnOk P w K mg base (L2.CX P w) 6 f fd ["self", "stage", "low", "high"] (spNar K BX CB CN) := by
  refine F.okX sc_Box_narrowed (fun vs H Q E h => ?_) (fun cdv A outer s H vs Q E hr h => ?_)
  · obtain ⟨x, lo, hi, stage, low, high, rfl, _⟩ := h
    rfl
  · obtain ⟨x, lo, hi, stage, low, high, rfl, ⟨a, b, ⟨dx, hx⟩, ha, hb⟩, ok, ks, kl, kh, q1, q2, q3⟩ := h
    -- slots: 0 self, 1 stage, 2 low, 3 high, 4 lows, 5 highs
    refine ⟨_, (pss_cons (ps_expr (pe_cd g_check_number hr psE (pa_cons (pv 1) (pa_cons (pe_callB call_len_seq (by rfl) B.len bt_len (pa_cons (pe_fld (pv 0) rfl) pa_nil)) pa_nil))))
      (pss_cons (ps_if (PW.pt (pw_or (pt_not (pt_val (pe_cd g_is_counter hr psE (pa_cons (pv 2) pa_nil)))) (pw_or1 (pt_not (pt_val (pe_cd g_is_counter hr psE (pa_cons (pv 3) pa_nil))))))) (pss_one (ps_raise rfl (takes_of rfl rfl rfl rfl) (pmk_x t_InvalidBox hr (pa_cons (pv 1) pa_nil)))) pss_nil)
      (pss_cons (ps_set (i := 4) sc_Box_narrowed.nd rfl (Or.inl rfl) (pe_callTy (T := "list") call_list_of (by rfl) B.list bt_list (pa_cons (pe_fld (pv 0) rfl) pa_nil)))
      (pss_cons (ps_set (i := 5) sc_Box_narrowed.nd rfl (Or.inl rfl) (pe_callTy (T := "list") call_list_of (by rfl) B.list bt_list (pa_cons (pe_fld (pv 0) rfl) pa_nil)))
      (pss_cons (ps_asg (pe_callB (call_max2 rfl) (by rfl) B.max boot_max (pa_cons (pe_ix ix_list (pv 4) (pv 1) (fun _ _ => rfl)) (pa_cons (pv 2) pa_nil))) (pg_sub (pv 4) (pv 1) set_list))
      (pss_cons (ps_asg (pe_callB (call_min2 rfl) (by rfl) B.min boot_min (pa_cons (pe_ix ix_list (pv 5) (pv 1) (fun _ _ => rfl)) (pa_cons (pv 3) pa_nil))) (pg_sub (pv 5) (pv 1) set_list))
      (pss_one (ps_ret (pe_cc DB ZB.gB hr psE (pa_cons (pe_callTy (T := "tuple") (c_tup (K := K)) (by rfl) B.tuple bt_tuple (pa_cons (pv 4) pa_nil)) (pa_cons (pe_callTy (T := "tuple") (c_tup (K := K)) (by rfl) B.tuple bt_tuple (pa_cons (pv 5) pa_nil)) pa_nil))))))))))), ?_⟩
    refine ⟨_, rfl, _, rfl, x, BX, dx, _, _, rfl, hx, TB.cl, TB.nL, lk_lo, a, _, rfl, .inr (SqT.of ha), stage, _, rfl, ks, fun e1 => ?_, fun e1 => ?_⟩
    · have e1 : btw stage 0 ((lo.length : Int) - 1) = true := by rw [List.length_map] at e1; exact e1
      obtain ⟨k, rfl, hk⟩ : ∃ k : Nat, stage = .int k ∧ k < lo.length := by
        cases stage with
        | int i =>
          have e : (decide (0 ≤ i) && decide (i ≤ (lo.length : Int) - 1)) = true := e1
          obtain ⟨z1, z2⟩ := Bool.and_eq_true_iff.mp e
          have z1 := of_decide_eq_true z1
          have z2 := of_decide_eq_true z2
          exact ⟨i.toNat, by rw [Int.toNat_of_nonneg z1], by omega⟩
        | bl b => cases e1
        | non => cases e1
        | str z => cases e1
        | ref a => cases e1
        | byt b => cases e1
        | flt b => cases e1
        | ty n => cases e1
      refine ⟨_, rfl, low, rfl, kl, _, rfl, ?_⟩
      cases gl : gC low with
      | false => exact iteT (iteT ⟨_, rfl, x_use rfl (by decide) fun d hd => (q2 e1 (by rw [gl]; rfl)).new d hd⟩)
      | true =>
        refine iteF ⟨_, rfl, high, rfl, kh, _, rfl, ?_⟩
        cases gh : gC high with
        | false => exact iteT ⟨_, rfl, x_use rfl (by decide) fun d hd => (q2 e1 (by rw [gl, gh]; rfl)).new d hd⟩
        | true =>
          obtain ⟨l, rfl, hl⟩ := gC_is gl
          obtain ⟨h, rfl, hh⟩ := gC_is gh
          have q3 := q3 k l h rfl hk rfl rfl hl hh
          have hk2 : k < hi.length := by rw [← ok.len]; exact hk
          refine iteF ⟨_, rfl, x, BX, dx, _, _, rfl, hx, TB.cl, TB.nL, lk_lo, a, _, rfl, .inr (SqT.of ha), fun p hp => ?_⟩
          have s1 : Same H (upd H p (.lst (lo.map V.int))) := Same.new hp
          obtain ⟨H1, e1⟩ : ∃ H1, H1 = upd H p (.lst (lo.map V.int)) := ⟨_, rfl⟩
          rw [← e1] at s1
          have hp1 : H1 p = some (.lst (lo.map V.int)) := by rw [e1, upd_same]
          show gName 4 (.ref p) _ (upd H p (.lst (lo.map V.int))) _
          rw [← e1]
          refine ⟨_, rfl, x, BX, dx, _, _, rfl, s1 _ _ hx, TB.cl, TB.nH, lk_hi, b, _, rfl, .inr (SqT.of (s1 _ _ hb)), fun q hq => ?_⟩
          have s2 : Same H1 (upd H1 q (.lst (hi.map V.int))) := Same.new hq
          obtain ⟨H2, e2⟩ : ∃ H2, H2 = upd H1 q (.lst (hi.map V.int)) := ⟨_, rfl⟩
          rw [← e2] at s2
          have pq : p ≠ q := ne_of_none hp1 hq
          have hq2 : H2 q = some (.lst (hi.map V.int)) := by rw [e2, upd_same]
          have hp2 := s2 _ _ hp1
          show gName 5 (.ref q) _ (upd H1 q (.lst (hi.map V.int))) _
          rw [← e2]
          refine ⟨_, rfl, _, rfl, p, _, _, _, rfl, rfl, SqL.of hp2, atI_nat (at_int hk), _, rfl, _, _, rfl, _, rfl, _, rfl, p, _, _, k, rfl, rfl, hp2, ixn18 (by rw [List.length_map]; exact hk), ?_⟩
          obtain ⟨H3, e3⟩ : ∃ H3, H3 = upd H2 p (.lst ((cutL lo k l).map V.int)) := ⟨_, rfl⟩
          rw [show upd H2 p (.lst ((lo.map V.int).set k (.int (if l > lo.getD k 0 then l else lo.getD k 0)))) = H3 from by rw [e3]; unfold cutL mx2; rw [List.map_set]]
          have hp3 : H3 p = some (.lst ((cutL lo k l).map V.int)) := by rw [e3, upd_same]
          have hq3 : H3 q = some (.lst (hi.map V.int)) := by rw [e3, upd_ne (Ne.symm pq)]; exact hq2
          refine ⟨_, rfl, _, rfl, q, _, _, _, rfl, rfl, SqL.of hq3, atI_nat (at_int hk2), _, rfl, _, _, rfl, _, rfl, _, rfl, q, _, _, k, rfl, rfl, hq3, ixn18 (by rw [List.length_map]; exact hk2), ?_⟩
          obtain ⟨H4, e4⟩ : ∃ H4, H4 = upd H3 q (.lst ((cutH hi k h).map V.int)) := ⟨_, rfl⟩
          rw [show upd H3 q (.lst ((hi.map V.int).set k (.int (if h < hi.getD k 0 then h else hi.getD k 0)))) = H4 from by rw [e4]; unfold cutH mn2; rw [List.map_set]]
          have hp4 : H4 p = some (.lst ((cutL lo k l).map V.int)) := by rw [e4, upd_ne pq]; exact hp3
          have hq4 : H4 q = some (.lst ((cutH hi k h).map V.int)) := by rw [e4, upd_same]
          have pH : H p = none := hp
          have qH : H q = none := s1.free hq
          have s4 : Same H H4 := fun c o e => by
            have c1 : c ≠ p := ne_of_none e pH
            have c2 : c ≠ q := ne_of_none e qH
            rw [e4, upd_ne c2, e3, upd_ne c1]
            exact s2 _ _ (s1 _ _ e)
          have ok2 := ok.cut (k := k) hl hh
          refine ⟨_, rfl, p, _, rfl, .inl ⟨SqL.of hp4, fun a2 ha2 => ?_⟩⟩
          refine ⟨_, rfl, q, _, rfl, .inl ⟨SqL.of (Same.new ha2 _ _ hq4), fun b2 hb2 => ?_⟩⟩
          have s5 : Same H4 (upd H4 a2 (.tup ((cutL lo k l).map V.int))) := Same.new ha2
          have s6 := Same.new (o := .tup ((cutH hi k h).map V.int)) hb2
          have ta : upd (upd H4 a2 (.tup ((cutL lo k l).map V.int))) b2 (.tup ((cutH hi k h).map V.int)) a2 = some (.tup ((cutL lo k l).map V.int)) := s6 _ _ upd_same
          have tb : upd (upd H4 a2 (.tup ((cutL lo k l).map V.int))) b2 (.tup ((cutH hi k h).map V.int)) b2 = some (.tup ((cutH hi k h).map V.int)) := upd_same
          have n2 := ok2.n40
          have n3 := ok2.m40
          refine mkb_use (row_ints ta (by omega)) (row_ints tb (by omega)) (fun _ y H5 s7 hy b5 => ?_) (fun p2 f0 => ?_)
          · exact q3 y H5 (s4.trans (s5.trans (s6.trans s7))) (Same.free (s4.trans (s5.trans s6)) hy) ⟨a2, b2, b5, s7 _ _ ta, s7 _ _ tb⟩
          · rw [fault_ok ok2] at f0
            cases f0
    · have e1 : btw stage 0 ((lo.length : Int) - 1) = false := by rw [List.length_map] at e1; exact e1
      exact fun d hd => (q1 e1).new d hd
end
end WC

set_option maxHeartbeats 8000000
namespace WC
open PySem PySem.Spec PyProof.Rows L2
theorem unR {k : Nat} {A : Around} (r : Room k A) : A.units + 64 < cLine := by have := r.un; omega
theorem un65 {k : Nat} {A : Around} (r : Room k A) : A.units + 65 < cLine := by have := r.un; omega
theorem eqv_ints : ∀ a b : List Int, PyData.eqvAll (a.map PyData.int) (b.map PyData.int) = decide (a = b)
  | [], [] => by simp [PyData.eqvAll]
  | [], d :: ds => by simp [PyData.eqvAll]
  | c :: cs, [] => by simp [PyData.eqvAll]
  | c :: cs, d :: ds => by
    simp only [List.map_cons, PyData.eqvAll, PyData.eqv, eqv_ints cs ds]
    by_cases h1 : c = d <;> by_cases h4 : cs = ds <;> simp [h1, h4]
theorem lay_ints : ∀ cs : List Int, PyData.canLayAll0 (cs.map PyData.int) = true
  | [] => by simp only [List.map_nil, PyData.canLayAll0]
  | c :: cs => by simp only [List.map_cons, PyData.canLayAll0, PyData.canLay0, lay_ints cs, Bool.and_true, Bool.true_and]
theorem dep_ints : ∀ cs : List Int, PyData.depthAll (cs.map PyData.int) ≤ 3
  | [] => by simp only [List.map_nil, PyData.depthAll]; omega
  | c :: cs => by
    have := dep_ints cs
    simp only [List.map_cons, PyData.depthAll, PyData.depth]
    omega
theorem shaped_intsT (cs : List Int) : SeqAt.shaped (.tuple (cs.map PyData.int)) = true := by
  unfold SeqAt.shaped
  rw [Bool.and_eq_true, decide_eq_true_iff]
  refine ⟨by simp only [PyData.canLay0]; exact lay_ints cs, ?_⟩
  have := dep_ints cs
  simp only [PyData.depth]
  omega
theorem shaped_ints (cs : List Int) : SeqAt.shaped (.list (cs.map PyData.int)) = true := by
  unfold SeqAt.shaped
  rw [Bool.and_eq_true, decide_eq_true_iff]
  refine ⟨by simp only [PyData.canLay0]; exact lay_ints cs, ?_⟩
  have := dep_ints cs
  simp only [PyData.depth]
  omega
theorem dp_ints {K : PySem.W.Frag} {H : Hp} : ∀ cs : List Int, DpAll K H (cs.map V.int) (cs.map PyData.int)
  | [] => .nil
  | c :: cs => .cons (.int c) (dp_ints cs)
/-- isinstance(v, Box) -/
def IsBx (K : PySem.W.Frag) (BX : Addr) (H : Hp) (v : V) (r : Bool) : Prop := ∃ T, TyX K H v T ∧ PySem.W.kitOne K T (.ref BX) = some r
structure BoxI (K : PySem.W.Frag) (BX : Addr) : Prop where
  ha : PySem.W.findIn K (.ref BX) "__class__" = some (some (.builtin "object.__class__"))
  hn : PySem.W.specialIn K (.builtin "object.__class__") "__get__" = some (some (.builtin "getset_descriptor.__get__"))
  htk : PySem.W.takesIn K (.builtin "object.__class__") = some true
  hm : PySem.W.mroIn K BX (.type "object") = some true
  is : PySem.W.kitOne K (.ref BX) (.ref BX) = some true
  tu : PySem.W.kitOne K (.ref BX) (.type "tuple") = some false
  kN : PySem.W.kitOne K (.type "NoneType") (.ref BX) = some false
  kI : PySem.W.kitOne K (.type "int") (.ref BX) = some false
  kB : PySem.W.kitOne K (.type "bool") (.ref BX) = some false
  kS : PySem.W.kitOne K (.type "str") (.ref BX) = some false
  kT : PySem.W.kitOne K (.type "tuple") (.ref BX) = some false
  kL : PySem.W.kitOne K (.type "list") (.ref BX) = some false
theorem BoxI.kit {K : PySem.W.Frag} {BX : Addr} {H : Hp} {v : V} (F : BoxI K BX) (k : Known K H v) : IsBx K BX H v false := by
  refine ⟨_, k.ty, ?_⟩
  cases v with
  | int i => exact F.kI
  | bl b => exact F.kB
  | non => exact F.kN
  | str z => exact F.kS
  | ref a => rcases @tyN_ref H a with q | q <;> rw [q]; exact F.kT; exact F.kL
  | byt b => exact k.elim
  | flt b => exact k.elim
  | ty n => exact k.elim
theorem BoxI.own {K : PySem.W.Frag} {BX x : Addr} {H : Hp} {u v : V} (F : BoxI K BX) (c : Cls K BX) (h : BoxV H x BX u v) : TyX K H (.ref x) (.ref BX) := by
  obtain ⟨dx, h⟩ := h
  exact .base (.ins h c F.ha F.hn F.htk F.hm)
/-- what is asked for in a box: a tuple of these items or another value -/
def PrA (K : PySem.W.Frag) (H : Hp) (o : Option (List V)) (v : V) : Prop := match o with
  | some xs => (∃ a, v = .ref a ∧ H a = some (.tup xs)) ∧ xs.length ≤ 1000 ∧ ∀ x ∈ xs, Known K H x
  | none => IsTu K H v false
theorem RowA.pr {K : PySem.W.Frag} {H : Hp} {o : Option (List V)} {v : V} (r : RowA K H o v) : PrA K H o v := by
  cases o with
  | some xs => exact r
  | none => exact r.tu
def bsI (xs : List V) (lo hi : List Int) : List Bool := (xs.zip (lo.zip hi)).map fun p => btw p.1 p.2.1 p.2.2
def inO (o : Option (List V)) (lo hi : List Int) : Bool := match o with
  | some xs => decide (xs.length = lo.length) && (bsI xs lo hi).all id
  | none => false
theorem bsI_at {xs : List V} {lo hi : List Int} {i : Nat} {x : V} {l h : Int} (e1 : xs[i]? = some x) (e2 : lo[i]? = some l) (e3 : hi[i]? = some h) : (bsI xs lo hi)[i]? = some (btw x l h) := by
  unfold bsI
  have z1 : (lo.zip hi)[i]? = some (l, h) := by rw [List.getElem?_zip_eq_some]; exact ⟨e2, e3⟩
  have z2 : (xs.zip (lo.zip hi))[i]? = some (x, (l, h)) := by rw [List.getElem?_zip_eq_some]; exact ⟨e1, z1⟩
  rw [List.getElem?_map, z2]
  rfl
def bsB (lo hi : List Int) : List Bool := (lo.zip hi).map fun p => decide (p.1 ≤ p.2)
theorem bsB_at {lo hi : List Int} {i : Nat} {l h : Int} (e2 : lo[i]? = some l) (e3 : hi[i]? = some h) : (bsB lo hi)[i]? = some (decide (l ≤ h)) := by
  unfold bsB
  have z1 : (lo.zip hi)[i]? = some (l, h) := by rw [List.getElem?_zip_eq_some]; exact ⟨e2, e3⟩
  rw [List.getElem?_map, z1]
  rfl
theorem mapI {lo : List Int} {i : Nat} {y : V} (h : (lo.map V.int)[i]? = some y) : ∃ l : Int, lo[i]? = some l ∧ y = .int l := by
  rw [List.getElem?_map] at h
  cases e : lo[i]? with
  | none => rw [e] at h; cases h
  | some l => rw [e] at h; exact ⟨l, rfl, (Option.some.inj h).symm⟩
theorem snocB {bs : List Bool} {i : Nat} {b : Bool} (h : bs[i]? = some b) : (bs.take i).map V.bl ++ [V.bl b] = (bs.take (i + 1)).map V.bl := by
  rw [take_snoc h, List.map_append]
  rfl
theorem snocI {bs : List Int} {i : Nat} {b : Int} (h : bs[i]? = some b) : (bs.take i).map V.int ++ [V.int b] = (bs.take (i + 1)).map V.int := by
  rw [take_snoc h, List.map_append]
  rfl
def spCon (K : PySem.W.Frag) (BX : Addr) : Sp := fun vs H Q _ => ∃ x v o lo hi, vs = [.ref x, v] ∧ BoxR H x BX lo hi ∧ BxOk lo hi ∧ PrA K H o v ∧ ∀ H2, Same H H2 → Q (.bl (inO o lo hi)) H2
def spBoo (BX : Addr) : Sp := fun vs H Q _ => ∃ x lo hi, vs = [.ref x] ∧ BoxR H x BX lo hi ∧ BxOk lo hi ∧ ∀ H2, Same H H2 → Q (.bl ((bsB lo hi).all id)) H2
def spAnd (BX CB : Addr) : Sp := fun vs H Q E => ∃ x y lo hi lo2 hi2, vs = [.ref x, .ref y] ∧ BoxR H x BX lo hi ∧ BxOk lo hi ∧ BoxR H y BX lo2 hi2 ∧ BxOk lo2 hi2 ∧ (lo.length ≠ lo2.length → ErrX E CB H [("position", .non)]) ∧
  (lo.length = lo2.length → ∀ z H2, Same H H2 → H z = none → BoxR H2 z BX (List.zipWith mx2 lo lo2) (List.zipWith mn2 hi hi2) → Q (.ref z) H2)
def spEqBx (K : PySem.W.Frag) (BX : Addr) : Sp := fun vs H Q _ => ∃ x v lo hi, vs = [.ref x, v] ∧ BoxR H x BX lo hi ∧ ((IsBx K BX H v false ∧ Q (.bl false) H) ∨ ∃ y lo2 hi2, v = .ref y ∧ BoxR H y BX lo2 hi2 ∧ Q (.bl (decide (lo = lo2) && decide (hi = hi2))) H)
section
variable {P : Program} {w : World} {K : PySem.W.Frag} {mg : Str → Option Value} {base : Heap}
theorem ok_Box_contains {f BX : Addr} {fd : FuncData} (F : Fun K "__contains__" "Box.__contains__" s_Box_contains f fd) (B : Blt mg) (B2 : Blt2 mg) (TB : BoxC K BX) (g_is_between : DefR P w K mg base "is_between" 1 (spBtw K)) : FnOk P w K mg base (L2.CX P w) 2 f fd ["self", "state"] (spCon K BX) := by
  refine F.okX sc_Box_contains (fun vs H Q E h => ?_) (fun cdv A outer s H vs Q E hr h => ?_)
  · obtain ⟨x, v, o, lo, hi, rfl, _⟩ := h
    rfl
  · obtain ⟨x, v, o, lo, hi, rfl, ⟨a, b, ⟨dx, hx⟩, ha, hb⟩, ok, pr, q⟩ := h
    -- slots: 0 self, 1 state, 2 counter, 3 low, 4 high
    refine ⟨_, (pss_cons (ps_if (PW.pt (pw_or (pt_not (pt_val (pe_callB call_isi (by rfl) B.isi bt_isi (pa_cons (pv 1) (pa_cons (pe_bltn (v := .ty "tuple") (by rfl) B.tuple bt_tuple rfl) pa_nil))))) (pw_or1 (pt_cmpR op_ne (pe_callB call_len_seq (by rfl) B.len bt_len (pa_cons (pv 1) pa_nil)) (pe_callB call_len_seq (by rfl) B.len bt_len (pa_cons (pe_fld (pv 0) rfl) pa_nil)) (nomark _))))) (pss_one (ps_ret pe_bl)) pss_nil)
      (pss_one (ps_ret (pe_callB (cr_all rfl) (by rfl) B.all bt_all (pa_cons (pe_lc (own := [("counter", 2), ("low", 3), ("high", 4)]) rfl sc_Box_contains.nd (pi_zip3 B2.zip (pa_cons (pv 1) (pa_cons (pe_fld (pv 0) rfl) (pa_cons (pe_fld (pv 0) rfl) pa_nil)))) (blkOk_by (N := nn_Box_contains) (sc := defScope s_Box_contains) (own := [("counter", 2), ("low", 3), ("high", 4)]) (by decide +kernel)) (fun _ _ _ _ _ => (pg_tupK (K := K) (n := 3) rfl (pgs_cons (pg_name (i := 2) sc_Box_contains.nd rfl (Or.inl rfl)) (pgs_cons (pg_name (i := 3) sc_Box_contains.nd rfl (Or.inl rfl)) (pgs_cons (pg_name (i := 4) sc_Box_contains.nd rfl (Or.inl rfl)) pgs_nil))))) (fun _ _ _ _ _ => pts_nil) (fun _ _ _ _ _ => (pe_cd g_is_between (by exact hr) passL (pa_cons (pv 2) (pa_cons (pv 3) (pa_cons (pv 4) pa_nil)))))) pa_nil))))), ?_⟩
    have tu : IsTu K H v o.isSome := by
      cases o with
      | none => exact pr
      | some xs =>
        obtain ⟨⟨t, rfl, ht⟩, _⟩ := pr
        exact tup_tu ht
    obtain ⟨T, ty, kt⟩ := tu
    refine ⟨_, rfl, _, _, _, _, _, rfl, .ty _, ty, kt, _, rfl, ?_⟩
    cases o with
    | none => exact iteT (iteT (q H (Same.refl H)))
    | some xs =>
      obtain ⟨⟨t, rfl, ht⟩, hl, kx⟩ := pr
      refine iteF ⟨_, rfl, t, _, rfl, .inr (SqT.of ht), _, rfl, x, BX, dx, _, _, rfl, hx, TB.cl, TB.nL, lk_lo, a, _, rfl, .inr (SqT.of ha), rfl, _, rfl, ?_⟩
      by_cases el : xs.length = lo.length
      · rw [show (!decide (V.int (xs.length : Nat) = V.int ((lo.map V.int).length : Nat))) = false by simp [el]]
        refine iteF ⟨_, rfl, _, rfl, x, BX, dx, _, _, rfl, hx, TB.cl, TB.nL, lk_lo, _, rfl, x, BX, dx, _, _, rfl, hx, TB.cl, TB.nH, lk_hi, t, a, b, xs, lo.map V.int, hi.map V.int, true, true, true, rfl, SqT.of ht, SqT.of ha, SqT.of hb, fun D hD => ?_⟩
        have ln := ok.n40
        have le := ok.len
        refine lc_it (walk_zip3 (by rw [List.length_map]; exact el) (by rw [List.length_map]; omega)) (fun i H2 => Same H H2 ∧ H2 D = some (.lst (((bsI xs lo hi).take i).map V.bl))) ⟨Same.new hD, by rw [upd_same]; rfl⟩ (fun i H2 _ z => ⟨SqT.of (z.1 _ _ ht), SqT.of (z.1 _ _ ha), SqT.of (z.1 _ _ hb)⟩) ?_ ?_
        · rintro i x2 H2 H3 hi2 ⟨s2, hd⟩ ⟨T1, u, y2, z2, rfl, hT, rfl, hu, hy, hz⟩
          obtain ⟨l, hl2, rfl⟩ := mapI hy
          obtain ⟨h, hh2, rfl⟩ := mapI hz
          have s3 : Same H2 (upd H2 T1 (.tup [u, .int l, .int h])) := Same.new hT
          have ku := (kx u (List.mem_of_getElem? hu)).same (s2.trans s3)
          refine ⟨T1, _, rfl, SqT.of upd_same, rfl, _, _, rfl, _, _, rfl, _, _, rfl, rfl, rfl, yes ⟨_, rfl, _, rfl, _, rfl, u, l, h, rfl, ku, _, s3 _ _ hd, ?_, ?_, ?_⟩⟩
          · rw [List.length_map, List.length_take]
            exact line_lt (by omega)
          · exact Same.newer (s2.trans s3) hD
          · rw [upd_same, snocB (bsI_at hu hl2 hh2)]
        · rintro H2 ⟨s2, hd⟩
          have e2 : (bsI xs lo hi).take xs.length = bsI xs lo hi := List.take_of_length_le (by unfold bsI; rw [List.length_map, List.length_zip]; omega)
          rw [e2] at hd
          have q2 := q H2 s2
          have e3 : inO (some xs) lo hi = (bsI xs lo hi).all id := by
            show (decide (xs.length = lo.length) && _) = _
            rw [decide_eq_true el, Bool.true_and]
          rw [e3] at q2
          exact ⟨D, _, rfl, SqL.of hd, q2⟩
      · rw [show (!decide (V.int (xs.length : Nat) = V.int ((lo.map V.int).length : Nat))) = true by simp; omega]
        refine iteT ?_
        have q2 := q H (Same.refl H)
        have e3 : inO (some xs) lo hi = false := by
          show (decide (xs.length = lo.length) && _) = _
          rw [decide_eq_false el, Bool.false_and]
        rw [e3] at q2
        exact q2
theorem ok_Box_bool {f BX : Addr} {fd : FuncData} (F : Fun K "__bool__" "Box.__bool__" s_Box_bool f fd) (B : Blt mg) (B2 : Blt2 mg) (TB : BoxC K BX) : FnOk P w K mg base (L2.CX P w) 1 f fd ["self"] (spBoo BX) := by
  refine F.okX sc_Box_bool (fun vs H Q E h => ?_) (fun cdv A outer s H vs Q E hr h => ?_)
  · obtain ⟨x, lo, hi, rfl, _⟩ := h
    rfl
  · obtain ⟨x, lo, hi, rfl, ⟨a, b, ⟨dx, hx⟩, ha, hb⟩, ok, q⟩ := h
    -- slots: 0 self, 1 low, 2 high
    refine ⟨_, (pss_one (ps_ret (pe_callB (cr_all rfl) (by rfl) B.all bt_all (pa_cons (pe_lc (own := [("low", 1), ("high", 2)]) rfl sc_Box_bool.nd (pi_zipM B2.zip (pa_cons (pe_fld (pv 0) rfl) (pa_cons (pe_fld (pv 0) rfl) pa_nil))) (blkOk_by (N := nn_Box_bool) (sc := defScope s_Box_bool) (own := [("low", 1), ("high", 2)]) (by decide +kernel)) (fun _ _ _ _ _ => (pg_tupK (K := K) (n := 2) rfl (pgs_cons (pg_name (i := 1) sc_Box_bool.nd rfl (Or.inl rfl)) (pgs_cons (pg_name (i := 2) sc_Box_bool.nd rfl (Or.inl rfl)) pgs_nil)))) (fun _ _ _ _ _ => pts_nil) (fun _ _ _ _ _ => (pe_cmpR op_le (pv 1) (pv 2) (nomark _)))) pa_nil)))), ?_⟩
    refine ⟨_, rfl, x, BX, dx, _, _, rfl, hx, TB.cl, TB.nL, lk_lo, _, rfl, x, BX, dx, _, _, rfl, hx, TB.cl, TB.nH, lk_hi, a, b, lo.map V.int, hi.map V.int, true, true, rfl, SqT.of ha, SqT.of hb, fun D hD => ?_⟩
    have ln := ok.n40
    have le := ok.len
    refine lc_it (walk_zipM (by rw [List.length_map, List.length_map]; exact le)) (fun i H2 => Same H H2 ∧ H2 D = some (.lst (((bsB lo hi).take i).map V.bl))) ⟨Same.new hD, by rw [upd_same]; rfl⟩ (fun i H2 _ z => ⟨SqT.of (z.1 _ _ ha), SqT.of (z.1 _ _ hb)⟩) ?_ ?_
    · rintro i x2 H2 H3 hi2 ⟨s2, hd⟩ ⟨T1, u, y2, rfl, hT, rfl, hu, hy⟩
      obtain ⟨l, hl2, rfl⟩ := mapI hu
      obtain ⟨h, hh2, rfl⟩ := mapI hy
      have s3 : Same H2 (upd H2 T1 (.tup [.int l, .int h])) := Same.new hT
      refine ⟨T1, _, rfl, SqT.of upd_same, rfl, _, _, rfl, _, _, rfl, rfl, rfl, yes ⟨_, rfl, _, rfl, _, _, rfl, rfl, _, s3 _ _ hd, ?_, ?_, ?_⟩⟩
      · rw [List.length_map, List.length_take]
        rw [List.length_map] at hi2
        exact line_lt (by omega)
      · exact Same.newer (s2.trans s3) hD
      · rw [upd_same, snocB (bsB_at hl2 hh2)]
    · rintro H2 ⟨s2, hd⟩
      have e2 : (bsB lo hi).take (lo.map V.int).length = bsB lo hi := List.take_of_length_le (by unfold bsB; rw [List.length_map, List.length_zip, List.length_map]; omega)
      rw [e2] at hd
      exact ⟨D, _, rfl, SqL.of hd, q H2 s2⟩
theorem ok_Box_eq {f BX : Addr} {fd : FuncData} (F : Fun K "__eq__" "Box.__eq__" s_Box_eq f fd) (B : Blt mg) (ZB : BoxK K mg BX) (TB : BoxC K BX) (TI : BoxI K BX) : FnOk P w K mg base (L2.CX P w) 2 f fd ["self", "other"] (spEqBx K BX) := by
  refine F.okX sc_Box_eq (fun vs H Q E h => ?_) (fun cdv A outer s H vs Q E hr h => ?_)
  · obtain ⟨x, v, lo, hi, rfl, _⟩ := h
    rfl
  · obtain ⟨x, v, lo, hi, rfl, ⟨a, b, ⟨dx, hx⟩, ha, hb⟩, h⟩ := h
    -- slots: 0 self, 1 other
    refine ⟨_, (pss_one (ps_ret (pe_and (pe_callB call_isi (by rfl) B.isi bt_isi (pa_cons (pv 1) (pa_cons (pe_glob (v := .ref BX) (by rfl) ZB.gB rfl) pa_nil))) (pe_and (pe_cmpR (op_eqD (unR hr)) (pe_fld (pv 0) rfl) (pe_fld (pv 1) rfl) (nomark _)) (pe_one (pe_cmpR (op_eqD (unR hr)) (pe_fld (pv 0) rfl) (pe_fld (pv 1) rfl) (nomark _))))))), ?_⟩
    rcases h with ⟨⟨T, ty, kt⟩, q⟩ | ⟨y, lo2, hi2, rfl, ⟨a2, b2, bv, ha2, hb2⟩, q⟩
    · exact ⟨_, rfl, _, _, _, _, _, rfl, .own _, ty, kt, _, rfl, iteF q⟩
    · have ty := TI.own TB.cl bv
      obtain ⟨dy, hy⟩ := bv
      refine ⟨_, rfl, _, _, _, _, _, rfl, .own _, ty, TI.is, _, rfl, iteT ?_⟩
      refine ⟨_, rfl, x, BX, dx, _, _, rfl, hx, TB.cl, TB.nL, lk_lo, _, rfl, y, BX, dy, _, _, rfl, hy, TB.cl, TB.nL, lk_lo, .tuple (lo.map PyData.int), .tuple (lo2.map PyData.int), .tup (SqT.of ha) (dp_ints lo), .tup (SqT.of ha2) (dp_ints lo2), shaped_intsT lo, shaped_intsT lo2, _, rfl, ?_⟩
      rw [show PyData.eqv (.tuple (lo.map PyData.int)) (.tuple (lo2.map PyData.int)) = decide (lo = lo2) from by simp only [PyData.eqv, eqv_ints]]
      by_cases e : lo = lo2
      · rw [decide_eq_true e, Bool.true_and] at q
        rw [decide_eq_true e]
        refine iteT ⟨_, rfl, x, BX, dx, _, _, rfl, hx, TB.cl, TB.nH, lk_hi, _, rfl, y, BX, dy, _, _, rfl, hy, TB.cl, TB.nH, lk_hi, .tuple (hi.map PyData.int), .tuple (hi2.map PyData.int), .tup (SqT.of hb) (dp_ints hi), .tup (SqT.of hb2) (dp_ints hi2), shaped_intsT hi, shaped_intsT hi2, ?_⟩
        rw [show PyData.eqv (.tuple (hi.map PyData.int)) (.tuple (hi2.map PyData.int)) = decide (hi = hi2) from by simp only [PyData.eqv, eqv_ints]]
        exact q
      · rw [decide_eq_false e, Bool.false_and] at q
        rw [decide_eq_false e]
        exact iteF q
end
end WC

set_option maxHeartbeats 8000000
namespace WC
open PySem PySem.Spec PyProof.Rows L2
theorem zw_at {f : Int → Int → Int} {lo hi : List Int} {i : Nat} {l h : Int} (e2 : lo[i]? = some l) (e3 : hi[i]? = some h) : (List.zipWith f lo hi)[i]? = some (f l h) := by
  rw [List.getElem?_zipWith, e2, e3]
theorem zw_in {f : Int → Int → Int} {lo hi : List Int} (hf : ∀ a b, 0 ≤ a ∧ a ≤ 999 → 0 ≤ b ∧ b ≤ 999 → 0 ≤ f a b ∧ f a b ≤ 999) (h1 : ∀ c ∈ lo, 0 ≤ c ∧ c ≤ 999) (h2 : ∀ c ∈ hi, 0 ≤ c ∧ c ≤ 999) : ∀ c ∈ List.zipWith f lo hi, 0 ≤ c ∧ c ≤ 999 := fun c hc => by
  obtain ⟨i, e⟩ := List.mem_iff_getElem?.mp hc
  rw [List.getElem?_zipWith] at e
  cases e1 : lo[i]? with
  | none => rw [e1] at e; cases e
  | some a =>
    cases e2 : hi[i]? with
    | none => rw [e1, e2] at e; cases e
    | some b =>
      rw [e1, e2] at e
      cases e
      exact hf a b (h1 a (List.mem_of_getElem? e1)) (h2 b (List.mem_of_getElem? e2))
theorem BxOk.meet {lo hi lo2 hi2 : List Int} (b : BxOk lo hi) (b2 : BxOk lo2 hi2) (e : lo.length = lo2.length) : BxOk (List.zipWith mx2 lo lo2) (List.zipWith mn2 hi hi2) := by
  have l1 := b.len
  have l2 := b2.len
  have l3 := b.n1
  have l4 := b.n40
  refine ⟨by rw [List.length_zipWith, List.length_zipWith]; omega, by rw [List.length_zipWith]; omega, by rw [List.length_zipWith]; omega, zw_in (fun a b h g => mx2_in h g) b.lo0 b2.lo0, zw_in (fun a b h g => mn2_in h g) b.hi0 b2.hi0⟩
section
variable {P : Program} {w : World} {K : PySem.W.Frag} {mg : Str → Option Value} {base : Heap}
theorem ok_Box_and {f BX CB : Addr} {fd : FuncData} (F : Fun K "__and__" "Box.__and__" s_Box_and f fd) (B : Blt mg) (B2 : Blt2 mg) (ZB : BoxK K mg BX) (TB : BoxC K BX) (t_InvalidBox : ExcR P w K mg base "InvalidBox" CB 1 1 flP) (DB : ClsR P w K mg base BX 4 (spBoxI K BX CB)) : FnOk P w K mg base (L2.CX P w) 6 f fd ["self", "other"] (spAnd BX CB) := by
  refine F.okX sc_Box_and (fun vs H Q E h => ?_) (fun cdv A outer s H vs Q E hr h => ?_)
  · obtain ⟨x, y, lo, hi, lo2, hi2, rfl, _⟩ := h
    rfl
  · obtain ⟨x, y, lo, hi, lo2, hi2, rfl, ⟨a, b, ⟨dx, hx⟩, ha, hb⟩, ok, ⟨a2, b2, ⟨dy, hy⟩, ha2, hb2⟩, ok2, q0, q1⟩ := h
    -- slots: 0 self, 1 other, 2 lows, 3 low, 4 other_low, 5 highs, 6 high, 7 other_high
    refine ⟨_, (pss_cons (ps_if (pt_cmpR op_ne (pe_callB call_len_seq (by rfl) B.len bt_len (pa_cons (pe_fld (pv 0) rfl) pa_nil)) (pe_callB call_len_seq (by rfl) B.len bt_len (pa_cons (pe_fld (pv 1) rfl) pa_nil)) (nomark _)) (pss_one (ps_raise rfl (takes_of rfl rfl rfl rfl) (pmk_x t_InvalidBox hr (pa_cons pe_non pa_nil)))) pss_nil)
      (pss_cons (ps_setLc (i := 2) (own := [("low", 3), ("other_low", 4)]) rfl sc_Box_and.nd rfl rfl (sw_true rfl rfl rfl (by decide +kernel)) (pi_zipM B2.zip (pa_cons (pe_fld (pv 0) rfl) (pa_cons (pe_fld (pv 1) rfl) pa_nil))) (blkOk_by (N := nn_Box_and) (sc := defScope s_Box_and) (own := [("low", 3), ("other_low", 4)]) (by decide +kernel)) (fun _ _ _ _ _ => (pg_tupK (K := K) (n := 2) rfl (pgs_cons (pg_name (i := 3) sc_Box_and.nd rfl (Or.inl rfl)) (pgs_cons (pg_name (i := 4) sc_Box_and.nd rfl (Or.inl rfl)) pgs_nil)))) (fun _ _ _ _ _ => pts_nil) (fun _ _ _ _ _ => (pe_callB (call_max2 rfl) (by rfl) B.max boot_max (pa_cons (pv 3) (pa_cons (pv 4) pa_nil)))))
      (pss_cons (ps_setLc (i := 5) (own := [("high", 6), ("other_high", 7)]) rfl sc_Box_and.nd rfl rfl (sw_true rfl rfl rfl (by decide +kernel)) (pi_zipM B2.zip (pa_cons (pe_fld (pv 0) rfl) (pa_cons (pe_fld (pv 1) rfl) pa_nil))) (blkOk_by (N := nn_Box_and) (sc := defScope s_Box_and) (own := [("high", 6), ("other_high", 7)]) (by decide +kernel)) (fun _ _ _ _ _ => (pg_tupK (K := K) (n := 2) rfl (pgs_cons (pg_name (i := 6) sc_Box_and.nd rfl (Or.inl rfl)) (pgs_cons (pg_name (i := 7) sc_Box_and.nd rfl (Or.inl rfl)) pgs_nil)))) (fun _ _ _ _ _ => pts_nil) (fun _ _ _ _ _ => (pe_callB (call_min2 rfl) (by rfl) B.min boot_min (pa_cons (pv 6) (pa_cons (pv 7) pa_nil)))))
      (pss_one (ps_ret (pe_cc DB ZB.gB hr psE (pa_cons (pe_callTy (T := "tuple") (c_tup (K := K)) (by rfl) B.tuple bt_tuple (pa_cons (pv 2) pa_nil)) (pa_cons (pe_callTy (T := "tuple") (c_tup (K := K)) (by rfl) B.tuple bt_tuple (pa_cons (pv 5) pa_nil)) pa_nil)))))))), ?_⟩
    refine ⟨_, rfl, x, BX, dx, _, _, rfl, hx, TB.cl, TB.nL, lk_lo, a, _, rfl, .inr (SqT.of ha), _, rfl, y, BX, dy, _, _, rfl, hy, TB.cl, TB.nL, lk_lo, a2, _, rfl, .inr (SqT.of ha2), rfl, _, rfl, ?_⟩
    by_cases el : lo.length = lo2.length
    · rw [show (!decide (V.int ((lo.map V.int).length : Nat) = V.int ((lo2.map V.int).length : Nat))) = false by simp [el]]
      have l1 := ok.len
      have l2 := ok2.len
      have ln := ok.n40
      refine iteF ⟨_, rfl, x, BX, dx, _, _, rfl, hx, TB.cl, TB.nL, lk_lo, _, rfl, y, BX, dy, _, _, rfl, hy, TB.cl, TB.nL, lk_lo, a, a2, lo.map V.int, lo2.map V.int, true, true, rfl, SqT.of ha, SqT.of ha2, fun D hD => ?_⟩
      refine lc_it (walk_zipM (by rw [List.length_map, List.length_map]; exact el)) (fun i H2 => Same H H2 ∧ H2 D = some (.lst (((List.zipWith mx2 lo lo2).take i).map V.int))) ⟨Same.new hD, by rw [upd_same]; rfl⟩ (fun i H2 _ z => ⟨SqT.of (z.1 _ _ ha), SqT.of (z.1 _ _ ha2)⟩) ?_ ?_
      · rintro i x2 H2 H3 hi2 ⟨s2, hd⟩ ⟨T1, u, y2, rfl, hT, rfl, hu, hy⟩
        obtain ⟨l, hl2, rfl⟩ := mapI hu
        obtain ⟨h, hh2, rfl⟩ := mapI hy
        have s3 : Same H2 (upd H2 T1 (.tup [.int l, .int h])) := Same.new hT
        refine ⟨T1, _, rfl, SqT.of upd_same, rfl, _, _, rfl, _, _, rfl, rfl, rfl, yes ⟨_, rfl, _, rfl, _, _, rfl, _, s3 _ _ hd, ?_, ?_, ?_⟩⟩
        · rw [List.length_map, List.length_take]
          rw [List.length_map] at hi2
          exact line_lt (by omega)
        · exact Same.newer (s2.trans s3) hD
        · rw [upd_same, show (V.int (if h > l then h else l)) = V.int (mx2 l h) from rfl, snocI (zw_at hl2 hh2)]
      · rintro H2 ⟨s2, hd⟩
        have e2 : (List.zipWith mx2 lo lo2).take (lo.map V.int).length = List.zipWith mx2 lo lo2 := List.take_of_length_le (by rw [List.length_zipWith, List.length_map]; omega)
        rw [e2] at hd
        have hb' := s2 _ _ hb
        have hb2' := s2 _ _ hb2
        have dH : H D = none := hD
        refine ⟨_, rfl, x, BX, dx, _, _, rfl, s2 _ _ hx, TB.cl, TB.nH, lk_hi, _, rfl, y, BX, dy, _, _, rfl, s2 _ _ hy, TB.cl, TB.nH, lk_hi, b, b2, hi.map V.int, hi2.map V.int, true, true, rfl, SqT.of hb', SqT.of hb2', fun D2 hD2 => ?_⟩
        refine lc_it (walk_zipM (by rw [List.length_map, List.length_map]; omega)) (fun i H3 => Same H2 H3 ∧ H3 D2 = some (.lst (((List.zipWith mn2 hi hi2).take i).map V.int))) ⟨Same.new hD2, by rw [upd_same]; rfl⟩ (fun i H2 _ z => ⟨SqT.of (z.1 _ _ hb'), SqT.of (z.1 _ _ hb2')⟩) ?_ ?_
        · rintro i x2 H3 H4 hi3 ⟨s3, hd2⟩ ⟨T1, u, y2, rfl, hT, rfl, hu, hy⟩
          obtain ⟨l, hl2, rfl⟩ := mapI hu
          obtain ⟨h, hh2, rfl⟩ := mapI hy
          have s4 : Same H3 (upd H3 T1 (.tup [.int l, .int h])) := Same.new hT
          refine ⟨T1, _, rfl, SqT.of upd_same, rfl, _, _, rfl, _, _, rfl, rfl, rfl, yes ⟨_, rfl, _, rfl, _, _, rfl, _, s4 _ _ hd2, ?_, ?_, ?_⟩⟩
          · rw [List.length_map, List.length_take]
            rw [List.length_map] at hi3
            exact line_lt (by omega)
          · exact Same.newer (s3.trans s4) hD2
          · rw [upd_same, show (V.int (if h < l then h else l)) = V.int (mn2 l h) from rfl, snocI (zw_at hl2 hh2)]
        · rintro H3 ⟨s3, hd2⟩
          have e3 : (List.zipWith mn2 hi hi2).take (hi.map V.int).length = List.zipWith mn2 hi hi2 := List.take_of_length_le (by rw [List.length_zipWith, List.length_map]; omega)
          rw [e3] at hd2
          have hd3 := s3 _ _ hd
          refine ⟨_, rfl, D, _, rfl, .inl ⟨SqL.of hd3, fun p hp => ?_⟩⟩
          have s5 : Same H3 (upd H3 p (.tup ((List.zipWith mx2 lo lo2).map V.int))) := Same.new hp
          refine ⟨_, rfl, D2, _, rfl, .inl ⟨SqL.of (s5 _ _ hd2), fun p2 hp2 => ?_⟩⟩
          have s6 := Same.new (o := .tup ((List.zipWith mn2 hi hi2).map V.int)) hp2
          have ta := s6 _ _ (upd_same (H := H3) (a := p) (o := .tup ((List.zipWith mx2 lo lo2).map V.int)))
          have tb : upd (upd H3 p (.tup ((List.zipWith mx2 lo lo2).map V.int))) p2 (.tup ((List.zipWith mn2 hi hi2).map V.int)) p2 = some (.tup ((List.zipWith mn2 hi hi2).map V.int)) := upd_same
          have okm := ok.meet ok2 el
          have m1 := okm.n40
          have m2 := okm.m40
          have s16 := s2.trans (s3.trans (s5.trans s6))
          refine mkb_use (row_ints ta (by omega)) (row_ints tb (by omega)) (fun _ z H5 s7 hz b5 => ?_) (fun p3 f0 => ?_)
          · exact q1 el z H5 (s16.trans s7) (Same.free s16 hz) ⟨p, p2, b5, s7 _ _ ta, s7 _ _ tb⟩
          · rw [fault_ok okm] at f0
            cases f0
    · rw [show (!decide (V.int ((lo.map V.int).length : Nat) = V.int ((lo2.map V.int).length : Nat))) = true by simp; omega]
      exact iteT (x_use rfl (by decide) fun d hd => (q0 el).new d hd)
end
end WC

set_option maxHeartbeats 8000000
namespace WC
open PySem PySem.Spec PyProof.Rows L2
structure Blt3 (mg : Str → Option Value) : Prop where
  abs : mg "abs" = none
/-- the bag of draws: the script's own list at L -/
def BgL (H : Hp) (b L : Addr) (ns : List Int) : Prop := L ≠ b ∧ H L = some (.lst (ns.map V.int)) ∧ ∃ (k : Nat) (c s n : Int), H b = some (.lst [.ref L, .int k, .int c, .int s, .int n])
def Bg (H : Hp) (b : Addr) : Prop := ∃ L ns, BgL H b L ns
theorem Bg.same {H H2 : Hp} {b : Addr} (h : Bg H b) (s : Same H H2) : Bg H2 b := by
  obtain ⟨L, ns, a, c, k, x, y, z, e⟩ := h
  exact ⟨L, ns, a, s _ _ c, k, x, y, z, s _ _ e⟩
theorem Bg.lst {H : Hp} {b : Addr} (h : Bg H b) : ∃ us, H b = some (.lst us) := by
  obtain ⟨L, ns, a, c, k, x, y, z, e⟩ := h
  exact ⟨_, e⟩
/-- all but the bag as it was, the bag's list the same -/
def Nx (b : Addr) (H H2 : Hp) : Prop := SameB b H H2 ∧ ∀ L ns, BgL H b L ns → BgL H2 b L ns
theorem Nx.bg {b : Addr} {H H2 : Hp} (n : Nx b H H2) (h : Bg H b) : Bg H2 b := let ⟨L, ns, z⟩ := h; ⟨L, ns, n.2 L ns z⟩
theorem Nx.refl (b : Addr) (H : Hp) : Nx b H H := ⟨SameB.refl b H, fun _ _ z => z⟩
theorem Nx.trans {b : Addr} {H H1 H2 : Hp} (n : Nx b H H1) (m : Nx b H1 H2) : Nx b H H2 := ⟨n.1.trans m.1, fun L ns z => m.2 L ns (n.2 L ns z)⟩
theorem Nx.of {b : Addr} {H H2 : Hp} (s : Same H H2) : Nx b H H2 := ⟨SameB.of s, fun L ns ⟨a, c, k, x, y, z, e⟩ => ⟨a, s _ _ c, k, x, y, z, s _ _ e⟩⟩
theorem Nx.put {b l : Addr} {H H3 : Hp} {o : HO} (n : Nx b H H3) (h : H l = none) : Nx b H (upd H3 l o) := ⟨n.1.put h, fun L ns z => by
  obtain ⟨a, c, k, x, y, w, e⟩ := n.2 L ns z
  obtain ⟨_, c0, _, _, _, _, e0⟩ := z
  exact ⟨a, by rw [upd_ne (ne_of_none c0 h)]; exact c, k, x, y, w, by rw [upd_ne (ne_of_none e0 h)]; exact e⟩⟩
def spBagI (K : PySem.W.Frag) : Sp := fun vs H Q _ => ∃ (a : Addr) (ns : List Int), vs = [.ref a] ∧ SqL K H a (ns.map V.int) ∧ ∀ b H2, Same H H2 → H b = none → Bg H2 b → Q (.ref b) H2
def spTk : Sp := fun vs H Q _ => ∃ (b : Addr) (m : Int), vs = [.ref b, .int m] ∧ Bg H b ∧ 0 < m ∧ m < 1073741824 ∧ ∀ (d : Int) H2, 0 ≤ d → d < m → Nx b H H2 → Q (.int d) H2
theorem mod_rng (i : Int) {m : Int} (h : 0 < m) : 0 ≤ Int.fmod i m ∧ Int.fmod i m < m := ⟨Int.fmod_nonneg_of_pos i h, Int.fmod_lt_of_pos i h⟩
theorem mul_ok {i j : Int} (h : -(2 ^ 64) < j ∧ j < 2 ^ 64) : CMul i j := .inr h
theorem mul_okl {i j : Int} (h : -(2 ^ 64) < i ∧ i < 2 ^ 64) : CMul i j := .inl h
section
variable {P : Program} {w : World} {K : PySem.W.Frag} {mg : Str → Option Value} {base : Heap}
theorem ok_bag18 {f : Addr} {fd : FuncData} (F : Fun K "_law_bag" "_law_bag" s_law_bag f fd) (B : Blt mg) : FnOk P w K mg base (L2.CX P w) 1 f fd ["script"] (spBagI K) := by
  refine F.okX sc_law_bag (fun vs H Q E h => ?_) (fun cdv A outer s H vs Q E hr h => ?_)
  · obtain ⟨a, ns, rfl, _⟩ := h
    rfl
  · obtain ⟨a, ns, rfl, ha, q⟩ := h
    refine ⟨_, (pss_one (ps_ret (pe_lst (pa_cons (pe_callTy (T := "list") call_list_of (by rfl) B.list bt_list (pa_cons (pv 0) pa_nil)) (pa_cons pe_int (pa_cons pe_int (pa_cons pe_int (pa_cons pe_int pa_nil)))))))), ?_⟩
    refine ⟨_, rfl, a, _, rfl, .inl ha, fun l hl => ⟨by show 5 ≤ sizeLine; decide, fun b hb => ?_⟩⟩
    have s1 : Same H (upd H l (.lst (ns.map V.int))) := Same.new hl
    have ll : upd H l (.lst (ns.map V.int)) l = some (.lst (ns.map V.int)) := upd_same
    exact q b _ (s1.trans (Same.new hb)) (s1.free hb) ⟨l, ns, ne_of_none ll hb, Same.new hb _ _ ll, 0, 0, 1, 0, upd_same⟩
theorem ok_take18 {f : Addr} {fd : FuncData} (F : Fun K "_law_take" "_law_take" s_law_take f fd) (B : Blt mg) (B3 : Blt3 mg) : FnOk P w K mg base (L2.CX P w) 1 f fd ["bag", "size"] spTk := by
  refine F.okX sc_law_take (fun vs H Q E h => ?_) (fun cdv A outer s H vs Q E hr h => ?_)
  · obtain ⟨b, m, rfl, _⟩ := h
    rfl
  · obtain ⟨b, m, rfl, ⟨L, ns, Lb, hL, k, c, sd, n, hb⟩, m0, mt, q⟩ := h
    have uu : ∀ {G : Hp} {o1 o2 : HO}, upd (upd G b o1) b o2 = upd G b o2 := fun {G o1 o2} => by
      funext a
      by_cases e : a = b
      · subst e; rw [upd_same, upd_same]
      · rw [upd_ne e, upd_ne e, upd_ne e]
    have fin : ∀ (k2 : Nat) (c2 s2 n2 d : Int), 0 ≤ d → d < m → Q (.int d) (upd H b (.lst [.ref L, .int k2, .int c2, .int s2, .int n2])) := fun k2 c2 s2 n2 d h2 h3 =>
      q d _ h2 h3 ⟨(SameB.refl b H).upd, fun L' ns' ⟨z1, z2, k', x', y', w', z3⟩ => by
        rw [hb] at z3
        cases z3
        exact ⟨z1, by rw [upd_ne z1]; exact z2, k2, c2, s2, n2, upd_same⟩⟩
    -- slots: 0 bag, 1 size, 2 cell, 3 digit, 4 mixed
    refine ⟨_, (pss_cons (ps_if (pt_cmpR op_eq (pe_callB call_len_seq (by rfl) B.len bt_len (pa_cons (pe_ix ix_list (pv 0) pe_int (fun _ _ => rfl)) pa_nil)) pe_int (nomark _)) (pss_one (ps_ret pe_int)) pss_nil)
      (pss_cons (ps_if (PW.pt (pw_and (pt_cmpR op_eq (pe_ix ix_list (pv 0) pe_int (fun _ _ => rfl)) pe_int (nomark _)) (pw_and1 (pt_cmpR op_lt (pe_ix ix_list (pv 0) pe_int (fun _ _ => rfl)) (pe_callB call_len_seq (by rfl) B.len bt_len (pa_cons (pe_ix ix_list (pv 0) pe_int (fun _ _ => rfl)) pa_nil)) (nomark _))))) (pss_cons (ps_set (i := 2) sc_law_take.nd rfl (Or.inl rfl) (pe_callB call_abs (by rfl) B3.abs boot_abs (pa_cons (pe_callTy (T := "int") call_int1 (by rfl) B.int bt_int (pa_cons (pe_ix ix_list (pe_ix ix_list (pv 0) pe_int (fun _ _ => rfl)) (pe_ix ix_list (pv 0) pe_int (fun _ _ => rfl)) (fun _ _ => rfl)) pa_nil)) pa_nil)))
      (pss_cons (ps_asg (pe_op op_add (pe_ix ix_list (pv 0) pe_int (fun _ _ => rfl)) pe_int) (pg_sub (pv 0) pe_int set_list))
      (pss_one (ps_if (pt_cmpR op_ge (pv 2) (pe_op op_pow pe_int pe_int) (nomark _)) (pss_one (ps_asg (pv 2) (pg_sub (pv 0) pe_int set_list))) (pss_one (ps_asg (pe_op op_modN (pe_callTy (T := "int") call_int1 (by rfl) B.int bt_int (pa_cons (pe_op op_add (pe_op op_mul (pe_ix ix_list (pv 0) pe_int (fun _ _ => rfl)) pe_int) (pv 2)) pa_nil)) pe_int) (pg_sub (pv 0) pe_int set_list))))))) pss_nil)
      (pss_cons (ps_if (pt_cmpR op_gt (pe_ix ix_list (pv 0) pe_int (fun _ _ => rfl)) pe_int (nomark _)) (pss_cons (ps_set (i := 3) sc_law_take.nd rfl (Or.inl rfl) (pe_op op_modN (pe_callTy (T := "int") call_int1 (by rfl) B.int bt_int (pa_cons (pe_ix ix_list (pv 0) pe_int (fun _ _ => rfl)) pa_nil)) (pv 1)))
      (pss_cons (ps_asg (pe_op op_fdivN (pe_ix ix_list (pv 0) pe_int (fun _ _ => rfl)) (pv 1)) (pg_sub (pv 0) pe_int set_list))
      (pss_one (ps_ret (pv 3))))) pss_nil)
      (pss_cons (ps_asg (pe_op op_add (pe_ix ix_list (pv 0) pe_int (fun _ _ => rfl)) pe_int) (pg_sub (pv 0) pe_int set_list))
      (pss_cons (ps_asg (pe_op op_modN (pe_callTy (T := "int") call_int1 (by rfl) B.int bt_int (pa_cons (pe_op op_add (pe_op op_mul (pe_ix ix_list (pv 0) pe_int (fun _ _ => rfl)) pe_int) (pe_op op_mul pe_int (pe_ix ix_list (pv 0) pe_int (fun _ _ => rfl)))) pa_nil)) pe_int) (pg_sub (pv 0) pe_int set_list))
      (pss_cons (ps_set (i := 4) sc_law_take.nd rfl (Or.inl rfl) (pe_op op_modN (pe_callTy (T := "int") call_int1 (by rfl) B.int bt_int (pa_cons (pe_op op_add (pe_op op_mul (pe_ix ix_list (pv 0) pe_int (fun _ _ => rfl)) pe_int) (pe_ix ix_list (pv 0) pe_int (fun _ _ => rfl))) pa_nil)) pe_int))
      (pss_one (ps_ret (pe_op op_modN (pe_callTy (T := "int") call_int1 (by rfl) B.int bt_int (pa_cons (pe_op op_fdivN (pv 4) pe_int) pa_nil)) (pv 1)))))))))), ?_⟩
    refine ⟨_, rfl, b, _, _, _, rfl, rfl, SqL.of hb, atI_nat (j := 0) rfl, L, _, rfl, .inl (SqL.of hL), rfl, _, rfl, ite2 (fun _ => q 0 H (Int.le_refl _) m0 (Nx.refl b H)) (fun e0 => ?_)⟩
    have eH : upd H b (.lst [.ref L, .int k, .int c, .int sd, .int n]) = H := by
      funext a
      by_cases e : a = b
      · subst e; rw [upd_same, hb]
      · rw [upd_ne e]
    have one : ∀ (k c sd n : Int) (i : Nat) (v : V), [V.ref L, .int k, .int c, .int sd, .int n][i]? = some v → ∀ G : Hp, SqL K (upd G b (.lst [.ref L, .int k, .int c, .int sd, .int n])) b [.ref L, .int k, .int c, .int sd, .int n] ∧ atI [V.ref L, .int k, .int c, .int sd, .int n] (i : Int) = some v := fun k c sd n i v hi G => ⟨SqL.of upd_same, atI_nat hi⟩
    have lL : ∀ (o : HO), upd H b o L = some (.lst (ns.map V.int)) := fun o => by rw [upd_ne Lb]; exact hL
    dsimp only [tNext]
    refine seq_mid (fun σ H2 => ∃ (k2 : Nat) (c2 s2 n2 : Int) (v2 : Option V), σ = [some (.ref b), some (.int m), v2, none, none] ∧ H2 = upd H b (.lst [.ref L, .int k2, .int c2, .int s2, .int n2])) (fun N hN => ?_) ?_
    · have done : ∀ (k2 : Nat) (c2 s2 n2 : Int) (v2 : Option V) (H2 : Hp), H2 = upd H b (.lst [.ref L, .int k2, .int c2, .int s2, .int n2]) → N [some (.ref b), some (.int m), v2, none, none] H2 := fun k2 c2 s2 n2 v2 H2 e => hN _ _ ⟨k2, c2, s2, n2, v2, rfl, e⟩
      refine ⟨_, rfl, b, _, _, _, rfl, rfl, SqL.of hb, atI_nat (j := 2) rfl, rfl, _, rfl, ite2 (fun _ => ?_) (fun _ => done k c sd n none H eH.symm)⟩
      refine ⟨_, rfl, b, _, _, _, rfl, rfl, SqL.of hb, atI_nat (j := 1) rfl, _, rfl, b, _, _, _, rfl, rfl, SqL.of hb, atI_nat (j := 0) rfl, L, _, rfl, .inl (SqL.of hL), _, _, rfl, rfl, _, rfl, ite2 (fun ek => ?_) (fun _ => done k c sd n none H eH.symm)⟩
      have ek : k < ns.length := by
        have z := of_decide_eq_true ek
        rw [List.length_map] at z
        omega
      obtain ⟨x, hx⟩ : ∃ x, ns[k]? = some x := ⟨_, List.getElem?_eq_getElem ek⟩
      have ax : atI (ns.map V.int) (k : Int) = some (.int x) := atI_nat (by rw [List.getElem?_map, hx]; rfl)
      refine ⟨_, rfl, b, _, _, _, rfl, rfl, SqL.of hb, atI_nat (j := 0) rfl, _, rfl, b, _, _, _, rfl, rfl, SqL.of hb, atI_nat (j := 1) rfl, L, _, _, _, rfl, rfl, SqL.of hL, ax, .inl ⟨_, rfl, _, rfl, ?_⟩⟩
      generalize (if x < 0 then -x else x) = y
      refine ⟨_, rfl, b, _, _, _, rfl, rfl, SqL.of hb, atI_nat (j := 1) rfl, _, _, rfl, rfl, _, rfl, b, _, _, 1, rfl, rfl, hb, ixn18 (n := 5) (p := 1) (by decide), ?_⟩
      obtain ⟨H2, e2⟩ : ∃ H2, H2 = upd H b (.lst [.ref L, .int ((k : Int) + 1), .int c, .int sd, .int n]) := ⟨_, rfl⟩
      have hb2 : H2 b = some (.lst [.ref L, .int ((k : Int) + 1), .int c, .int sd, .int n]) := by rw [e2, upd_same]
      rw [show upd H b (.lst ([V.ref L, .int k, .int c, .int sd, .int n].set 1 (.int ((k : Int) + 1)))) = H2 from e2.symm]
      refine ⟨_, rfl, _, _, rfl, rfl, ⟨by decide, by decide, by decide⟩, _, _, rfl, rfl, _, rfl, ite2 (fun _ => ?_) (fun _ => ?_)⟩
      · refine ⟨_, rfl, _, rfl, b, _, _, 2, rfl, rfl, hb2, ixn18 (n := 5) (p := 2) (by decide), done (k + 1) y sd n _ _ ?_⟩
        rw [e2, uu]
        rfl
      · refine ⟨_, rfl, b, _, _, _, rfl, rfl, SqL.of hb2, atI_nat (j := 3) rfl, _, _, rfl, rfl, mul_ok (by decide), _, rfl, _, _, rfl, rfl, .inl ⟨_, rfl, _, _, rfl, rfl, (by show (_ : Int) ≠ 0; decide), _, rfl, b, _, _, 3, rfl, rfl, hb2, ixn18 (n := 5) (p := 3) (by decide), done (k + 1) c (Int.fmod (sd * 48271 + y) 2147483647) n _ _ ?_⟩⟩
        rw [e2, uu]
        rfl
    · rintro σ H2 ⟨k2, c2, s2, n2, v2, rfl, rfl⟩
      obtain ⟨d0, d1⟩ := mod_rng c2 m0
      have h1 : upd H b (.lst [.ref L, .int k2, .int c2, .int s2, .int n2]) b = some (.lst [.ref L, .int k2, .int c2, .int s2, .int n2]) := upd_same
      refine ⟨_, rfl, b, _, _, _, rfl, rfl, SqL.of h1, atI_nat (j := 2) rfl, _, _, rfl, rfl, _, rfl, ite2 (fun _ => ?_) (fun _ => ?_)⟩
      · refine ⟨_, rfl, b, _, _, _, rfl, rfl, SqL.of h1, atI_nat (j := 2) rfl, .inl ⟨_, rfl, _, rfl, _, _, rfl, rfl, (by show m ≠ 0; omega), ?_⟩⟩
        refine ⟨_, rfl, b, _, _, _, rfl, rfl, SqL.of h1, atI_nat (j := 2) rfl, _, rfl, _, _, rfl, rfl, ⟨by omega, by omega⟩, _, rfl, b, _, _, 2, rfl, rfl, h1, ixn18 (n := 5) (p := 2) (by decide), ?_⟩
        rw [uu]
        exact ⟨_, rfl, fin k2 _ s2 n2 _ d0 d1⟩
      · refine ⟨_, rfl, b, _, _, _, rfl, rfl, SqL.of h1, atI_nat (j := 4) rfl, _, _, rfl, rfl, _, rfl, b, _, _, 4, rfl, rfl, h1, ixn18 (n := 5) (p := 4) (by decide), ?_⟩
        rw [uu]
        obtain ⟨n3, en⟩ : ∃ n3 : Int, n3 = n2 + 1 := ⟨_, rfl⟩
        rw [show ([V.ref L, .int k2, .int c2, .int s2, .int n2].set 4 (.int (n2 + 1))) = [V.ref L, .int k2, .int c2, .int s2, .int n3] from by rw [en]; rfl]
        have h3 : upd H b (.lst [.ref L, .int k2, .int c2, .int s2, .int n3]) b = some (.lst [.ref L, .int k2, .int c2, .int s2, .int n3]) := upd_same
        refine ⟨_, rfl, b, _, _, _, rfl, rfl, SqL.of h3, atI_nat (j := 3) rfl, _, _, rfl, rfl, mul_ok (by decide), _, rfl, b, _, _, _, rfl, rfl, SqL.of h3, atI_nat (j := 4) rfl, _, _, rfl, rfl, mul_okl (by decide), _, _, rfl, rfl, .inl ⟨_, rfl, _, _, rfl, rfl, (by show (_ : Int) ≠ 0; decide), _, rfl, b, _, _, 3, rfl, rfl, h3, ixn18 (n := 5) (p := 3) (by decide), ?_⟩⟩
        rw [uu]
        obtain ⟨s4, es⟩ : ∃ s4, s4 = Int.fmod (s2 * 16807 + 7919 * n3) 2147483647 := ⟨_, rfl⟩
        have e5 : ([V.ref L, .int k2, .int c2, .int s2, .int n3].set 3 (.int (Int.fmod (s2 * 16807 + 7919 * n3) 2147483647))) = [V.ref L, .int k2, .int c2, .int s4, .int n3] := by rw [es]; rfl
        rw [e5]
        have h4 : upd H b (.lst [.ref L, .int k2, .int c2, .int s4, .int n3]) b = some (.lst [.ref L, .int k2, .int c2, .int s4, .int n3]) := upd_same
        refine ⟨_, rfl, b, _, _, _, rfl, rfl, SqL.of h4, atI_nat (j := 3) rfl, _, _, rfl, rfl, mul_ok (by decide), _, rfl, b, _, _, _, rfl, rfl, SqL.of h4, atI_nat (j := 4) rfl, _, _, rfl, rfl, .inl ⟨_, rfl, _, _, rfl, rfl, (by show (_ : Int) ≠ 0; decide), ?_⟩⟩
        exact ⟨_, rfl, _, _, rfl, rfl, ⟨by decide, by decide⟩, .inl ⟨_, rfl, _, rfl, _, _, rfl, rfl, (by show m ≠ 0; omega), fin k2 c2 s4 n3 _ (mod_rng _ m0).1 (mod_rng _ m0).2⟩⟩
end
end WC

set_option maxHeartbeats 8000000
namespace WC
open PySem PySem.Spec PyProof.Rows L2
theorem Known.onB {K : PySem.W.Frag} {H H2 : Hp} {b : Addr} {y : V} (k : Known K H y) (ba : ∃ us, H b = some (.lst us)) (bb : ∃ us, H2 b = some (.lst us)) (z : SameB b H H2) : Known K H2 y := by
  cases y with
  | ref a =>
    rcases k with ⟨xs, e⟩ | ⟨xs, e⟩
    · obtain ⟨us, eb⟩ := ba
      exact .inl ⟨xs, z _ _ e (ne_of e eb (by intro z; cases z))⟩
    · by_cases h : a = b
      · rw [h]
        exact .inr bb
      · exact .inr ⟨xs, z _ _ e h⟩
  | int i => trivial
  | bl c => trivial
  | non => trivial
  | str s => trivial
  | byt c => exact k
  | flt c => exact k
  | ty c => exact k
/-- x is True, x is False, of any value here -/
theorem op_isBx {X : Cx} : OpR X (compareOp .Is) (fun x y H Q => ∃ k : Bool, y = .bl k ∧ (plainV x = true ∨ ∃ a, x = .ref a) ∧ Q (.bl (decide (x = .bl k))) H) := by
  intro pins s σ H x y v u Q I rx ry h
  obtain ⟨k, rfl, hp | ⟨a, rfl⟩, q⟩ := h
  · exact op_isB pins s σ H x (.bl k) v u Q I rx ry ⟨k, rfl, hp, q⟩
  · obtain rfl : u = Value.bool k := ry
    obtain rfl : v = Value.ref a := rx
    exact wpAny_is_other rfl (fun z => by cases z) ⟨.bl false, H, I, rfl, by
      have e : decide (V.ref a = .bl k) = false := by simp
      rw [← e]; exact q⟩
/-- equal, d levels of tuples deep -/
inductive EqT (H : Hp) : Nat → V → V → Prop
  | non {d : Nat} : EqT H d .non .non
  | bl {d : Nat} (b : Bool) : EqT H d (.bl b) (.bl b)
  | int {d : Nat} (i : Int) : EqT H d (.int i) (.int i)
  | str {d : Nat} (z : Str) : EqT H d (.str z) (.str z)
  | tup {d : Nat} {a b : Addr} {xs ys : List V} (ha : H a = some (.tup xs)) (hb : H b = some (.tup ys)) (hl : xs.length = ys.length) (hn : xs.length ≤ 1000) (h : ∀ (i : Nat) (x y : V), xs[i]? = some x → ys[i]? = some y → EqT H d x y) : EqT H (d + 1) (.ref a) (.ref b)
theorem EqT.same {H H2 : Hp} {d : Nat} {x y : V} (e : EqT H d x y) (s : Same H H2) : EqT H2 d x y := by
  induction e with
  | non => exact .non
  | bl b => exact .bl b
  | int i => exact .int i
  | str z => exact .str z
  | tup ha hb hl hn h ih => exact .tup (s _ _ ha) (s _ _ hb) hl hn ih
theorem EqT.up {H : Hp} {d : Nat} {x y : V} (e : EqT H d x y) : EqT H (d + 1) x y := by
  induction e with
  | non => exact .non
  | bl b => exact .bl b
  | int i => exact .int i
  | str z => exact .str z
  | tup ha hb hl hn h ih => exact .tup ha hb hl hn ih
def spSm (d : Nat) : Sp := fun vs H Q _ => ∃ t u, vs = [t, u] ∧ EqT H d t u ∧ ∀ H2, Same H H2 → Q (.bl true) H2
def spNever : Sp := fun _ _ _ _ => False
def spWh (K : PySem.W.Frag) : Sp := fun vs H Q _ => ∃ v, vs = [v] ∧ Known K H v ∧ Q (.bl (isIV v)) H
def spGd (K : PySem.W.Frag) : Sp := fun vs H Q _ => ∃ v, vs = [v] ∧ Known K H v ∧ Q (.bl (gC v)) H
def isSV : V → Bool
  | .str _ => true
  | _ => false
theorem kit_str18 {K : PySem.W.Frag} {H : Hp} {x : V} (k : Known K H x) : PySem.W.kitOne K (.type (tyN H x)) (.type "str") = some (isSV x) := by
  cases x with
  | int i => exact kb "int" "str" false (by decide +kernel) rfl
  | bl b => exact kb "bool" "str" false (by decide +kernel) rfl
  | non  => exact kb "NoneType" "str" false (by decide +kernel) rfl
  | str z => exact kb "str" "str" true (by decide +kernel) rfl
  | ref a =>
    rcases @tyN_ref H a with q | q
    · exact kb "tuple" "str" false (by decide +kernel) q
    · exact kb "list" "str" false (by decide +kernel) q
  | byt b => exact k.elim
  | flt b => exact k.elim
  | ty n => exact k.elim
section
variable {P : Program} {w : World} {K : PySem.W.Frag} {mg : Str → Option Value} {base : Heap}
theorem ok_whole18 {f : Addr} {fd : FuncData} (F : Fun K "_law_whole" "_law_whole" s_law_whole f fd) (B : Blt mg) : FnOk P w K mg base (L2.CX P w) 1 f fd ["one"] (spWh K) := by
  refine F.okX sc_law_whole (fun vs H Q E h => ?_) (fun cdv A outer s H vs Q E hr h => ?_)
  · obtain ⟨v, rfl, _⟩ := h
    rfl
  · obtain ⟨v, rfl, hk, q⟩ := h
    refine ⟨_, (pss_one (ps_ret (pe_and (pe_callB call_isi (by rfl) B.isi bt_isi (pa_cons (pv 0) (pa_cons (pe_bltn (v := .ty "int") (by rfl) B.int bt_int rfl) pa_nil))) (pe_one (pe_not (pe_callB call_isi (by rfl) B.isi bt_isi (pa_cons (pv 0) (pa_cons (pe_bltn (v := .ty "bool") (by rfl) B.bool bt_bool rfl) pa_nil)))))))), ?_⟩
    refine ⟨_, rfl, _, _, _, _, _, rfl, .ty _, hk.ty, kit_int hk, _, rfl, ?_⟩
    cases v with
    | int i => exact iteT ⟨_, rfl, _, _, _, _, _, rfl, .ty _, hk.ty, kit_bool hk, _, rfl, q⟩
    | bl b => exact iteT ⟨_, rfl, _, _, _, _, _, rfl, .ty _, hk.ty, kit_bool hk, _, rfl, q⟩
    | non => exact iteF q
    | str z => exact iteF q
    | ref a => exact iteF q
    | byt b => exact hk.elim
    | flt b => exact hk.elim
    | ty n => exact hk.elim
theorem ok_good18 {f : Addr} {fd : FuncData} (F : Fun K "_law_good" "_law_good" s_law_good f fd) (g_law_whole : DefR P w K mg base "_law_whole" 1 (spWh K)) : FnOk P w K mg base (L2.CX P w) 2 f fd ["one"] (spGd K) := by
  refine F.okX sc_law_good (fun vs H Q E h => ?_) (fun cdv A outer s H vs Q E hr h => ?_)
  · obtain ⟨v, rfl, _⟩ := h
    rfl
  · obtain ⟨v, rfl, hk, q⟩ := h
    refine ⟨_, (pss_one (ps_ret (pe_and (pe_cd g_law_whole hr psE (pa_cons (pv 0) pa_nil)) (pe_and (pe_cmpR op_le pe_int (pv 0) (nomark _)) (pe_one (pe_cmpR op_le (pv 0) pe_int (nomark _))))))), ?_⟩
    refine ⟨_, rfl, v, rfl, hk, _, rfl, ?_⟩
    cases v with
    | int i =>
      rw [gC_int] at q
      refine iteT ⟨_, rfl, _, _, rfl, rfl, _, rfl, ite2 (fun e => ?_) (fun e => ?_)⟩
      · have e := of_decide_eq_true e
        rw [decide_eq_true e, Bool.true_and] at q
        exact ⟨_, rfl, _, _, rfl, rfl, q⟩
      · have e : ¬ (0 : Int) ≤ i := fun z => e (decide_eq_true z)
        rw [decide_eq_false e, Bool.false_and] at q
        exact q
    | bl b => exact iteF q
    | non => exact iteF q
    | str z => exact iteF q
    | ref a => exact iteF q
    | byt b => exact hk.elim
    | flt b => exact hk.elim
    | ty n => exact hk.elim
theorem same_never {f : Addr} {fd : FuncData} (F : Fun K "_law_same" "_law_same" s_law_same f fd) : FnOk P w K mg base (L2.CX P w) 1 f fd ["told", "due"] spNever := by
  refine F.okX sc_law_same (fun vs H Q E h => h.elim) (fun cdv A outer s H vs Q E hr h => h.elim)
theorem ok_same18 {f : Addr} {fd : FuncData} {d : Nat} {sp : Sp} (F : Fun K "_law_same" "_law_same" s_law_same f fd) (B : Blt mg) (g_law_whole : DefR P w K mg base "_law_whole" 1 (spWh K)) (g_law_same : DefR P w K mg base "_law_same" (d + 1) sp)
    (hd : ∀ e, d = e + 1 → sp = spSm e) : FnOk P w K mg base (L2.CX P w) (d + 2) f fd ["told", "due"] (spSm d) := by
  refine F.okX sc_law_same (fun vs H Q E h => ?_) (fun cdv A outer s H vs Q E hr h => ?_)
  · obtain ⟨t, u, rfl, _⟩ := h
    rfl
  · obtain ⟨t, u, rfl, e, q⟩ := h
    have hr1 : Room 1 (A.deeper (envOfC "_law_same" (defScope s_law_same) s.heap.objs.size f cdv)) := hr.mono (by omega)
    refine ⟨_, (pss_cons (ps_if (pt_cmpR op_isN (pv 1) pe_non (nomark _)) (pss_one (ps_ret (pe_cmpR op_isN (pv 0) pe_non (nomark _)))) pss_nil)
      (pss_cons (ps_if (PW.pt (pw_or (pt_cmpR op_isBx (pv 1) pe_bl (nomark _)) (pw_or1 (pt_cmpR op_isBx (pv 1) pe_bl (nomark _))))) (pss_one (ps_ret (pe_and (pe_callB call_isi (by rfl) B.isi bt_isi (pa_cons (pv 0) (pa_cons (pe_bltn (v := .ty "bool") (by rfl) B.bool bt_bool rfl) pa_nil))) (pe_one (pe_cmpR op_eq (pv 0) (pv 1) (nomark _)))))) pss_nil)
      (pss_cons (ps_if (pt_val (pe_callB call_isi (by rfl) B.isi bt_isi (pa_cons (pv 1) (pa_cons (pe_bltn (v := .ty "tuple") (by rfl) B.tuple bt_tuple rfl) pa_nil)))) (pss_cons (ps_if (PW.pt (pw_or (pt_not (pt_val (pe_callB call_isi (by rfl) B.isi bt_isi (pa_cons (pv 0) (pa_cons (pe_bltn (v := .ty "tuple") (by rfl) B.tuple bt_tuple rfl) pa_nil))))) (pw_or1 (pt_cmpR op_ne (pe_callB call_len_seq (by rfl) B.len bt_len (pa_cons (pv 0) pa_nil)) (pe_callB call_len_seq (by rfl) B.len bt_len (pa_cons (pv 1) pa_nil)) (nomark _))))) (pss_one (ps_ret pe_bl)) pss_nil)
      (pss_cons (ps_for (passes_of rfl) rfl (pi_range1 (by rfl) B.range (pa_cons (pe_callB call_len_seq (by rfl) B.len bt_len (pa_cons (pv 1) pa_nil)) pa_nil)) (pg_name (i := 2) sc_law_same.nd rfl (Or.inl rfl))
        (pss_one (ps_if (pt_not (pt_val (pe_cd g_law_same hr psE (pa_cons (pe_ix ix_tup (pv 0) (pv 2) (fun _ _ => rfl)) (pa_cons (pe_ix ix_tup (pv 1) (pv 2) (fun _ _ => rfl)) pa_nil)) (Nat.le_refl _)))) (pss_one (ps_ret pe_bl)) pss_nil)))
      (pss_one (ps_ret pe_bl)))) pss_nil)
      (pss_cons (ps_if (pt_val (pe_callB call_isi (by rfl) B.isi bt_isi (pa_cons (pv 1) (pa_cons (pe_bltn (v := .ty "str") (by rfl) B.str bt_str rfl) pa_nil)))) (pss_one (ps_ret (pe_and (pe_callB call_isi (by rfl) B.isi bt_isi (pa_cons (pv 0) (pa_cons (pe_bltn (v := .ty "str") (by rfl) B.str bt_str rfl) pa_nil))) (pe_one (pe_cmpR op_eq (pv 0) (pv 1) (nomark _)))))) pss_nil)
      (pss_one (ps_ret (pe_and (pe_cd g_law_whole hr1 psE (pa_cons (pv 0) pa_nil)) (pe_one (pe_cmpR op_eq (pv 0) (pv 1) (nomark _)))))))))), ?_⟩
    have q0 := q H (Same.refl H)
    cases e with
    | non => exact ⟨_, rfl, rfl, _, rfl, iteT ⟨_, rfl, rfl, q0⟩⟩
    | bl b =>
      have hk : Known K H (.bl b) := trivial
      refine ⟨_, rfl, rfl, _, rfl, iteF ?_⟩
      have fin : True := trivial
      cases b with
      | true =>
        refine ⟨_, rfl, _, rfl, .inl rfl, _, rfl, iteT (iteT ⟨_, rfl, _, _, _, _, _, rfl, .ty _, hk.ty, kit_bool hk, _, rfl, iteT ⟨_, rfl, _, rfl, rfl, ?_⟩⟩)⟩
        simpa using q0
      | false =>
        refine ⟨_, rfl, _, rfl, .inl rfl, _, rfl, iteF ⟨_, rfl, _, rfl, .inl rfl, _, rfl, iteT ⟨_, rfl, _, _, _, _, _, rfl, .ty _, hk.ty, kit_bool hk, _, rfl, iteT ⟨_, rfl, _, rfl, rfl, ?_⟩⟩⟩⟩
        simpa using q0
    | int i =>
      have hk : Known K H (.int i) := trivial
      refine ⟨_, rfl, rfl, _, rfl, iteF ⟨_, rfl, _, rfl, .inl rfl, _, rfl, iteF ⟨_, rfl, _, rfl, .inl rfl, _, rfl, iteF ⟨_, rfl, _, _, _, _, _, rfl, .ty _, hk.ty, kit_tup hk, _, rfl, iteF ⟨_, rfl, _, _, _, _, _, rfl, .ty _, hk.ty, kit_str18 hk, _, rfl, iteF ⟨_, rfl, _, rfl, hk, _, rfl, iteT ⟨_, rfl, _, rfl, rfl, ?_⟩⟩⟩⟩⟩⟩⟩
      simpa using q0
    | str z =>
      have hk : Known K H (.str z) := trivial
      refine ⟨_, rfl, rfl, _, rfl, iteF ⟨_, rfl, _, rfl, .inl rfl, _, rfl, iteF ⟨_, rfl, _, rfl, .inl rfl, _, rfl, iteF ⟨_, rfl, _, _, _, _, _, rfl, .ty _, hk.ty, kit_tup hk, _, rfl, iteF ⟨_, rfl, _, _, _, _, _, rfl, .ty _, hk.ty, kit_str18 hk, _, rfl, iteT ⟨_, rfl, _, _, _, _, _, rfl, .ty _, hk.ty, kit_str18 hk, _, rfl, iteT ⟨_, rfl, _, rfl, rfl, ?_⟩⟩⟩⟩⟩⟩⟩
      simpa using q0
    | @tup d a b xs ys ha hb hl hn h =>
      obtain rfl := hd _ rfl
      obtain ⟨T1, y1, k1⟩ := tup_tu (K := K) ha
      obtain ⟨T2, y2, k2⟩ := tup_tu (K := K) hb
      refine ⟨_, rfl, rfl, _, rfl, iteF ⟨_, rfl, _, rfl, .inr ⟨_, rfl⟩, _, rfl, iteF ⟨_, rfl, _, rfl, .inr ⟨_, rfl⟩, _, rfl, iteF ⟨_, rfl, _, _, _, _, _, rfl, .ty _, y2, k2, _, rfl, iteT ?_⟩⟩⟩⟩
      refine ⟨_, rfl, _, _, _, _, _, rfl, .ty _, y1, k1, _, rfl, iteF ⟨_, rfl, a, _, rfl, .inr (SqT.of ha), _, rfl, b, _, rfl, .inr (SqT.of hb), rfl, _, rfl, ?_⟩⟩
      rw [show (!decide (V.int (xs.length : Nat) = V.int (ys.length : Nat))) = false by simp [hl]]
      refine iteF ⟨_, rfl, b, _, rfl, .inr (SqT.of hb), _, rfl, by omega, by omega, ?_⟩
      refine for_range (lo := 0) (n := ys.length) (fun i σ H2 => ∃ v2, σ = [some (.ref a), some (.ref b), v2] ∧ Same H H2) ⟨_, rfl, Same.refl H⟩ ?_ ?_
      · rintro i σ H2 hi ⟨v2, rfl, s2⟩
        have hx : xs[i]? = some xs[i] := List.getElem?_eq_getElem (by omega)
        have hy : ys[i]? = some ys[i] := List.getElem?_eq_getElem hi
        have ax : atI xs ((0 : Int) + i) = some xs[i] := by rw [Int.zero_add]; exact atI_nat hx
        have ay : atI ys ((0 : Int) + i) = some ys[i] := by rw [Int.zero_add]; exact atI_nat hy
        refine ⟨_, rfl, _, rfl, a, _, _, _, rfl, rfl, SqT.of (s2 _ _ ha), ax, _, rfl, _, rfl, b, _, _, _, rfl, rfl, SqT.of (s2 _ _ hb), ay, _, _, rfl, (h i _ _ hx hy).same s2, fun H3 s3 => ⟨_, rfl, iteF ⟨_, rfl, s2.trans s3⟩⟩⟩
      · rintro σ H2 ⟨v2, rfl, s2⟩
        exact q H2 s2
end
end WC

set_option maxHeartbeats 8000000
namespace WC
open PySem PySem.Spec PyProof.Rows L2
theorem Bg.onB {H H2 : Hp} {b : Addr} (h : Bg H b) : True := trivial
theorem Bg.ne {H : Hp} {b p : Addr} (h : Bg H b) (hp : H p = none) : p ≠ b := fun z => by
  obtain ⟨us, e⟩ := h.lst
  rw [z, e] at hp
  cases hp
theorem Bg.free {H H2 : Hp} {b p : Addr} (s : SameB b H H2) (hb : Bg H2 b) (hp : H2 p = none) : H p = none := by
  cases e : H p with
  | none => rfl
  | some o =>
    have := s p o e (hb.ne hp)
    rw [this] at hp
    cases hp
theorem Nx.known {K : PySem.W.Frag} {H H2 : Hp} {b : Addr} {y : V} (n : Nx b H H2) (ba : Bg H b) (k : Known K H y) : Known K H2 y := k.onB ba.lst (n.bg ba).lst n.1
theorem RowA.onB {K : PySem.W.Frag} {H H2 : Hp} {b : Addr} {o : Option (List V)} {v : V} (r : RowA K H o v) (ba : Bg H b) (bb : Bg H2 b) (z : SameB b H H2) : RowA K H2 o v := by
  cases o with
  | some xs =>
    obtain ⟨⟨a, e, h⟩, l, k⟩ := r
    obtain ⟨us, eb⟩ := ba.lst
    exact ⟨⟨a, e, z _ _ h (ne_of h eb (by intro z; cases z))⟩, l, fun x hx => (k x hx).onB ba.lst bb.lst z⟩
  | none =>
    refine ⟨r.1.onB ba.lst bb.lst z, ?_⟩
    cases v with
    | ref a =>
      have k := r.1
      rcases k with ⟨xs, e⟩ | ⟨xs, e⟩
      · have q := r.2
        simp only [isTup, e] at q
        cases q
      · have k2 : Known K H2 (.ref a) := r.1.onB ba.lst bb.lst z
        by_cases h : a = b
        · obtain ⟨us, eb⟩ := bb.lst
          rw [h]
          simp only [isTup, eb]
        · simp only [isTup, z _ _ e h]
    | int i => rfl
    | bl b => rfl
    | non => rfl
    | str z => rfl
    | byt b => rfl
    | flt b => rfl
    | ty n => rfl
theorem Nx.row {K : PySem.W.Frag} {H H2 : Hp} {b : Addr} {o : Option (List V)} {v : V} (n : Nx b H H2) (ba : Bg H b) (r : RowA K H o v) : RowA K H2 o v := r.onB ba (n.bg ba) n.1
def spCtr : Sp := fun vs H Q _ => ∃ b, vs = [.ref b] ∧ Bg H b ∧ ∀ (c : Int) H2, 0 ≤ c → c ≤ 999 → Nx b H H2 → Q (.int c) H2
def spOdd (K : PySem.W.Frag) : Sp := fun vs H Q _ => ∃ b, vs = [.ref b] ∧ Bg H b ∧ ∀ v H2, Known K H2 v → Nx b H H2 → Q v H2
def fltL : Option V → List V
  | none => []
  | some p => [p]
def spFlt (K : PySem.W.Frag) : Sp := fun vs H Q _ => ∃ x y o1 o2, vs = [x, y] ∧ RowA K H o1 x ∧ RowA K H o2 y ∧ ∀ r H2, Same H H2 → H2 r = some (.tup (fltL (faultO o1 o2))) → Q (.ref r) H2
theorem int_nat18 {d : Int} {n : Nat} (h0 : 0 ≤ d) (h1 : d < n) : ∃ k : Nat, d = k ∧ k < n := ⟨d.toNat, (Int.toNat_of_nonneg h0).symm, by omega⟩
section
variable {P : Program} {w : World} {K : PySem.W.Frag} {mg : Str → Option Value} {base : Heap}
theorem ok_counter18 {f : Addr} {fd : FuncData} (F : Fun K "_law_counter" "_law_counter" s_law_counter f fd) (g_law_take : DefR P w K mg base "_law_take" 1 spTk) : FnOk P w K mg base (L2.CX P w) 2 f fd ["bag"] spCtr := by
  refine F.okX sc_law_counter (fun vs H Q E h => ?_) (fun cdv A outer s H vs Q E hr h => ?_)
  · obtain ⟨b, rfl, _⟩ := h
    rfl
  · obtain ⟨b, rfl, hb, q⟩ := h
    refine ⟨_, (pss_cons (ps_set (i := 1) sc_law_counter.nd rfl (Or.inl rfl) (pe_cd g_law_take hr psE (pa_cons (pv 0) (pa_cons pe_int pa_nil))))
      (pss_cons (ps_if (pt_cmpR op_eq (pv 1) pe_int (nomark _)) (pss_one (ps_ret (pe_cd g_law_take hr psE (pa_cons (pv 0) (pa_cons pe_int pa_nil))))) pss_nil)
      (pss_cons (ps_if (pt_cmpR op_eq (pv 1) pe_int (nomark _)) (pss_one (ps_ret (pe_ix ix_list (pe_lst (pa_cons pe_int (pa_cons pe_int (pa_cons pe_int (pa_cons pe_int pa_nil))))) (pe_cd g_law_take hr psE (pa_cons (pv 0) (pa_cons pe_int pa_nil))) (fun _ _ => rfl)))) pss_nil)
      (pss_one (ps_ret (pe_cd g_law_take hr psE (pa_cons (pv 0) (pa_cons pe_int pa_nil)))))))), ?_⟩
    refine ⟨_, rfl, b, _, rfl, hb, by decide, by decide, fun way H2 w0 w1 x2 => ?_⟩
    have b2 := x2.bg hb
    refine ⟨_, rfl, rfl, _, rfl, ite2 (fun _ => ?_) (fun _ => ?_)⟩
    · exact ⟨_, rfl, b, _, rfl, b2, by decide, by decide, fun d H3 d0 d1 x3 => q d H3 d0 (by omega) (x2.trans x3)⟩
    · dsimp only [tNext]
      refine ⟨_, rfl, rfl, _, rfl, ite2 (fun _ => ?_) (fun _ => ?_)⟩
      · refine ⟨by show 4 ≤ sizeLine; decide, fun p hp => ?_⟩
        have s3 : Same H2 (upd H2 p (.lst [.int 0, .int 999, .int 1, .int 998])) := Same.new hp
        have hp3 : upd H2 p (.lst [.int 0, .int 999, .int 1, .int 998]) p = some (.lst [.int 0, .int 999, .int 1, .int 998]) := upd_same
        refine ⟨_, rfl, b, _, rfl, b2.same s3, by decide, by decide, fun d H4 d0 d1 x4 => ?_⟩
        have pb := b2.ne hp
        obtain ⟨k, rfl, hk⟩ := int_nat18 d0 (show d < (4 : Nat) from d1)
        have sB : Nx b H H4 := (x2.trans (Nx.of s3)).trans x4
        have hp4 := x4.1 _ _ hp3 pb
        match k, hk with
        | 0, _ => exact ⟨p, _, _, _, rfl, rfl, SqL.of hp4, atI_nat (j := 0) rfl, q 0 H4 (by decide) (by decide) sB⟩
        | 1, _ => exact ⟨p, _, _, _, rfl, rfl, SqL.of hp4, atI_nat (j := 1) rfl, q 999 H4 (by decide) (by decide) sB⟩
        | 2, _ => exact ⟨p, _, _, _, rfl, rfl, SqL.of hp4, atI_nat (j := 2) rfl, q 1 H4 (by decide) (by decide) sB⟩
        | 3, _ => exact ⟨p, _, _, _, rfl, rfl, SqL.of hp4, atI_nat (j := 3) rfl, q 998 H4 (by decide) (by decide) sB⟩
      · exact ⟨_, rfl, b, _, rfl, b2, by decide, by decide, fun d H3 d0 d1 x3 => q d H3 d0 (by omega) (x2.trans x3)⟩
theorem ok_odd18 {f : Addr} {fd : FuncData} (F : Fun K "_law_odd" "_law_odd" s_law_odd f fd) (g_law_take : DefR P w K mg base "_law_take" 1 spTk) : FnOk P w K mg base (L2.CX P w) 2 f fd ["bag"] (spOdd K) := by
  refine F.okX sc_law_odd (fun vs H Q E h => ?_) (fun cdv A outer s H vs Q E hr h => ?_)
  · obtain ⟨b, rfl, _⟩ := h
    rfl
  · obtain ⟨b, rfl, hb, q⟩ := h
    refine ⟨_, (pss_one (ps_ret (pe_ix ix_list (pe_lst (pa_cons (pe_un un_neg pe_int) (pa_cons pe_int (pa_cons pe_bl (pa_cons pe_non (pa_cons pe_str (pa_cons pe_bl (pa_cons (pe_un un_neg pe_int) (pa_cons (pe_op op_pow pe_int pe_int) (pa_cons (pe_tup (pa_cons pe_int pa_nil)) pa_nil)))))))))) (pe_cd g_law_take hr psE (pa_cons (pv 0) (pa_cons pe_int pa_nil))) (fun _ _ => rfl)))), ?_⟩
    refine ⟨_, rfl, _, rfl, _, _, rfl, rfl, ⟨by decide, by decide, by decide⟩, by show 1 ≤ sizeLine; decide, fun t ht => ⟨by show 9 ≤ sizeLine; decide, fun p hp => ?_⟩⟩
    have s2 : Same H (upd H t (.tup [.int 1])) := Same.new ht
    obtain ⟨H3, e3⟩ : ∃ H3, H3 = upd (upd H t (.tup [.int 1])) p (.lst [.int (-1), .int 1000, .bl true, .non, .str "7", .bl false, .int (-999), .int (10 ^ 20), .ref t]) := ⟨_, rfl⟩
    have s3 : Same (upd H t (.tup [.int 1])) H3 := by rw [e3]; exact Same.new hp
    have hp3 : H3 p = some (.lst [.int (-1), .int 1000, .bl true, .non, .str "7", .bl false, .int (-999), .int (10 ^ 20), .ref t]) := by rw [e3, upd_same]
    have ht3 : H3 t = some (.tup [.int 1]) := s3 _ _ upd_same
    obtain ⟨L9, eL⟩ : ∃ L9 : List V, L9 = [.int (-1), .int 1000, .bl true, .non, .str "7", .bl false, .int (-999), .int (10 ^ 20), .ref t] := ⟨_, rfl⟩
    have hp3 : H3 p = some (.lst L9) := by rw [eL]; exact hp3
    have pH : H p = none := s2.free hp
    have fin : ∀ (k : Nat) (v : V) (H4 : Hp), L9[k]? = some v → SameB b H3 H4 → Bg H4 b → Known K H4 v ∧ SqL K H4 p L9 ∧ atI L9 (k : Int) = some v := fun k v H4 hk s4 b4 => by
      have pb := hb.ne pH
      have tb := hb.ne ht
      refine ⟨?_, SqL.of (s4 _ _ hp3 pb), atI_nat hk⟩
      have hm := List.mem_of_getElem? hk
      rw [eL] at hm
      simp only [List.mem_cons, List.not_mem_nil, or_false] at hm
      rcases hm with e | e | e | e | e | e | e | e | e <;> rw [e] <;> first | trivial | exact .inl ⟨_, s4 _ _ ht3 tb⟩
    refine ⟨_, rfl, b, 9, rfl, ?_⟩
    have goal : ∀ H3' : Hp, H3' = H3 → Bg H3' b ∧ (0 : Int) < 9 ∧ (9 : Int) < 1073741824 ∧ ∀ (d : Int) H4, 0 ≤ d → d < 9 → Nx b H3' H4 → ∃ q xs k v, V.ref p = .ref q ∧ V.int d = .int k ∧ SqL K H4 q xs ∧ atI xs k = some v ∧ Q v H4 := fun H3' e => by
      subst e
      refine ⟨hb.same (s2.trans s3), by decide, by decide, fun d H4 d0 d1 x4 => ?_⟩
      obtain ⟨k, rfl, hk⟩ := int_nat18 d0 (show d < (9 : Nat) from d1)
      have hl : k < L9.length := by rw [eL]; exact hk
      obtain ⟨z1, z2, z3⟩ := fin k L9[k] H4 (List.getElem?_eq_getElem hl) x4.1 (x4.bg (hb.same (s2.trans s3)))
      exact ⟨p, L9, _, _, rfl, rfl, z2, z3, q _ H4 z1 ((Nx.of (s2.trans s3)).trans x4)⟩
    exact goal _ e3.symm
end
end WC

set_option maxHeartbeats 8000000
namespace WC
open PySem PySem.Spec PyProof.Rows L2
theorem catA_use {K : PySem.W.Frag} {H : Hp} {a b : Addr} {xs ys zs : List V} {Q : VK} (ha : H a = some (.tup xs)) (hb : H b = some (.tup ys)) (hl : xs.length + ys.length ≤ 100000) (e : xs ++ ys = zs) (k : ∀ p H2, Same H H2 → H2 p = some (.tup zs) → Q (.ref p) H2) : rCatA K (.ref a) (.ref b) H Q := by
  refine ⟨a, b, xs, ys, rfl, rfl, SqT.of ha, SqT.of hb, line_of hl, fun e1 => k b H (Same.refl H) ?_, fun _ e2 => k a H (Same.refl H) ?_, fun _ _ p hp => k p _ (Same.new hp) (by rw [upd_same, e])⟩
  · rw [hb, ← e, e1]; rfl
  · rw [ha, ← e, e2, List.append_nil]
theorem Known.upd {K : PySem.W.Frag} {H : Hp} {l : Addr} {us vs : List V} {y : V} (k : Known K H y) (h : H l = some (.lst us)) : Known K (upd H l (.lst vs)) y := k.onB ⟨us, h⟩ ⟨vs, upd_same⟩ (SameB.refl l H).upd
theorem cutV_le (xs : List V) (lo hi : Option Int) : (cutV xs lo hi).length ≤ xs.length := by
  unfold cutV
  rw [List.length_take, List.length_drop]
  omega
theorem cutV_mem {xs : List V} {lo hi : Option Int} {x : V} (h : x ∈ cutV xs lo hi) : x ∈ xs := by
  unfold cutV at h
  exact List.mem_of_mem_drop (List.mem_of_mem_take h)
def spSpo (K : PySem.W.Frag) : Sp := fun vs H Q _ => ∃ b r, ∃ ns : List Int, vs = [.ref b, .ref r] ∧ Bg H b ∧ r ≠ b ∧ H r = some (.lst (ns.map V.int)) ∧ 1 ≤ ns.length ∧ ns.length ≤ 40 ∧ ∀ v o H2, Nx b H H2 → RowA K H2 o v → Q v H2
theorem row_tup {K : PySem.W.Frag} {H : Hp} {a : Addr} {xs : List V} (h : H a = some (.tup xs)) (hl : xs.length ≤ 1000) (k : ∀ x ∈ xs, Known K H x) : RowA K H (some xs) (.ref a) := ⟨⟨a, rfl, h⟩, hl, k⟩
theorem ints_known {K : PySem.W.Frag} {H : Hp} {ns : List Int} : ∀ x ∈ ns.map V.int, Known K H x := fun x hx => by
  obtain ⟨i, _, rfl⟩ := List.mem_map.mp hx
  trivial
section
variable {P : Program} {w : World} {K : PySem.W.Frag} {mg : Str → Option Value} {base : Heap}
theorem ok_fault18 {f : Addr} {fd : FuncData} (F : Fun K "_law_fault" "_law_fault" s_law_fault f fd) (B : Blt mg) (g_law_good : DefR P w K mg base "_law_good" 2 (spGd K)) : FnOk P w K mg base (L2.CX P w) 3 f fd ["bottoms", "roofs"] (spFlt K) := by
  refine F.okX sc_law_fault (fun vs H Q E h => ?_) (fun cdv A outer s H vs Q E hr h => ?_)
  · obtain ⟨x, y, o1, o2, rfl, _⟩ := h
    rfl
  · obtain ⟨x, y, o1, o2, rfl, r1, r2, q⟩ := h
    -- slots: 0 bottoms, 1 roofs, 2 row, 3 k
    refine ⟨_, (pss_cons (ps_for (passes_of rfl) rfl (pi_tup (pe_tup (pa_cons (pv 0) (pa_cons (pv 1) pa_nil)))) (pg_name (i := 2) sc_law_fault.nd rfl (Or.inl rfl))
        (pss_one (ps_if (PW.pt (pw_or (pt_not (pt_val (pe_callB call_isi (by rfl) B.isi bt_isi (pa_cons (pv 2) (pa_cons (pe_bltn (v := .ty "tuple") (by rfl) B.tuple bt_tuple rfl) pa_nil))))) (pw_or (pt_cmpR op_lt (pe_callB call_len_seq (by rfl) B.len bt_len (pa_cons (pv 2) pa_nil)) pe_int (nomark _)) (pw_or1 (pt_cmpR op_gt (pe_callB call_len_seq (by rfl) B.len bt_len (pa_cons (pv 2) pa_nil)) pe_int (nomark _)))))) (pss_one (ps_ret (pe_tup (pa_cons pe_non pa_nil)))) pss_nil)))
      (pss_cons (ps_if (pt_cmpR op_ne (pe_callB call_len_seq (by rfl) B.len bt_len (pa_cons (pv 0) pa_nil)) (pe_callB call_len_seq (by rfl) B.len bt_len (pa_cons (pv 1) pa_nil)) (nomark _)) (pss_one (ps_ret (pe_tup (pa_cons pe_non pa_nil)))) pss_nil)
      (pss_cons (ps_for (passes_of rfl) rfl (pi_range1 (by rfl) B.range (pa_cons (pe_callB call_len_seq (by rfl) B.len bt_len (pa_cons (pv 0) pa_nil)) pa_nil)) (pg_name (i := 3) sc_law_fault.nd rfl (Or.inl rfl))
        (pss_one (ps_if (PW.pt (pw_or (pt_not (pt_val (pe_cd g_law_good hr psE (pa_cons (pe_ix ix_tup (pv 0) (pv 3) (fun _ _ => rfl)) pa_nil)))) (pw_or1 (pt_not (pt_val (pe_cd g_law_good hr psE (pa_cons (pe_ix ix_tup (pv 1) (pv 3) (fun _ _ => rfl)) pa_nil))))))) (pss_one (ps_ret (pe_tup (pa_cons (pv 3) pa_nil)))) pss_nil)))
      (pss_one (ps_ret (pe_tup pa_nil)))))), ?_⟩
    have bad : faultO o1 o2 = some .non → ∀ (H2 : Hp), Same H H2 → 1 ≤ sizeLine ∧ ∀ p, H2 p = none → Q (.ref p) (upd H2 p (.tup [.non])) := fun e H2 s2 => ⟨by decide, fun p hp => q p _ (s2.trans (Same.new hp)) (by rw [upd_same, e]; rfl)⟩
    have b1 : rowO o1 = false → faultO o1 o2 = some .non := fun e => by
      cases o1 with
      | none => rfl
      | some xs =>
        cases o2 with
        | none => rfl
        | some ys =>
          have e : rowL xs = false := e
          simp only [faultO, e, Bool.false_and]
          rfl
    have b2 : rowO o2 = false → faultO o1 o2 = some .non := fun e => by
      cases o1 with
      | none => rfl
      | some xs =>
        cases o2 with
        | none => rfl
        | some ys =>
          have e : rowL ys = false := e
          simp only [faultO, e, Bool.false_and, Bool.and_false]
          rfl
    -- one row looked at
    refine ⟨_, rfl, _, rfl, by show 2 ≤ sizeLine; decide, fun T hT => ?_⟩
    have sT : Same H (upd H T (.tup [x, y])) := Same.new hT
    have gT : upd H T (.tup [x, y]) T = some (.tup [x, y]) := upd_same
    refine ⟨T, rfl, ⟨_, SqT.of gT⟩, for_it (walk_tup (xs := [x, y])) (fun i σ H2 => ∃ v2, σ = [some x, some y, v2, none] ∧ Same (upd H T (.tup [x, y])) H2 ∧ (1 ≤ i → rowO o1 = true) ∧ (2 ≤ i → rowO o2 = true)) ⟨_, rfl, Same.refl _, fun z => absurd z (by decide), fun z => absurd z (by decide)⟩ ?_ ?_ ?_⟩
    · rintro i σ H2 _ ⟨_, _, s2, _⟩
      exact SqT.of (s2 _ _ gT)
    · rintro i z σ H2 H3 hi ⟨v2, rfl, s2, a1, a2⟩ ⟨rfl, hz⟩
      have sA := sT.trans s2
      obtain ⟨o, ro, bo, go⟩ : ∃ o, RowA K H3 o z ∧ (rowO o = false → faultO o1 o2 = some .non) ∧ (rowO o = true → (1 ≤ i + 1 → rowO o1 = true) ∧ (2 ≤ i + 1 → rowO o2 = true)) := by
        match i, hi, hz with
        | 0, _, hz =>
          cases hz
          exact ⟨o1, r1.same sA, b1, fun g => ⟨fun _ => g, fun z => absurd z (by decide)⟩⟩
        | 1, _, hz =>
          cases hz
          exact ⟨o2, r2.same sA, b2, fun g => ⟨fun _ => a1 (Nat.le_refl _), fun _ => g⟩⟩
      obtain ⟨T1, ty, kt⟩ := ro.tu
      refine ⟨_, rfl, _, _, _, _, _, rfl, .ty _, ty, kt, _, rfl, ?_⟩
      cases o with
      | none => exact iteT (iteT (bad (bo rfl) _ sA))
      | some xs =>
        obtain ⟨⟨a, rfl, ha⟩, _, _⟩ := ro
        refine iteF ⟨_, rfl, a, _, rfl, .inr (SqT.of ha), _, _, rfl, rfl, _, rfl, ite2 (fun e => ?_) (fun e => ?_)⟩
        · refine iteT (bad (bo ?_) _ sA)
          have e := of_decide_eq_true e
          show rowL xs = false
          unfold rowL
          rw [decide_eq_false (show ¬ 1 ≤ xs.length by omega)]
          rfl
        · have e : ¬ (xs.length : Int) < 1 := fun z => e (decide_eq_true z)
          refine ⟨_, rfl, a, _, rfl, .inr (SqT.of ha), _, _, rfl, rfl, _, rfl, ite2 (fun e2 => ?_) (fun e2 => ?_)⟩
          · refine bad (bo ?_) _ sA
            have e2 := of_decide_eq_true e2
            show rowL xs = false
            unfold rowL
            rw [decide_eq_false (show ¬ xs.length ≤ 40 by omega), Bool.and_false]
          · have e2 : ¬ (40 : Int) < (xs.length : Int) := fun z => e2 (decide_eq_true z)
            have g : rowO (some xs) = true := by
              show rowL xs = true
              unfold rowL
              rw [decide_eq_true (show 1 ≤ xs.length by omega), decide_eq_true (show xs.length ≤ 40 by omega)]
              rfl
            exact ⟨_, rfl, s2, (go g).1, (go g).2⟩
    · rintro σ H2 ⟨v2, rfl, s2, a1, a2⟩
      have e1 := a1 (by show 1 ≤ 2; decide)
      have e2 := a2 (by show 2 ≤ 2; decide)
      have sA := sT.trans s2
      cases o1 with
      | none => cases e1
      | some xs =>
        cases o2 with
        | none => cases e2
        | some ys =>
          have e1 : rowL xs = true := e1
          have e2 : rowL ys = true := e2
          obtain ⟨⟨a, rfl, ha⟩, _, kx⟩ := r1
          obtain ⟨⟨b, rfl, hb⟩, _, ky⟩ := r2
          have lx := rowL_true e1
          refine ⟨_, rfl, a, _, rfl, .inr (SqT.of (sA _ _ ha)), _, rfl, b, _, rfl, .inr (SqT.of (sA _ _ hb)), rfl, _, rfl, ?_⟩
          by_cases el : xs.length = ys.length
          · rw [show (!decide (V.int (xs.length : Nat) = V.int (ys.length : Nat))) = false by simp [el]]
            have fo : faultO (some xs) (some ys) = posV (badAt xs ys) := by simp only [faultO, e1, e2, el, decide_true, Bool.and_self, if_true]
            refine iteF ⟨_, rfl, a, _, rfl, .inr (SqT.of (sA _ _ ha)), _, rfl, by omega, by omega, ?_⟩
            refine for_range (lo := 0) (n := xs.length) (fun i σ H3 => ∃ v3, σ = [some (.ref a), some (.ref b), v2, v3] ∧ Same H H3 ∧ ∀ (j : Nat) (u v : V), j < i → xs[j]? = some u → ys[j]? = some v → gC u = true ∧ gC v = true) ⟨_, rfl, sA, fun j u v z => absurd z (Nat.not_lt_zero j)⟩ ?_ ?_
            · rintro i σ H3 hi ⟨v3, rfl, s3, al⟩
              have hu : xs[i]? = some xs[i] := List.getElem?_eq_getElem hi
              have hv : ys[i]? = some (ys[i]'(by omega)) := List.getElem?_eq_getElem (by omega)
              generalize xs[i] = u at hu
              generalize ys[i]'(by omega) = v at hv
              have au : atI xs ((0 : Int) + i) = some u := by rw [Int.zero_add]; exact atI_nat hu
              have av : atI ys ((0 : Int) + i) = some v := by rw [Int.zero_add]; exact atI_nat hv
              have ku := (kx u (List.mem_of_getElem? hu)).same s3
              have kv := (ky v (List.mem_of_getElem? hv)).same s3
              have ret : (gC u && gC v) = false → 1 ≤ sizeLine ∧ ∀ p, H3 p = none → Q (.ref p) (upd H3 p (.tup [.int ((0 : Int) + i)])) := fun g => ⟨by decide, fun p hp => q p _ (s3.trans (Same.new hp)) (by
                rw [upd_same, fo, badAt_some hu hv g al, Int.zero_add]; rfl)⟩
              refine ⟨_, rfl, _, rfl, a, _, _, _, rfl, rfl, SqT.of (s3 _ _ ha), au, u, rfl, ku, _, rfl, ?_⟩
              cases gu : gC u with
              | false => exact iteT (iteT ⟨_, rfl, ret (by rw [gu]; rfl)⟩)
              | true =>
                refine iteF ⟨_, rfl, _, rfl, b, _, _, _, rfl, rfl, SqT.of (s3 _ _ hb), av, v, rfl, kv, _, rfl, ?_⟩
                cases gv : gC v with
                | false => exact iteT ⟨_, rfl, ret (by rw [gu, gv]; rfl)⟩
                | true =>
                  refine iteF ⟨_, rfl, s3, fun j p q2 hj e3 e4 => ?_⟩
                  rcases Nat.lt_succ_iff_lt_or_eq.mp hj with z | z
                  · exact al j p q2 z e3 e4
                  · subst z
                    rw [hu] at e3
                    rw [hv] at e4
                    cases e3
                    cases e4
                    exact ⟨gu, gv⟩
            · rintro σ H3 ⟨v3, rfl, s3, al⟩
              refine ⟨by show 0 ≤ sizeLine; decide, fun p hp => q p _ (s3.trans (Same.new hp)) ?_⟩
              rw [upd_same, fo, badAt_none el fun j u v h1 h2 => al j u v ((List.getElem?_eq_some_iff.mp h1).1) h1 h2]
              rfl
          · rw [show (!decide (V.int (xs.length : Nat) = V.int (ys.length : Nat))) = true by simp; omega]
            refine iteT (bad ?_ _ sA)
            simp only [faultO, decide_eq_false el, Bool.and_false]
            rfl
theorem ok_spoilt18 {f : Addr} {fd : FuncData} (F : Fun K "_law_spoilt" "_law_spoilt" s_law_spoilt f fd) (B : Blt mg) (g_law_take : DefR P w K mg base "_law_take" 1 spTk) (g_law_counter : DefR P w K mg base "_law_counter" 2 spCtr) (g_law_odd : DefR P w K mg base "_law_odd" 2 (spOdd K)) : FnOk P w K mg base (L2.CX P w) 3 f fd ["bag", "row"] (spSpo K) := by
  refine F.okX sc_law_spoilt (fun vs H Q E h => ?_) (fun cdv A outer s H vs Q E hr h => ?_)
  · obtain ⟨b, r, ns, rfl, _⟩ := h
    rfl
  · obtain ⟨b, r, ns, rfl, hb, rb, hrow, n1, n40, q⟩ := h
    -- slots: 0 bag, 1 row, 2 way, 3 bent
    refine ⟨_, (pss_cons (ps_set (i := 2) sc_law_spoilt.nd rfl (Or.inl rfl) (pe_cd g_law_take hr psE (pa_cons (pv 0) (pa_cons pe_int pa_nil))))
      (pss_cons (ps_if (pt_cmpR op_eq (pv 2) pe_int (nomark _)) (pss_one (ps_ret (pe_callTy (T := "tuple") (c_tup (K := K)) (by rfl) B.tuple bt_tuple (pa_cons (pv 1) pa_nil)))) pss_nil)
      (pss_cons (ps_if (pt_cmpR op_lt (pv 2) pe_int (nomark _)) (pss_cons (ps_set (i := 3) sc_law_spoilt.nd rfl (Or.inl rfl) (pe_callTy (T := "list") call_list_of (by rfl) B.list bt_list (pa_cons (pv 1) pa_nil)))
      (pss_cons (ps_asg (pe_cd g_law_odd hr psE (pa_cons (pv 0) pa_nil)) (pg_sub (pv 3) (pe_cd g_law_take hr psE (pa_cons (pv 0) (pa_cons (pe_callB call_len_seq (by rfl) B.len bt_len (pa_cons (pv 1) pa_nil)) pa_nil))) set_list))
      (pss_cons (ps_if (pt_cmpR op_eq (pv 2) pe_int (nomark _)) (pss_one (ps_asg (pe_cd g_law_odd hr psE (pa_cons (pv 0) pa_nil)) (pg_sub (pv 3) (pe_cd g_law_take hr psE (pa_cons (pv 0) (pa_cons (pe_callB call_len_seq (by rfl) B.len bt_len (pa_cons (pv 1) pa_nil)) pa_nil))) set_list))) pss_nil)
      (pss_one (ps_ret (pe_callTy (T := "tuple") (c_tup (K := K)) (by rfl) B.tuple bt_tuple (pa_cons (pv 3) pa_nil))))))) pss_nil)
      (pss_cons (ps_if (pt_cmpR op_eq (pv 2) pe_int (nomark _)) (pss_one (ps_ret (pe_callTy (T := "tuple") (c_tup (K := K)) (by rfl) B.tuple bt_tuple (pa_cons (pe_slice sl_list (pv 1) (po_some pe_int) po_none) pa_nil)))) pss_nil)
      (pss_cons (ps_if (pt_cmpR op_eq (pv 2) pe_int (nomark _)) (pss_one (ps_ret (pe_op op_catA (pe_callTy (T := "tuple") (c_tup (K := K)) (by rfl) B.tuple bt_tuple (pa_cons (pv 1) pa_nil)) (pe_tup (pa_cons (pe_cd g_law_counter hr psE (pa_cons (pv 0) pa_nil)) pa_nil))))) pss_nil)
      (pss_cons (ps_if (pt_cmpR op_eq (pv 2) pe_int (nomark _)) (pss_one (ps_ret (pe_op op_catA (pe_callTy (T := "tuple") (c_tup (K := K)) (by rfl) B.tuple bt_tuple (pa_cons (pv 1) pa_nil)) (pe_callTy (T := "tuple") (c_tup (K := K)) (by rfl) B.tuple bt_tuple (pa_cons (pe_op op_rep (pe_lst (pa_cons pe_int pa_nil)) (pe_op op_sub pe_int (pe_callB call_len_seq (by rfl) B.len bt_len (pa_cons (pv 1) pa_nil)))) pa_nil))))) pss_nil)
      (pss_one (ps_ret (pe_ix ix_list (pe_lst (pa_cons (pe_callTy (T := "list") call_list_of (by rfl) B.list bt_list (pa_cons (pv 1) pa_nil)) (pa_cons pe_non (pa_cons (pe_tup pa_nil) (pa_cons pe_str (pa_cons pe_int pa_nil)))))) (pe_cd g_law_take hr psE (pa_cons (pv 0) (pa_cons pe_int pa_nil))) (fun _ _ => rfl)))))))))), ?_⟩
    have ln : ((ns.map V.int).length : Int) = (ns.length : Int) := by rw [List.length_map]
    refine ⟨_, rfl, b, _, rfl, hb, by decide, by decide, fun way H2 w0 w1 x2 => ?_⟩
    have b2 := x2.bg hb
    have hr2 := x2.1 _ _ hrow rb
    have tupR : ∀ (H3 : Hp), Nx b H H3 → H3 r = some (.lst (ns.map V.int)) := fun H3 x3 => x3.1 _ _ hrow rb
    refine ⟨_, rfl, rfl, _, rfl, ite2 (fun _ => ?_) (fun _ => ?_)⟩
    · refine ⟨_, rfl, r, _, rfl, .inl ⟨SqL.of hr2, fun p hp => q _ (some (ns.map V.int)) _ (x2.trans (Nx.of (Same.new hp))) (row_tup upd_same (by rw [List.length_map]; omega) ints_known)⟩⟩
    dsimp only [tNext]
    refine ⟨_, rfl, _, _, rfl, rfl, _, rfl, ite2 (fun _ => ?_) (fun _ => ?_)⟩
    · refine ⟨_, rfl, r, _, rfl, .inl (SqL.of hr2), fun l hl => ?_⟩
      -- the list being bent at l, its items known
      have lH : H l = none := Bg.free x2.1 b2 hl
      have lb : l ≠ b := b2.ne hl
      have s3 : Same H2 (upd H2 l (.lst (ns.map V.int))) := Same.new hl
      obtain ⟨H3, e3⟩ : ∃ H3, H3 = upd H2 l (.lst (ns.map V.int)) := ⟨_, rfl⟩
      rw [← e3] at s3
      have x3 : Nx b H H3 := x2.trans (Nx.of s3)
      have hl3 : H3 l = some (.lst (ns.map V.int)) := by rw [e3, upd_same]
      show gName 3 (.ref l) _ (upd H2 l (.lst (ns.map V.int))) _
      rw [← e3]
      -- one item put in: what stands then
      have put : ∀ (G G2 G3 : Hp) (us : List V) (v : V) (k : Nat), Nx b H G → Bg G b → G l = some (.lst us) → (∀ x ∈ us, Known K G x) → Known K G2 v → Nx b G G2 → Nx b G2 G3 → G3 l = some (.lst us) ∧ Nx b H (upd G3 l (.lst (us.set k v))) ∧ upd G3 l (.lst (us.set k v)) l = some (.lst (us.set k v)) ∧ ∀ x ∈ us.set k v, Known K (upd G3 l (.lst (us.set k v))) x := fun G G2 G3 us v k n1 bg hG ku kv n2 n3 => by
        have hG3 : G3 l = some (.lst us) := n3.1 _ _ (n2.1 _ _ hG lb) lb
        refine ⟨hG3, ((n1.trans n2).trans n3).put lH, upd_same, fun x hx => ?_⟩
        have kx : Known K G3 x := by
          rcases List.mem_or_eq_of_mem_set hx with e | e
          · exact n3.known (n2.bg bg) (n2.known bg (ku x e))
          · rw [e]; exact n3.known (n2.bg bg) kv
        exact kx.upd hG3
      refine ⟨_, rfl, b, rfl, x3.bg hb, fun v H4 kv x4 => ?_⟩
      refine ⟨_, rfl, _, rfl, _, rfl, r, _, rfl, .inl (SqL.of (tupR H4 (x3.trans x4))), b, _, rfl, x4.bg (x3.bg hb), by rw [List.length_map]; omega, by rw [List.length_map]; omega, fun d H5 d0 d1 x5 => ?_⟩
      obtain ⟨k, rfl, hk⟩ := int_nat18 d0 d1
      obtain ⟨p1, p2, p3, p4⟩ := put H3 H4 H5 (ns.map V.int) v k x3 (x3.bg hb) hl3 ints_known kv x4 x5
      refine ⟨l, _, _, k, rfl, rfl, p1, ixn18 hk, ?_⟩
      obtain ⟨us, eu⟩ : ∃ us, us = (ns.map V.int).set k v := ⟨_, rfl⟩
      have lu : us.length = ns.length := by rw [eu, List.length_set, List.length_map]
      obtain ⟨H6, e6⟩ : ∃ H6, H6 = upd H5 l (.lst us) := ⟨_, rfl⟩
      rw [← eu, ← e6] at p2 p3 p4
      rw [← eu, ← e6]
      -- the end: tuple(bent)
      have fin : ∀ (G : Hp) (ws : List V), Nx b H G → G l = some (.lst ws) → ws.length = ns.length → (∀ x ∈ ws, Known K G x) → ∀ p, G p = none → Q (.ref p) (upd G p (.tup ws)) := fun G ws n1 hG lw kw p hp =>
        q _ (some ws) _ (n1.trans (Nx.of (Same.new hp))) (row_tup upd_same (by omega) fun x hx => (kw x hx).same (Same.new hp))
      refine ⟨_, rfl, rfl, _, rfl, ite2 (fun _ => ?_) (fun _ => ?_)⟩
      · refine ⟨_, rfl, b, rfl, p2.bg hb, fun v2 H7 kv2 x7 => ?_⟩
        refine ⟨_, rfl, _, rfl, _, rfl, r, _, rfl, .inl (SqL.of (tupR H7 (p2.trans x7))), b, _, rfl, x7.bg (p2.bg hb), by rw [List.length_map]; omega, by rw [List.length_map]; omega, fun d2 H8 d20 d21 x8 => ?_⟩
        obtain ⟨k2, rfl, hk2⟩ := int_nat18 d20 d21
        obtain ⟨q1, q2, q3, q4⟩ := put H6 H7 H8 us v2 k2 p2 (p2.bg hb) p3 p4 kv2 x7 x8
        refine ⟨l, _, _, k2, rfl, rfl, q1, ixn18 (by rw [lu]; rw [List.length_map] at hk2; exact hk2), ?_⟩
        exact ⟨_, rfl, l, _, rfl, .inl ⟨SqL.of q3, fin _ _ q2 q3 (by rw [List.length_set]; exact lu) q4⟩⟩
      · exact ⟨_, rfl, l, _, rfl, .inl ⟨SqL.of p3, fin _ _ p2 p3 lu p4⟩⟩
    dsimp only [tNext]
    refine ⟨_, rfl, rfl, _, rfl, ite2 (fun _ => ?_) (fun _ => ?_)⟩
    · refine ⟨_, rfl, _, rfl, r, _, rfl, SqL.of hr2, fun l hl => ⟨l, _, rfl, .inl ⟨SqL.of upd_same, fun p hp => ?_⟩⟩⟩
      have s3 := (Same.new (o := .lst (cutV (ns.map V.int) (some 1) none)) hl).trans (Same.new (o := .tup (cutV (ns.map V.int) (some 1) none)) hp)
      refine q _ (some (cutV (ns.map V.int) (some 1) none)) _ (x2.trans (Nx.of s3)) (row_tup upd_same ?_ fun x hx => ?_)
      · have : (cutV (ns.map V.int) (some 1) none).length ≤ (ns.map V.int).length := cutV_le _ _ _
        rw [List.length_map] at this
        omega
      · exact ints_known x (cutV_mem hx)
    dsimp only [tNext]
    refine ⟨_, rfl, rfl, _, rfl, ite2 (fun _ => ?_) (fun _ => ?_)⟩
    · refine ⟨_, rfl, r, _, rfl, .inl ⟨SqL.of hr2, fun p hp => ?_⟩⟩
      have s3 : Same H2 (upd H2 p (.tup (ns.map V.int))) := Same.new hp
      have hp3 : upd H2 p (.tup (ns.map V.int)) p = some (.tup (ns.map V.int)) := upd_same
      refine ⟨_, rfl, b, rfl, b2.same s3, fun c H4 c0 c1 x4 => ⟨by show 1 ≤ sizeLine; decide, fun p2 hp2 => ?_⟩⟩
      have hp4 := x4.1 _ _ hp3 (b2.ne hp)
      have s5 : Same H4 (upd H4 p2 (.tup [.int c])) := Same.new hp2
      refine catA_use (s5 _ _ hp4) upd_same (by rw [List.length_map]; show ns.length + 1 ≤ 100000; omega) rfl fun p3 H6 s6 h6 => ?_
      refine q _ (some (ns.map V.int ++ [.int c])) H6 (x2.trans ((Nx.of s3).trans (x4.trans (Nx.of (s5.trans s6))))) (row_tup h6 (by rw [List.length_append, List.length_map]; show ns.length + 1 ≤ 1000; omega) fun x hx => ?_)
      rcases List.mem_append.mp hx with e | e
      · exact ints_known x e
      · rw [List.mem_singleton.mp e]; trivial
    dsimp only [tNext]
    refine ⟨_, rfl, rfl, _, rfl, ite2 (fun _ => ?_) (fun _ => ?_)⟩
    · refine ⟨_, rfl, r, _, rfl, .inl ⟨SqL.of hr2, fun p hp => ?_⟩⟩
      have s3 : Same H2 (upd H2 p (.tup (ns.map V.int))) := Same.new hp
      have hp3 : upd H2 p (.tup (ns.map V.int)) p = some (.tup (ns.map V.int)) := upd_same
      refine ⟨by show 1 ≤ sizeLine; decide, fun p2 hp2 => ?_⟩
      have s4 : Same (upd H2 p (.tup (ns.map V.int))) (upd (upd H2 p (.tup (ns.map V.int))) p2 (.lst [.int 0])) := Same.new hp2
      have hr4 := s4 _ _ (s3 _ _ hr2)
      refine ⟨_, rfl, r, _, rfl, .inl (SqL.of hr4), _, _, rfl, rfl, p2, _, [.int 0], rfl, rfl, upd_same, by rw [List.length_map]; omega, by rw [List.length_map]; omega, by rw [List.length_map]; show 1 * _ ≤ sizeLine; refine line_of ?_; omega, fun p3 hp3' => ?_⟩
      have ez : (List.replicate ((41 : Int) - ((ns.map V.int).length : Nat)).toNat [V.int 0]).flatten = (List.replicate (41 - ns.length) (0 : Int)).map V.int := by
        rw [List.length_map]
        have e1 : ((41 : Int) - (ns.length : Nat)).toNat = 41 - ns.length := by omega
        rw [e1]
        generalize 41 - ns.length = m
        induction m with
        | zero => rfl
        | succ m ih => rw [List.replicate_succ, List.flatten_cons, ih, List.replicate_succ]; rfl
      have s5 := Same.new (o := .lst (List.replicate ((41 : Int) - ((ns.map V.int).length : Nat)).toNat [V.int 0]).flatten) hp3'
      refine ⟨p3, _, rfl, .inl ⟨SqL.of upd_same, fun p4 hp4 => ?_⟩⟩
      have s6 := Same.new (o := .tup (List.replicate ((41 : Int) - ((ns.map V.int).length : Nat)).toNat [V.int 0]).flatten) hp4
      refine catA_use (s6 _ _ (s5 _ _ (s4 _ _ hp3))) upd_same ?_ rfl fun p5 H6 s7 h6 => ?_
      · rw [ez, List.length_map, List.length_map, List.length_replicate]
        omega
      · refine q _ _ H6 (x2.trans (Nx.of (s3.trans (s4.trans (s5.trans (s6.trans s7)))))) (row_tup h6 ?_ fun x hx => ?_)
        · rw [ez, List.length_append, List.length_map, List.length_map, List.length_replicate]
          omega
        · rw [ez] at hx
          rcases List.mem_append.mp hx with e | e
          · exact ints_known x e
          · exact ints_known x e
    dsimp only [tNext]
    refine ⟨_, rfl, r, _, rfl, .inl (SqL.of hr2), fun l hl => ?_⟩
    have s3 : Same H2 (upd H2 l (.lst (ns.map V.int))) := Same.new hl
    have hl3 : upd H2 l (.lst (ns.map V.int)) l = some (.lst (ns.map V.int)) := upd_same
    refine ⟨by show 0 ≤ sizeLine; decide, fun t ht => ⟨by show 5 ≤ sizeLine; decide, fun p hp => ?_⟩⟩
    have s4 := Same.new (o := .tup []) ht
    obtain ⟨L5, eL⟩ : ∃ L5 : List V, L5 = [.ref l, .non, .ref t, .str "7", .int 7] := ⟨_, rfl⟩
    have s5 := Same.new (o := .lst [.ref l, .non, .ref t, .str "7", .int 7]) hp
    have hp5 := upd_same (H := upd (upd H2 l (.lst (ns.map V.int))) t (.tup [])) (a := p) (o := .lst [.ref l, .non, .ref t, .str "7", .int 7])
    have x5 := x2.trans (Nx.of (s3.trans (s4.trans s5)))
    have pb : p ≠ b := x2.bg hb |>.ne (Same.free (s3.trans s4) hp)
    refine ⟨_, rfl, b, _, rfl, x5.bg hb, by decide, by decide, fun d H6 d0 d1 x6 => ?_⟩
    have hp6 := x6.1 _ _ hp5 pb
    have hl6 : H6 l = some (.lst (ns.map V.int)) := x6.1 _ _ (s5 _ _ (s4 _ _ hl3)) (b2.ne hl)
    have ht6 : H6 t = some (.tup []) := x6.1 _ _ (s5 _ _ upd_same) (b2.ne (Same.free s3 ht))
    have x26 := x5.trans x6
    obtain ⟨k, rfl, hk⟩ := int_nat18 d0 (show d < (5 : Nat) from d1)
    match k, hk with
    | 0, _ => exact ⟨p, _, _, _, rfl, rfl, SqL.of hp6, atI_nat (j := 0) rfl, q _ none _ x26 ⟨.inr ⟨_, hl6⟩, by simp only [isTup, hl6]⟩⟩
    | 1, _ => exact ⟨p, _, _, _, rfl, rfl, SqL.of hp6, atI_nat (j := 1) rfl, q _ none _ x26 ⟨trivial, rfl⟩⟩
    | 2, _ => exact ⟨p, _, _, _, rfl, rfl, SqL.of hp6, atI_nat (j := 2) rfl, q _ (some []) _ x26 (row_tup ht6 (by decide) fun x hx => by cases hx)⟩
    | 3, _ => exact ⟨p, _, _, _, rfl, rfl, SqL.of hp6, atI_nat (j := 3) rfl, q _ none _ x26 ⟨trivial, rfl⟩⟩
    | 4, _ => exact ⟨p, _, _, _, rfl, rfl, SqL.of hp6, atI_nat (j := 4) rfl, q _ none _ x26 ⟨trivial, rfl⟩⟩
end
end WC

set_option maxHeartbeats 8000000
namespace WC
open PySem PySem.Spec PyProof.Rows L2
theorem bt_verr : bootBuiltins "ValueError" = some (.type "ValueError") := by decide +kernel
/-- what is asked of the errors' classes -/
structure RefB (K : PySem.W.Frag) (mg : Str → Option Value) (CW CB CX CN : Addr) : Prop where
  gB : mg "InvalidBox" = some (.ref CB)
  gW : mg "WithinCallError" = some (.ref CW)
  gX : mg "InvalidState" = some (.ref CX)
  gN : mg "NotFound" = some (.ref CN)
  bB : PySem.W.exmOne K (.ref CB) (.ref CB) = some true
  bN : PySem.W.exmOne K (.ref CB) (.ref CN) = some false
  nN : PySem.W.exmOne K (.ref CN) (.ref CN) = some true
  bc : ExcC K CB
  bf : XfC K CB
  nc : ExcC K CN
  nf : XfC K CN
  bW : PySem.W.kitOne K (.ref CB) (.ref CW) = some true
  bX : PySem.W.kitOne K (.ref CB) (.ref CX) = some false
  bV : PySem.W.kitOne K (.ref CB) (.type "ValueError") = some true
  nW : PySem.W.kitOne K (.ref CN) (.ref CW) = some true
  nV : PySem.W.kitOne K (.ref CN) (.type "ValueError") = some true
  pos : PySem.W.findIn K (.ref CB) "position" = some none
  num : PySem.W.findIn K (.ref CN) "number" = some none
def tok (x : Addr) : List V := [.int 0, .ref x]
def tno (k : Int) (p : V) : List V := [.int k, p, .bl true]
def spBuilt (K : PySem.W.Frag) (BX : Addr) : Sp := fun vs H Q _ => ∃ x y o1 o2, vs = [x, y] ∧ RowA K H o1 x ∧ RowA K H o2 y ∧ (faultO o1 o2 = none → ∀ r b H2, Same H H2 → BoxV H2 b BX x y → H2 r = some (.tup (tok b)) → Q (.ref r) H2) ∧ ∀ p, faultO o1 o2 = some p → ∀ r H2, Same H H2 → H2 r = some (.tup (tno 1 p)) → Q (.ref r) H2
def spMade (K : PySem.W.Frag) (BX : Addr) : Sp := fun vs H Q _ =>
  (∃ v o, vs = [.int 1, v] ∧ RowA K H o v ∧ (faultO o o = none → ∀ r b H2, Same H H2 → BoxV H2 b BX v v → H2 r = some (.tup (tok b)) → Q (.ref r) H2) ∧ ∀ p, faultO o o = some p → ∀ r H2, Same H H2 → H2 r = some (.tup (tno 1 p)) → Q (.ref r) H2) ∨
  (∃ v, vs = [.int 0, v] ∧ Known K H v ∧ (∀ n : Nat, v = .int n → 1 ≤ n → n ≤ 40 → ∀ r b H2, Same H H2 → BoxR H2 b BX (List.replicate n 0) (List.replicate n 999) → H2 r = some (.tup (tok b)) → Q (.ref r) H2) ∧ (btw v 1 40 = false → ∀ r H2, Same H H2 → H2 r = some (.tup (tno 1 .non)) → Q (.ref r) H2))
def spComm (BX : Addr) : Sp := fun vs H Q _ => ∃ x y lo hi lo2 hi2, vs = [.ref x, .ref y] ∧ BoxR H x BX lo hi ∧ BxOk lo hi ∧ BoxR H y BX lo2 hi2 ∧ BxOk lo2 hi2 ∧ (lo.length ≠ lo2.length → ∀ r H2, Same H H2 → H2 r = some (.tup (tno 1 .non)) → Q (.ref r) H2) ∧
  (lo.length = lo2.length → ∀ r z H2, Same H H2 → BoxR H2 z BX (List.zipWith mx2 lo lo2) (List.zipWith mn2 hi hi2) → H2 r = some (.tup (tok z)) → Q (.ref r) H2)
section
variable {P : Program} {w : World} {K : PySem.W.Frag} {mg : Str → Option Value} {base : Heap}
theorem ok_built18 {f BX CW CB CX CN : Addr} {fd : FuncData} (F : Fun K "_law_built" "_law_built" s_law_built f fd) (B : Blt mg) (ZB : BoxK K mg BX) (T : RefB K mg CW CB CX CN) (DB : ClsR P w K mg base BX 4 (spBoxI K BX CB)) : FnOk P w K mg base (L2.CX P w) 6 f fd ["bottoms", "roofs"] (spBuilt K BX) := by
  refine F.okX sc_law_built (fun vs H Q E h => ?_) (fun cdv A outer s H vs Q E hr h => ?_)
  · obtain ⟨x, y, o1, o2, rfl, _⟩ := h
    rfl
  · obtain ⟨x, y, o1, o2, rfl, r1, r2, q0, q1⟩ := h
    -- slots: 0 bottoms, 1 roofs, 2 e, 3 above
    refine ⟨_, pss_one (ps_try_as (i := 2) (c := .ref CB) rfl rfl sc_law_built.nd rfl rfl ⟨rfl, by decide, Or.inl T.gB⟩ (takes_of rfl rfl rfl rfl)
        (fun W pn xe tk _ => pss_one (ps_ret (pe_tup (pa_cons pe_int (pa_cons (pe_ccS (W := W) DB ZB.gB (by exact hr) tk (pa_cons (pv 0) (pa_cons (pv 1) pa_nil))) pa_nil)))))
        (fun a oe cls d pn hz hf => pss_cons (ps_set (i := 3) sc_law_built.nd rfl (Or.inl rfl) (pe_and (pe_callB (call_isX T.bc hz hf) (by rfl) B.isi bt_isi (pa_cons (pv 2) (pa_cons (pe_glob (v := .ref CW) (by rfl) T.gW rfl) pa_nil))) (pe_one (pe_callB (call_isX T.bc hz hf) (by rfl) B.isi bt_isi (pa_cons (pv 2) (pa_cons (pe_bltn (v := .ty "ValueError") (by rfl) B.verr bt_verr rfl) pa_nil))))))
          (pss_one (ps_ret (pe_tup (pa_cons pe_int (pa_cons (pe_xf T.bf T.pos hz hf (pv 2)) (pa_cons (pe_and (pv 3) (pe_one (pe_not (pe_callB (call_isX T.bc hz hf) (by rfl) B.isi bt_isi (pa_cons (pv 2) (pa_cons (pe_glob (v := .ref CX) (by rfl) T.gX rfl) pa_nil)))))) pa_nil)))))))), ?_⟩
    refine ⟨_, rfl, _, rfl, mkb_use (K := K) (BX := BX) (CB := CB) (Q := fun v G => [V.int 0, v].length ≤ sizeLine ∧ ∀ p, G p = none → Q (.ref p) (upd G p (.tup [.int 0, v]))) r1 r2 (fun f0 b H2 s2 hb bv => ⟨by show 2 ≤ sizeLine; decide, fun r hr2 => ?_⟩) (fun p f0 => ?_)⟩
    · obtain ⟨dx, bv⟩ := bv
      exact q0 f0 r b _ (s2.trans (Same.new hr2)) ⟨dx, Same.new hr2 _ _ bv⟩ upd_same
    · intro H2 d s2 nd hd
      refine ⟨true, T.bB, fun _ a ha => ?_, fun z => by cases z⟩
      refine ⟨_, rfl, .ref CW, .ref CW, true, d, _, rfl, .own CW, T.bW, rfl, rfl, hd, _, rfl, iteT ⟨_, rfl, .ty "ValueError", .type "ValueError", true, d, _, rfl, .ty _, T.bV, rfl, rfl, hd, ?_⟩⟩
      refine ⟨_, rfl, rfl, rfl, d, _, p, rfl, hd, rfl, _, rfl, _, rfl, iteT ⟨_, rfl, .ref CX, .ref CX, false, d, _, rfl, .own CX, T.bX, rfl, rfl, hd, _, rfl, by show 3 ≤ sizeLine; decide, fun r hr2 => ?_⟩⟩
      exact q1 p f0 r _ (s2.trans (Same.new hr2)) upd_same
theorem ok_made18 {f BX CW CB CX CN : Addr} {fd : FuncData} (F : Fun K "_law_made" "_law_made" s_law_made f fd) (B : Blt mg) (ZB : BoxK K mg BX) (T : RefB K mg CW CB CX CN) (SF : StaR P w K mg base BX "full" 6 (spFull K BX CB)) (SE : StaR P w K mg base BX "exactly" 6 (spExact K BX CB)) : FnOk P w K mg base (L2.CX P w) 7 f fd ["way", "one"] (spMade K BX) := by
  refine F.okX sc_law_made (fun vs H Q E h => ?_) (fun cdv A outer s H vs Q E hr h => ?_)
  · rcases h with ⟨v, o, rfl, _⟩ | ⟨v, rfl, _⟩ <;> rfl
  · -- slots: 0 way, 1 one, 2 e
    refine ⟨_, pss_one (ps_try_as (i := 2) (c := .ref CB) rfl rfl sc_law_made.nd rfl rfl ⟨rfl, by decide, Or.inl T.gB⟩ (takes_of rfl rfl rfl rfl)
        (fun W pn xe tk _ => pss_cons (ps_if (pt_cmpR op_eq (pv 0) pe_int (nomark _)) (pss_one (ps_ret (pe_tup (pa_cons pe_int (pa_cons (pe_staS (W := W) SF (pe_glob (v := .ref BX) (by rfl) ZB.gB rfl) (by exact hr) tk (pa_cons (pv 1) pa_nil)) pa_nil))))) pss_nil)
          (pss_one (ps_ret (pe_tup (pa_cons pe_int (pa_cons (pe_staS (W := W) SE (pe_glob (v := .ref BX) (by rfl) ZB.gB rfl) (by exact hr) tk (pa_cons (pv 1) pa_nil)) pa_nil))))))
        (fun a oe cls d pn hz hf => pss_one (ps_ret (pe_tup (pa_cons pe_int (pa_cons (pe_xf T.bf T.pos hz hf (pv 2)) (pa_cons (pe_callB (call_isX T.bc hz hf) (by rfl) B.isi bt_isi (pa_cons (pv 2) (pa_cons (pe_glob (v := .ref CW) (by rfl) T.gW rfl) pa_nil))) pa_nil))))))), ?_⟩
    rcases h with ⟨v, o, rfl, r, q0, q1⟩ | ⟨v, rfl, kv, q0, q1⟩
    · refine ⟨_, rfl, rfl, _, rfl, iteF ⟨rfl, _, rfl, v, o, rfl, r, fun f0 b H2 s2 hb bv => ⟨by show 2 ≤ sizeLine; decide, fun r hr2 => ?_⟩, fun p f0 => ?_⟩⟩
      · obtain ⟨dx, bv⟩ := bv
        exact q0 f0 r b _ (s2.trans (Same.new hr2)) ⟨dx, Same.new hr2 _ _ bv⟩ upd_same
      · intro H2 d s2 nd hd
        refine ⟨true, T.bB, fun _ a ha => ?_, fun z => by cases z⟩
        refine ⟨_, rfl, rfl, rfl, d, _, p, rfl, hd, rfl, _, rfl, .ref CW, .ref CW, true, d, _, rfl, .own CW, T.bW, rfl, rfl, hd, by show 3 ≤ sizeLine; decide, fun r hr2 => ?_⟩
        exact q1 p f0 r _ (s2.trans (Same.new hr2)) upd_same
    · refine ⟨_, rfl, rfl, _, rfl, iteT ⟨rfl, _, rfl, v, rfl, kv, fun n e n1 n40 b H2 s2 hb bv => ⟨by show 2 ≤ sizeLine; decide, fun r hr2 => ?_⟩, fun f0 => ?_⟩⟩
      · exact q0 n e n1 n40 r b _ (s2.trans (Same.new hr2)) (bv.same (Same.new hr2)) upd_same
      · intro H2 d s2 nd hd
        refine ⟨true, T.bB, fun _ a ha => ?_, fun z => by cases z⟩
        refine ⟨_, rfl, rfl, rfl, d, _, .non, rfl, hd, rfl, _, rfl, .ref CW, .ref CW, true, d, _, rfl, .own CW, T.bW, rfl, rfl, hd, by show 3 ≤ sizeLine; decide, fun r hr2 => ?_⟩
        exact q1 f0 r _ (s2.trans (Same.new hr2)) upd_same
theorem ok_common18 {f fa BX CW CB CX CN : Addr} {fd fda : FuncData} {pa : List Str} (F : Fun K "_law_common" "_law_common" s_law_common f fd) (B : Blt mg) (T : RefB K mg CW CB CX CN) (OA : OwnM K BX "__and__" fa) (sf : PySem.W.selfFirst K BX = true) (FA : FnOk P w K mg base (L2.CX P w) 6 fa fda pa (spAnd BX CB)) (bA : Binds K fda pa []) : FnOk P w K mg base (L2.CX P w) 7 f fd ["one", "two"] (spComm BX) := by
  refine F.okX sc_law_common (fun vs H Q E h => ?_) (fun cdv A outer s H vs Q E hr h => ?_)
  · obtain ⟨x, y, lo, hi, lo2, hi2, rfl, _⟩ := h
    rfl
  · obtain ⟨x, y, lo, hi, lo2, hi2, rfl, r1, ok1, r2, ok2, q1, q0⟩ := h
    -- slots: 0 one, 1 two, 2 e
    refine ⟨_, pss_one (ps_try_as (i := 2) (c := .ref CB) rfl rfl sc_law_common.nd rfl rfl ⟨rfl, by decide, Or.inl T.gB⟩ (takes_of rfl rfl rfl rfl)
        (fun W pn xe tk _ => pss_one (ps_ret (pe_tup (pa_cons pe_int (pa_cons (pe_andO (W := W) OA sf FA bA (by exact hr) tk (pv 0) (pv 1)) pa_nil)))))
        (fun a oe cls d pn hz hf => pss_one (ps_ret (pe_tup (pa_cons pe_int (pa_cons (pe_xf T.bf T.pos hz hf (pv 2)) (pa_cons (pe_and (pe_callB (call_isX T.bc hz hf) (by rfl) B.isi bt_isi (pa_cons (pv 2) (pa_cons (pe_glob (v := .ref CW) (by rfl) T.gW rfl) pa_nil))) (pe_one (pe_callB (call_isX T.bc hz hf) (by rfl) B.isi bt_isi (pa_cons (pv 2) (pa_cons (pe_bltn (v := .ty "ValueError") (by rfl) B.verr bt_verr rfl) pa_nil))))) pa_nil))))))), ?_⟩
    obtain ⟨a1, b1, ⟨dx, hx⟩, ha1, hb1⟩ := id r1
    obtain ⟨a2, b2, ⟨dy, hy⟩, ha2, hb2⟩ := id r2
    refine ⟨_, rfl, _, rfl, x, y, dx, dy, _, _, rfl, rfl, hx, hy, x, y, lo, hi, lo2, hi2, rfl, r1, ok1, r2, ok2, fun ne => ?_, fun e z H2 s2 hz bz => ⟨by show 2 ≤ sizeLine; decide, fun r hr2 => ?_⟩⟩
    · intro H2 d s2 nd hd
      refine ⟨true, T.bB, fun _ a ha => ?_, fun z => by cases z⟩
      refine ⟨_, rfl, rfl, rfl, d, _, .non, rfl, hd, rfl, _, rfl, .ref CW, .ref CW, true, d, _, rfl, .own CW, T.bW, rfl, rfl, hd, _, rfl, iteT ⟨_, rfl, .ty "ValueError", .type "ValueError", true, d, _, rfl, .ty _, T.bV, rfl, rfl, hd, by show 3 ≤ sizeLine; decide, fun r hr2 => ?_⟩⟩
      exact q1 ne r _ (s2.trans (Same.new hr2)) upd_same
    · exact q0 e r z _ (s2.trans (Same.new hr2)) (bz.same (Same.new hr2)) upd_same
end
end WC

set_option maxHeartbeats 8000000
namespace WC
open PySem PySem.Spec PyProof.Rows L2
def lowU (way : Int) (one : V) : V := if way = 1 ∨ way = 3 then one else .int 0
def highU (way : Int) (two : V) : V := if way = 2 ∨ way = 3 then two else .int 999
def g1 (vs zs : List V) : List V := vs ++ (zs ++ [.int 999])
def g2 (vs zs : List V) : List V := vs ++ ([.int 0] ++ zs)
def g3 (vs zs : List V) : List V := vs ++ zs.reverse
def spCut (K : PySem.W.Frag) (BX : Addr) : Sp := fun vs H Q _ => ∃ x lo hi stage way one two, vs = [.ref x, stage, .int way, one, two] ∧ 0 ≤ way ∧ way < 4 ∧ BoxR H x BX lo hi ∧ BxOk lo hi ∧ Known K H stage ∧ Known K H one ∧ Known K H two ∧
  (btw stage 0 ((lo.length : Int) - 1) = false → ∀ r H2, Same H H2 → H2 r = some (.tup (tno 1 stage)) → Q (.ref r) H2) ∧
  (btw stage 0 ((lo.length : Int) - 1) = true → (gC (lowU way one) && gC (highU way two)) = false → ∀ r H2, Same H H2 → H2 r = some (.tup (tno 2 stage)) → Q (.ref r) H2) ∧
  ∀ (k : Nat) (l h : Int), stage = .int k → k < lo.length → lowU way one = .int l → highU way two = .int h → (0 ≤ l ∧ l ≤ 999) → (0 ≤ h ∧ h ≤ 999) → ∀ r y H2, Same H H2 → BoxR H2 y BX (cutL lo k l) (cutH hi k h) → H2 r = some (.tup (tok y)) → Q (.ref r) H2
section
variable {P : Program} {w : World} {K : PySem.W.Frag} {mg : Str → Option Value} {base : Heap}
theorem ok_cut18 {f BX CW CB CX CN : Addr} {fd : FuncData} (F : Fun K "_law_cut" "_law_cut" s_law_cut f fd) (B : Blt mg) (T : RefB K mg CW CB CX CN) (M0 : MetD P w K mg base BX "narrowed" 6 [.int 0, .int 999] (spNar K BX CB CN)) (M1 : MetK P w K mg base BX "narrowed" 6 2 ["low"] g1 (spNar K BX CB CN)) (M2 : MetK P w K mg base BX "narrowed" 6 2 ["high"] g2 (spNar K BX CB CN)) (M3 : MetK P w K mg base BX "narrowed" 6 2 ["high", "low"] g3 (spNar K BX CB CN)) :
    FnOk P w K mg base (L2.CX P w) 7 f fd ["box", "stage", "way", "one", "two"] (spCut K BX) := by
  refine F.okX sc_law_cut (fun vs H Q E h => ?_) (fun cdv A outer s H vs Q E hr h => ?_)
  · obtain ⟨x, lo, hi, stage, way, one, two, rfl, _⟩ := h
    rfl
  · obtain ⟨x, lo, hi, stage, way, one, two, rfl, w0, w3, bx, ok, ks, k1, k2, q1, q2, q3⟩ := h
    -- slots: 0 box, 1 stage, 2 way, 3 one, 4 two, 5 e
    refine ⟨_, pss_one (ps_try_asAll rfl rfl sc_law_cut.nd (takes_of rfl rfl rfl rfl)
        (fun W pn xe tk _ =>
          pss_cons (ps_if (pt_cmpR op_eq (pv 2) pe_int (nomark _)) (pss_one (ps_ret (pe_tup (pa_cons pe_int (pa_cons (pe_mtD (W := W) M0 (pv 0) (by exact hr) tk (pa_cons (pv 1) pa_nil)) pa_nil))))) pss_nil)
          (pss_cons (ps_if (pt_cmpR op_eq (pv 2) pe_int (nomark _)) (pss_one (ps_ret (pe_tup (pa_cons pe_int (pa_cons (pe_mtK (W := W) M1 (pv 0) (by exact hr) tk (pa_cons (pv 1) pa_nil) (pk_cons (pv 3) pk_nil)) pa_nil))))) pss_nil)
          (pss_cons (ps_if (pt_cmpR op_eq (pv 2) pe_int (nomark _)) (pss_one (ps_ret (pe_tup (pa_cons pe_int (pa_cons (pe_mtK (W := W) M2 (pv 0) (by exact hr) tk (pa_cons (pv 1) pa_nil) (pk_cons (pv 4) pk_nil)) pa_nil))))) pss_nil)
          (pss_one (ps_ret (pe_tup (pa_cons pe_int (pa_cons (pe_mtK (W := W) M3 (pv 0) (by exact hr) tk (pa_cons (pv 1) pa_nil) (pk_cons (pv 4) (pk_cons (pv 3) pk_nil))) pa_nil))))))))
        (.cons (i := 5) ⟨rfl, by decide, Or.inl T.gN⟩ rfl rfl (fun a oe cls d pn hz hf => pss_one (ps_ret (pe_tup (pa_cons pe_int (pa_cons (pe_xf T.nf T.num hz hf (pv 5)) (pa_cons (pe_and (pe_callB (call_isX T.nc hz hf) (by rfl) B.isi bt_isi (pa_cons (pv 5) (pa_cons (pe_bltn (v := .ty "ValueError") (by rfl) B.verr bt_verr rfl) pa_nil))) (pe_one (pe_callB (call_isX T.nc hz hf) (by rfl) B.isi bt_isi (pa_cons (pv 5) (pa_cons (pe_glob (v := .ref CW) (by rfl) T.gW rfl) pa_nil))))) pa_nil))))))
        (.cons (i := 5) ⟨rfl, by decide, Or.inl T.gB⟩ rfl rfl (fun a oe cls d pn hz hf => pss_one (ps_ret (pe_tup (pa_cons pe_int (pa_cons (pe_xf T.bf T.pos hz hf (pv 5)) (pa_cons (pe_and (pe_callB (call_isX T.bc hz hf) (by rfl) B.isi bt_isi (pa_cons (pv 5) (pa_cons (pe_bltn (v := .ty "ValueError") (by rfl) B.verr bt_verr rfl) pa_nil))) (pe_one (pe_callB (call_isX T.bc hz hf) (by rfl) B.isi bt_isi (pa_cons (pv 5) (pa_cons (pe_glob (v := .ref CW) (by rfl) T.gW rfl) pa_nil))))) pa_nil)))))) .nil))), ?_⟩
    obtain ⟨a1, b1, ⟨dx, hx⟩, ha1, hb1⟩ := id bx
    have ln : List.lookup ("narrowed" : Str) (flB (.ref a1) (.ref b1)) = none := by
      simp only [List.lookup, show (("narrowed" : Str) == "lows") = false by decide +kernel, show (("narrowed" : Str) == "highs") = false by decide +kernel]
    -- what the call asks, whatever is written of the keywords
    have nar : ∀ (E2 : XK) (R : VK), (∀ G (d : Addr), Same H G → H d = none → G d = some (.xd [("number", stage)]) → btw stage 0 ((lo.length : Int) - 1) = false → E2 (.ref CN) (some d) G) → (∀ G (d : Addr), Same H G → H d = none → G d = some (.xd [("position", stage)]) → btw stage 0 ((lo.length : Int) - 1) = true → (gC (lowU way one) && gC (highU way two)) = false → E2 (.ref CB) (some d) G) →
        (∀ y G, Same H G → ∀ (k : Nat) (l h : Int), stage = .int k → k < lo.length → lowU way one = .int l → highU way two = .int h → (0 ≤ l ∧ l ≤ 999) → (0 ≤ h ∧ h ≤ 999) → BoxR G y BX (cutL lo k l) (cutH hi k h) → R (.ref y) G) → spNar K BX CB CN [.ref x, stage, lowU way one, highU way two] H R E2 := fun E2 R e1 e2 e3 => by
      have kl : Known K H (lowU way one) := by unfold lowU; split; exact k1; trivial
      have kh : Known K H (highU way two) := by unfold highU; split; exact k2; trivial
      exact ⟨x, lo, hi, stage, _, _, rfl, bx, ok, ks, kl, kh, fun b G d s nd hd => e1 G d s nd hd b, fun b g G d s nd hd => e2 G d s nd hd b g, fun k l h a b c d e f y G s _ bb => e3 y G s k l h a b c d e f bb⟩
    have fin : ∀ y G, Same H G → (∀ (k : Nat) (l h : Int), stage = .int k → k < lo.length → lowU way one = .int l → highU way two = .int h → (0 ≤ l ∧ l ≤ 999) → (0 ≤ h ∧ h ≤ 999) → BoxR G y BX (cutL lo k l) (cutH hi k h) → 2 ≤ sizeLine ∧ ∀ r, G r = none → Q (.ref r) (upd G r (.tup [.int 0, .ref y]))) := fun y G s k l h a b c d e f bb => ⟨by decide, fun r hr2 => q3 k l h a b c d e f r y _ (s.trans (Same.new hr2)) (bb.same (Same.new hr2)) upd_same⟩
    have o3 : ∀ (G : Hp) (k : Int) (p : V), (∀ r H2, Same G H2 → H2 r = some (.tup (tno k p)) → Q (.ref r) H2) → 3 ≤ sizeLine ∧ ∀ r, G r = none → Q (.ref r) (upd G r (.tup [.int k, p, .bl true])) := fun G k p f => ⟨by decide, fun r hr2 => f r _ (Same.new hr2) upd_same⟩
    obtain rfl | rfl | rfl | rfl : way = 0 ∨ way = 1 ∨ way = 2 ∨ way = 3 := by omega
    · have e1 : lowU 0 one = .int 0 := by unfold lowU; simp
      have e2 : highU 0 two = .int 999 := by unfold highU; simp
      rw [e1, e2] at nar q2 q3 fin
      refine ⟨_, rfl, rfl, _, rfl, iteT ⟨_, rfl, x, dx, _, rfl, hx, ln, _, rfl, ?_⟩⟩
      refine nar _ (fun v G => [V.int 0, v].length ≤ sizeLine ∧ ∀ p, G p = none → Q (.ref p) (upd G p (.tup [.int 0, v]))) (fun G d s nd hd b => ⟨true, T.nN, fun _ a ha => ?_, fun z => by cases z⟩) (fun G d s nd hd b g => ⟨false, T.bN, (fun z => by cases z), fun _ => ⟨true, T.bB, fun _ a ha => ?_, fun z => by cases z⟩⟩) (fun y G s k l h a b c d e f bb => fin y G s k l h a b c d e f bb)
      · exact ⟨_, rfl, rfl, rfl, d, _, stage, rfl, hd, rfl, _, rfl, .ty "ValueError", .type "ValueError", true, d, _, rfl, .ty _, T.nV, rfl, rfl, hd, _, rfl, iteT ⟨_, rfl, .ref CW, .ref CW, true, d, _, rfl, .own CW, T.nW, rfl, rfl, hd, o3 G 1 stage fun r H2 s3 => q1 b r H2 (s.trans s3)⟩⟩
      · exact ⟨_, rfl, rfl, rfl, d, _, stage, rfl, hd, rfl, _, rfl, .ty "ValueError", .type "ValueError", true, d, _, rfl, .ty _, T.bV, rfl, rfl, hd, _, rfl, iteT ⟨_, rfl, .ref CW, .ref CW, true, d, _, rfl, .own CW, T.bW, rfl, rfl, hd, o3 G 2 stage fun r H2 s3 => q2 b g r H2 (s.trans s3)⟩⟩
    · have e1 : lowU 1 one = one := by unfold lowU; simp
      have e2 : highU 1 two = .int 999 := by unfold highU; simp
      rw [e1, e2] at nar q2 q3 fin
      refine ⟨_, rfl, rfl, _, rfl, iteF ⟨_, rfl, rfl, _, rfl, iteT ⟨_, rfl, x, dx, _, rfl, hx, ln, _, rfl, _, rfl, rfl, rfl, ?_⟩⟩⟩
      refine nar _ (fun v G => [V.int 0, v].length ≤ sizeLine ∧ ∀ p, G p = none → Q (.ref p) (upd G p (.tup [.int 0, v]))) (fun G d s nd hd b => ⟨true, T.nN, fun _ a ha => ?_, fun z => by cases z⟩) (fun G d s nd hd b g => ⟨false, T.bN, (fun z => by cases z), fun _ => ⟨true, T.bB, fun _ a ha => ?_, fun z => by cases z⟩⟩) (fun y G s k l h a b c d e f bb => fin y G s k l h a b c d e f bb)
      · exact ⟨_, rfl, rfl, rfl, d, _, stage, rfl, hd, rfl, _, rfl, .ty "ValueError", .type "ValueError", true, d, _, rfl, .ty _, T.nV, rfl, rfl, hd, _, rfl, iteT ⟨_, rfl, .ref CW, .ref CW, true, d, _, rfl, .own CW, T.nW, rfl, rfl, hd, o3 G 1 stage fun r H2 s3 => q1 b r H2 (s.trans s3)⟩⟩
      · exact ⟨_, rfl, rfl, rfl, d, _, stage, rfl, hd, rfl, _, rfl, .ty "ValueError", .type "ValueError", true, d, _, rfl, .ty _, T.bV, rfl, rfl, hd, _, rfl, iteT ⟨_, rfl, .ref CW, .ref CW, true, d, _, rfl, .own CW, T.bW, rfl, rfl, hd, o3 G 2 stage fun r H2 s3 => q2 b g r H2 (s.trans s3)⟩⟩
    · have e1 : lowU 2 one = .int 0 := by unfold lowU; simp
      have e2 : highU 2 two = two := by unfold highU; simp
      rw [e1, e2] at nar q2 q3 fin
      refine ⟨_, rfl, rfl, _, rfl, iteF ⟨_, rfl, rfl, _, rfl, iteF ⟨_, rfl, rfl, _, rfl, iteT ⟨_, rfl, x, dx, _, rfl, hx, ln, _, rfl, _, rfl, rfl, rfl, ?_⟩⟩⟩⟩
      refine nar _ (fun v G => [V.int 0, v].length ≤ sizeLine ∧ ∀ p, G p = none → Q (.ref p) (upd G p (.tup [.int 0, v]))) (fun G d s nd hd b => ⟨true, T.nN, fun _ a ha => ?_, fun z => by cases z⟩) (fun G d s nd hd b g => ⟨false, T.bN, (fun z => by cases z), fun _ => ⟨true, T.bB, fun _ a ha => ?_, fun z => by cases z⟩⟩) (fun y G s k l h a b c d e f bb => fin y G s k l h a b c d e f bb)
      · exact ⟨_, rfl, rfl, rfl, d, _, stage, rfl, hd, rfl, _, rfl, .ty "ValueError", .type "ValueError", true, d, _, rfl, .ty _, T.nV, rfl, rfl, hd, _, rfl, iteT ⟨_, rfl, .ref CW, .ref CW, true, d, _, rfl, .own CW, T.nW, rfl, rfl, hd, o3 G 1 stage fun r H2 s3 => q1 b r H2 (s.trans s3)⟩⟩
      · exact ⟨_, rfl, rfl, rfl, d, _, stage, rfl, hd, rfl, _, rfl, .ty "ValueError", .type "ValueError", true, d, _, rfl, .ty _, T.bV, rfl, rfl, hd, _, rfl, iteT ⟨_, rfl, .ref CW, .ref CW, true, d, _, rfl, .own CW, T.bW, rfl, rfl, hd, o3 G 2 stage fun r H2 s3 => q2 b g r H2 (s.trans s3)⟩⟩
    · have e1 : lowU 3 one = one := by unfold lowU; simp
      have e2 : highU 3 two = two := by unfold highU; simp
      rw [e1, e2] at nar q2 q3 fin
      refine ⟨_, rfl, rfl, _, rfl, iteF ⟨_, rfl, rfl, _, rfl, iteF ⟨_, rfl, rfl, _, rfl, iteF ⟨_, rfl, x, dx, _, rfl, hx, ln, _, rfl, _, rfl, _, rfl, rfl, rfl, ?_⟩⟩⟩⟩
      refine nar _ (fun v G => [V.int 0, v].length ≤ sizeLine ∧ ∀ p, G p = none → Q (.ref p) (upd G p (.tup [.int 0, v]))) (fun G d s nd hd b => ⟨true, T.nN, fun _ a ha => ?_, fun z => by cases z⟩) (fun G d s nd hd b g => ⟨false, T.bN, (fun z => by cases z), fun _ => ⟨true, T.bB, fun _ a ha => ?_, fun z => by cases z⟩⟩) (fun y G s k l h a b c d e f bb => fin y G s k l h a b c d e f bb)
      · exact ⟨_, rfl, rfl, rfl, d, _, stage, rfl, hd, rfl, _, rfl, .ty "ValueError", .type "ValueError", true, d, _, rfl, .ty _, T.nV, rfl, rfl, hd, _, rfl, iteT ⟨_, rfl, .ref CW, .ref CW, true, d, _, rfl, .own CW, T.nW, rfl, rfl, hd, o3 G 1 stage fun r H2 s3 => q1 b r H2 (s.trans s3)⟩⟩
      · exact ⟨_, rfl, rfl, rfl, d, _, stage, rfl, hd, rfl, _, rfl, .ty "ValueError", .type "ValueError", true, d, _, rfl, .ty _, T.bV, rfl, rfl, hd, _, rfl, iteT ⟨_, rfl, .ref CW, .ref CW, true, d, _, rfl, .own CW, T.bW, rfl, rfl, hd, o3 G 2 stage fun r H2 s3 => q2 b g r H2 (s.trans s3)⟩⟩
end
end WC

set_option maxHeartbeats 8000000
namespace WC
open PySem PySem.Spec PyProof.Rows L2
/-- a tuple or a list of these ints -/
def SeqI (H : Hp) (u : V) (lo : List Int) : Prop := ∃ a, u = .ref a ∧ (H a = some (.tup (lo.map V.int)) ∨ H a = some (.lst (lo.map V.int)))
theorem SeqI.same {H H2 : Hp} {u : V} {lo : List Int} (h : SeqI H u lo) (s : Same H H2) : SeqI H2 u lo := by
  obtain ⟨a, e, h | h⟩ := h
  · exact ⟨a, e, .inl (s _ _ h)⟩
  · exact ⟨a, e, .inr (s _ _ h)⟩
theorem eq_ints {H : Hp} {a b : Addr} {lo : List Int} {d : Nat} (h1 : H a = some (.tup (lo.map V.int))) (h2 : H b = some (.tup (lo.map V.int))) (hl : lo.length ≤ 1000) : EqT H (d + 1) (.ref a) (.ref b) := .tup h1 h2 rfl (by rw [List.length_map]; exact hl) fun i x y e1 e2 => by
  rw [e1] at e2
  cases e2
  obtain ⟨c, _, rfl⟩ := mapI e1
  exact .int c
theorem leaf_up {H H2 : Hp} {p q : V} (h : EqT H 0 p q) (d : Nat) : EqT H2 d p q := by
  cases h with
  | non => exact .non
  | bl b => exact .bl b
  | int i => exact .int i
  | str z => exact .str z
def spHas (BX : Addr) : Sp := fun vs H Q _ => ∃ x u v lo hi, vs = [.ref x, u, v] ∧ BoxR H x BX lo hi ∧ SeqI H u lo ∧ SeqI H v hi ∧ BxOk lo hi ∧ ∀ H2, Same H H2 → Q (.bl true) H2
def spDue (BX : Addr) : Sp := fun vs H Q _ => ∃ t f u v, vs = [.ref t, .ref f, u, v] ∧ (∀ H2, Same H H2 → Q (.bl true) H2) ∧ ((∃ p, H f = some (.tup [p]) ∧ H t = some (.tup (tno 1 p)) ∧ EqT H 0 p p) ∨ (∃ x lo hi, H f = some (.tup []) ∧ H t = some (.tup (tok x)) ∧ BoxR H x BX lo hi ∧ SeqI H u lo ∧ SeqI H v hi ∧ BxOk lo hi))
def spIns (K : PySem.W.Frag) : Sp := fun vs H Q _ => ∃ v o p q lo hi, vs = [v, .ref p, .ref q] ∧ PrA K H o v ∧ H p = some (.lst (lo.map V.int)) ∧ H q = some (.lst (hi.map V.int)) ∧ BxOk lo hi ∧ Q (.bl (inO o lo hi)) H
theorem tno_eq {H : Hp} {t u : Addr} {k : Int} {p q : V} {d : Nat} (h1 : H t = some (.tup (tno k p))) (h2 : H u = some (.tup (tno k q))) (e : EqT H 0 p q) : EqT H (d + 1) (.ref t) (.ref u) := .tup h1 h2 rfl (by show 3 ≤ 1000; decide) fun i x y e1 e2 => by
  match i, e1, e2 with
  | 0, e1, e2 => cases e1; cases e2; exact .int k
  | 1, e1, e2 => cases e1; cases e2; exact leaf_up e d
  | 2, e1, e2 => cases e1; cases e2; exact .bl true
  | i + 3, e1, _ => simp [tno] at e1
section
variable {P : Program} {w : World} {K : PySem.W.Frag} {mg : Str → Option Value} {base : Heap}
theorem ok_has18 {f BX : Addr} {fd : FuncData} (F : Fun K "_law_has" "_law_has" s_law_has f fd) (B : Blt mg) (ZB : BoxK K mg BX) (TB : BoxC K BX) (TI : BoxI K BX) (g_law_same : DefR P w K mg base "_law_same" 4 (spSm 2)) : FnOk P w K mg base (L2.CX P w) 5 f fd ["box", "bottoms", "roofs"] (spHas BX) := by
  refine F.okX sc_law_has (fun vs H Q E h => ?_) (fun cdv A outer s H vs Q E hr h => ?_)
  · obtain ⟨x, u, v, lo, hi, rfl, _⟩ := h
    rfl
  · obtain ⟨x, u, v, lo, hi, rfl, ⟨a, b, bv, ha, hb⟩, hu, hv, ok, q⟩ := h
    refine ⟨_, (pss_cons (ps_if (pt_not (pt_val (pe_callB call_isi (by rfl) B.isi bt_isi (pa_cons (pv 0) (pa_cons (pe_glob (v := .ref BX) (by rfl) ZB.gB rfl) pa_nil))))) (pss_one (ps_ret pe_bl)) pss_nil)
      (pss_one (ps_ret (pe_and (pe_cd g_law_same hr psE (pa_cons (pe_fld (pv 0) rfl) (pa_cons (pe_callTy (T := "tuple") (c_tup (K := K)) (by rfl) B.tuple bt_tuple (pa_cons (pv 1) pa_nil)) pa_nil))) (pe_one (pe_cd g_law_same hr psE (pa_cons (pe_fld (pv 0) rfl) (pa_cons (pe_callTy (T := "tuple") (c_tup (K := K)) (by rfl) B.tuple bt_tuple (pa_cons (pv 2) pa_nil)) pa_nil)))))))), ?_⟩
    have ty := TI.own TB.cl bv
    obtain ⟨dx, hx⟩ := bv
    have n1 := ok.n40
    have n2 := ok.m40
    refine ⟨_, rfl, _, _, _, _, _, rfl, .own _, ty, TI.is, _, rfl, iteF ?_⟩
    -- tuple(u)
    have tp : ∀ (G : Hp) (u : V) (lo : List Int) (R : VK), SeqI G u lo → (∀ p G2, Same G G2 → G2 p = some (.tup (lo.map V.int)) → R (.ref p) G2) → rTupOf K [u] G R := fun G u lo R hu k => by
      obtain ⟨a, rfl, h | h⟩ := hu
      · exact ⟨a, _, rfl, .inr ⟨SqT.of h, k a G (Same.refl G) h⟩⟩
      · exact ⟨a, _, rfl, .inl ⟨SqL.of h, fun p hp => k p _ (Same.new hp) upd_same⟩⟩
    refine ⟨_, rfl, x, BX, dx, _, _, rfl, hx, TB.cl, TB.nL, lk_lo, _, rfl, ?_⟩
    dsimp only [tNil]
    refine tp H u lo _ hu fun p G s2 hp => ?_
    refine ⟨_, _, rfl, eq_ints (s2 _ _ ha) hp (by omega), fun H3 s3 => ⟨_, rfl, iteT ?_⟩⟩
    refine ⟨_, rfl, x, BX, dx, _, _, rfl, s3 _ _ (s2 _ _ hx), TB.cl, TB.nH, lk_hi, _, rfl, ?_⟩
    dsimp only [tNil]
    refine tp H3 v hi _ (hv.same (s2.trans s3)) fun p2 G2 s4 hp2 => ?_
    exact ⟨_, _, rfl, eq_ints (s4 _ _ (s3 _ _ (s2 _ _ hb))) hp2 (by omega), fun H5 s5 => q H5 (s2.trans (s3.trans (s4.trans s5)))⟩
theorem ok_due18 {f BX : Addr} {fd : FuncData} (F : Fun K "_law_due" "_law_due" s_law_due f fd) (B : Blt mg) (g_law_same : DefR P w K mg base "_law_same" 4 (spSm 2)) (g_law_has : DefR P w K mg base "_law_has" 5 (spHas BX)) : FnOk P w K mg base (L2.CX P w) 6 f fd ["told", "fault", "bottoms", "roofs"] (spDue BX) := by
  refine F.okX sc_law_due (fun vs H Q E h => ?_) (fun cdv A outer s H vs Q E hr h => ?_)
  · obtain ⟨t, f, u, v, rfl, _⟩ := h
    rfl
  · obtain ⟨t, f, u, v, rfl, q, h⟩ := h
    refine ⟨_, (pss_cons (ps_if (pt_cmpR op_eq (pe_callB call_len_seq (by rfl) B.len bt_len (pa_cons (pv 1) pa_nil)) pe_int (nomark _)) (pss_one (ps_ret (pe_cd g_law_same hr psE (pa_cons (pv 0) (pa_cons (pe_tup (pa_cons pe_int (pa_cons (pe_ix ix_tup (pv 1) pe_int (fun _ _ => rfl)) (pa_cons pe_bl pa_nil)))) pa_nil))))) pss_nil)
      (pss_one (ps_ret (pe_and (pe_cmpR op_eq (pe_ix ix_tup (pv 0) pe_int (fun _ _ => rfl)) pe_int (nomark _)) (pe_one (pe_cd g_law_has hr psE (pa_cons (pe_ix ix_tup (pv 0) pe_int (fun _ _ => rfl)) (pa_cons (pv 2) (pa_cons (pv 3) pa_nil))))))))), ?_⟩
    rcases h with ⟨p, hf, ht, lf⟩ | ⟨x, lo, hi, hf, ht, bx, hu, hv, ok⟩
    · refine ⟨_, rfl, f, _, rfl, .inr (SqT.of hf), rfl, _, rfl, iteT ?_⟩
      refine ⟨_, rfl, _, rfl, f, _, _, _, rfl, rfl, SqT.of hf, atI_nat (j := 0) rfl, by show 3 ≤ sizeLine; decide, fun r hr2 => ?_⟩
      have s2 : Same H (upd H r (.tup [.int 1, p, .bl true])) := Same.new hr2
      exact ⟨_, _, rfl, tno_eq (d := 1) (s2 _ _ ht) upd_same (leaf_up lf 0), fun H3 s3 => q H3 (s2.trans s3)⟩
    · refine ⟨_, rfl, f, _, rfl, .inr (SqT.of hf), rfl, _, rfl, iteF ?_⟩
      refine ⟨_, rfl, t, _, _, _, rfl, rfl, SqT.of ht, atI_nat (j := 0) rfl, rfl, _, rfl, iteT ?_⟩
      exact ⟨_, rfl, t, _, _, _, rfl, rfl, SqT.of ht, atI_nat (j := 1) rfl, _, rfl, _, rfl, x, u, v, lo, hi, rfl, bx, hu, hv, ok, q⟩
theorem ok_inside18 {f : Addr} {fd : FuncData} (F : Fun K "_law_inside" "_law_inside" s_law_inside f fd) (B : Blt mg) (g_law_good : DefR P w K mg base "_law_good" 2 (spGd K)) : FnOk P w K mg base (L2.CX P w) 3 f fd ["probe", "bottoms", "roofs"] (spIns K) := by
  refine F.okX sc_law_inside (fun vs H Q E h => ?_) (fun cdv A outer s H vs Q E hr h => ?_)
  · obtain ⟨v, o, p, q, lo, hi, rfl, _⟩ := h
    rfl
  · obtain ⟨v, o, p, q, lo, hi, rfl, pr, hp, hq, ok, k⟩ := h
    refine ⟨_, (pss_cons (ps_if (PW.pt (pw_or (pt_not (pt_val (pe_callB call_isi (by rfl) B.isi bt_isi (pa_cons (pv 0) (pa_cons (pe_bltn (v := .ty "tuple") (by rfl) B.tuple bt_tuple rfl) pa_nil))))) (pw_or1 (pt_cmpR op_ne (pe_callB call_len_seq (by rfl) B.len bt_len (pa_cons (pv 0) pa_nil)) (pe_callB call_len_seq (by rfl) B.len bt_len (pa_cons (pv 1) pa_nil)) (nomark _))))) (pss_one (ps_ret pe_bl)) pss_nil)
      (pss_cons (ps_for (passes_of rfl) rfl (pi_range1 (by rfl) B.range (pa_cons (pe_callB call_len_seq (by rfl) B.len bt_len (pa_cons (pv 0) pa_nil)) pa_nil)) (pg_name (i := 3) sc_law_inside.nd rfl (Or.inl rfl))
        (pss_one (ps_if (PW.pt (pw_or (pt_not (pt_val (pe_cd g_law_good hr psE (pa_cons (pe_ix ix_tup (pv 0) (pv 3) (fun _ _ => rfl)) pa_nil)))) (pw_or (pt_cmpR op_lt (pe_ix ix_tup (pv 0) (pv 3) (fun _ _ => rfl)) (pe_ix ix_list (pv 1) (pv 3) (fun _ _ => rfl)) (nomark _)) (pw_or1 (pt_cmpR op_gt (pe_ix ix_tup (pv 0) (pv 3) (fun _ _ => rfl)) (pe_ix ix_list (pv 2) (pv 3) (fun _ _ => rfl)) (nomark _)))))) (pss_one (ps_ret pe_bl)) pss_nil)))
      (pss_one (ps_ret pe_bl)))), ?_⟩
    have tu : IsTu K H v o.isSome := by
      cases o with
      | none => exact pr
      | some xs =>
        obtain ⟨⟨t, rfl, ht⟩, _⟩ := pr
        exact tup_tu ht
    obtain ⟨T, ty, kt⟩ := tu
    refine ⟨_, rfl, _, _, _, _, _, rfl, .ty _, ty, kt, _, rfl, ?_⟩
    cases o with
    | none => exact iteT (iteT k)
    | some xs =>
      obtain ⟨⟨t, rfl, ht⟩, hl, kx⟩ := pr
      refine iteF ⟨_, rfl, t, _, rfl, .inr (SqT.of ht), _, rfl, p, _, rfl, .inl (SqL.of hp), rfl, _, rfl, ?_⟩
      by_cases el : xs.length = lo.length
      · rw [show (!decide (V.int (xs.length : Nat) = V.int ((lo.map V.int).length : Nat))) = false by simp [el]]
        have le := ok.len
        have ino : inO (some xs) lo hi = (bsI xs lo hi).all id := by
          show (decide (xs.length = lo.length) && _) = _
          rw [decide_eq_true el, Bool.true_and]
        rw [ino] at k
        refine iteF ⟨_, rfl, t, _, rfl, .inr (SqT.of ht), _, rfl, by omega, by omega, ?_⟩
        refine for_range (lo := 0) (n := xs.length) (fun i σ H2 => ∃ v3, σ = [some (.ref t), some (.ref p), some (.ref q), v3] ∧ H2 = H ∧ ∀ (j : Nat) (b : Bool), j < i → (bsI xs lo hi)[j]? = some b → b = true) ⟨_, rfl, rfl, fun j b z => absurd z (Nat.not_lt_zero j)⟩ ?_ ?_
        · rintro i σ H2 hi2 ⟨v3, rfl, rfl, al⟩
          have hu : xs[i]? = some xs[i] := List.getElem?_eq_getElem hi2
          have hlo : lo[i]? = some (lo[i]'(by omega)) := List.getElem?_eq_getElem (by omega)
          have hhi : hi[i]? = some (hi[i]'(by omega)) := List.getElem?_eq_getElem (by omega)
          generalize xs[i] = u at hu
          generalize lo[i]'(by omega) = l at hlo
          generalize hi[i]'(by omega) = h at hhi
          have au : atI xs ((0 : Int) + i) = some u := by rw [Int.zero_add]; exact atI_nat hu
          have alo : atI (lo.map V.int) ((0 : Int) + i) = some (.int l) := by rw [Int.zero_add]; exact atI_nat (by rw [List.getElem?_map, hlo]; rfl)
          have ahi : atI (hi.map V.int) ((0 : Int) + i) = some (.int h) := by rw [Int.zero_add]; exact atI_nat (by rw [List.getElem?_map, hhi]; rfl)
          have ku := kx u (List.mem_of_getElem? hu)
          have hb := bsI_at hu hlo hhi
          have l0 := ok.lo0 l (List.mem_of_getElem? hlo)
          have h0 := ok.hi0 h (List.mem_of_getElem? hhi)
          have out : btw u l h = false → Q (.bl false) H2 := fun e => by
            have : (bsI xs lo hi).all id = false := by
              rw [List.all_eq_false]
              exact ⟨_, List.mem_of_getElem? hb, by rw [e]; decide⟩
            rw [this] at k
            exact k
          refine ⟨_, rfl, _, rfl, t, _, _, _, rfl, rfl, SqT.of ht, au, u, rfl, ku, _, rfl, ?_⟩
          cases gu : gC u with
          | false =>
            refine iteT (iteT (out ?_))
            cases u with
            | int c =>
              rw [gC_int] at gu
              show (decide (l ≤ c) && decide (c ≤ h)) = false
              rw [Bool.and_eq_false_iff] at gu ⊢
              rcases gu with z | z
              · exact .inl (decide_eq_false fun y => absurd z (by rw [decide_eq_true (by omega)]; decide))
              · exact .inr (decide_eq_false fun y => absurd z (by rw [decide_eq_true (by omega)]; decide))
            | bl b => rfl
            | non => rfl
            | str z => rfl
            | ref a => rfl
            | byt b => rfl
            | flt b => rfl
            | ty n => rfl
          | true =>
            obtain ⟨c, rfl, c0, c1⟩ := gC_is gu
            refine iteF ⟨_, rfl, _, rfl, t, _, _, _, rfl, rfl, SqT.of ht, au, _, rfl, _, rfl, p, _, _, _, rfl, rfl, SqL.of hp, alo, _, _, rfl, rfl, _, rfl, ite2 (fun e => ?_) (fun e => ?_)⟩
            · refine iteT (out ?_)
              have e := of_decide_eq_true e
              show (decide (l ≤ c) && decide (c ≤ h)) = false
              rw [decide_eq_false (by omega), Bool.false_and]
            · have e : ¬ c < l := fun z => e (decide_eq_true z)
              refine ⟨_, rfl, _, rfl, t, _, _, _, rfl, rfl, SqT.of ht, au, _, rfl, _, rfl, q, _, _, _, rfl, rfl, SqL.of hq, ahi, _, _, rfl, rfl, _, rfl, ite2 (fun e2 => ?_) (fun e2 => ?_)⟩
              · refine out ?_
                have e2 := of_decide_eq_true e2
                show (decide (l ≤ c) && decide (c ≤ h)) = false
                rw [decide_eq_false (show ¬ c ≤ h by omega), Bool.and_false]
              · have e2 : ¬ h < c := fun z => e2 (decide_eq_true z)
                refine ⟨_, rfl, rfl, fun j b hj eb => ?_⟩
                rcases Nat.lt_succ_iff_lt_or_eq.mp hj with z | z
                · exact al j b z eb
                · subst z
                  rw [hb] at eb
                  cases eb
                  show (decide (l ≤ c) && decide (c ≤ h)) = true
                  rw [decide_eq_true (by omega), decide_eq_true (by omega)]
                  rfl
        · rintro σ H2 ⟨v3, rfl, rfl, al⟩
          have : (bsI xs lo hi).all id = true := by
            rw [List.all_eq_true]
            intro b hb
            obtain ⟨j, ej⟩ := List.mem_iff_getElem?.mp hb
            refine al j b ?_ ej
            have := (List.getElem?_eq_some_iff.mp ej).1
            unfold bsI at this
            rw [List.length_map, List.length_zip] at this
            omega
          rw [this] at k
          exact k
      · rw [show (!decide (V.int (xs.length : Nat) = V.int ((lo.map V.int).length : Nat))) = true by simp; omega]
        refine iteT ?_
        have e3 : inO (some xs) lo hi = false := by
          show (decide (xs.length = lo.length) && _) = _
          rw [decide_eq_false el, Bool.false_and]
        rw [e3] at k
        exact k
end
end WC

set_option maxHeartbeats 8000000
namespace WC
open PySem PySem.Spec PyProof.Rows L2
def spMk : Sp := fun vs H Q _ => ∃ b, ∃ n : Nat, vs = [.ref b, .int n] ∧ Bg H b ∧ 1 ≤ n ∧ n ≤ 40 ∧ ∀ H2, Nx b H H2 → Q (.bl true) H2
theorem rep_flat (m : Nat) (c : Int) : (List.replicate (m : Int).toNat [V.int c]).flatten = (List.replicate m c).map V.int := by
  rw [Int.toNat_natCast]
  induction m with
  | zero => rfl
  | succ m ih => rw [List.replicate_succ, List.flatten_cons, ih, List.replicate_succ]; rfl
/-- leaves -/
def leafV : V → Bool
  | .non => true
  | .bl _ => true
  | .int _ => true
  | .str _ => true
  | _ => false
theorem leaf_eq {H : Hp} {v : V} (h : leafV v = true) : EqT H 0 v v := by
  cases v with
  | int i => exact .int i
  | bl b => exact .bl b
  | non => exact .non
  | str z => exact .str z
  | ref a => cases h
  | byt b => cases h
  | flt b => cases h
  | ty n => cases h
theorem leaf_known {K : PySem.W.Frag} {H : Hp} {v : V} (h : leafV v = true) : Known K H v := by
  cases v with
  | int i => trivial
  | bl b => trivial
  | non => trivial
  | str z => trivial
  | ref a => cases h
  | byt b => cases h
  | flt b => cases h
  | ty n => cases h
theorem fault_leaf {o1 o2 : Option (List V)} {p : V} (h : faultO o1 o2 = some p) : leafV p = true := by
  cases o1 with
  | none => cases h; rfl
  | some xs =>
    cases o2 with
    | none => cases h; rfl
    | some ys =>
      simp only [faultO] at h
      split at h
      · cases e : badAt xs ys with
        | none => rw [e] at h; cases h
        | some k => rw [e] at h; cases h; rfl
      · cases h; rfl
theorem Bg.neT {H : Hp} {b t : Addr} {xs : List V} (h : Bg H b) (e : H t = some (.tup xs)) : t ≠ b := by
  obtain ⟨us, eb⟩ := h.lst
  exact ne_of e eb (by intro z; cases z)
theorem BoxR.onB {H H2 : Hp} {x BX b : Addr} {lo hi : List Int} (h : BoxR H x BX lo hi) (hb : Bg H b) (n : Nx b H H2) : BoxR H2 x BX lo hi := by
  obtain ⟨a, c, ⟨dx, e⟩, f, g⟩ := h
  obtain ⟨us, eb⟩ := hb.lst
  exact ⟨a, c, ⟨dx, n.1 _ _ e (ne_of e eb (by intro z; cases z))⟩, n.1 _ _ f (ne_of f eb (by intro z; cases z)), n.1 _ _ g (ne_of g eb (by intro z; cases z))⟩
section
variable {P : Program} {w : World} {K : PySem.W.Frag} {mg : Str → Option Value} {base : Heap}
theorem ok_makers18 {f BX : Addr} {fd : FuncData} (F : Fun K "_law_makers" "_law_makers" s_law_makers f fd) (B : Blt mg) (g_law_take : DefR P w K mg base "_law_take" 1 spTk) (g_law_counter : DefR P w K mg base "_law_counter" 2 spCtr) (g_law_spoilt : DefR P w K mg base "_law_spoilt" 3 (spSpo K)) (g_law_whole : DefR P w K mg base "_law_whole" 1 (spWh K))
    (g_law_due : DefR P w K mg base "_law_due" 6 (spDue BX)) (g_law_made : DefR P w K mg base "_law_made" 7 (spMade K BX)) (g_law_fault : DefR P w K mg base "_law_fault" 3 (spFlt K)) : FnOk P w K mg base (L2.CX P w) 8 f fd ["bag", "many"] spMk := by
  refine F.okX sc_law_makers (fun vs H Q E h => ?_) (fun cdv A outer s H vs Q E hr h => ?_)
  · obtain ⟨b, n, rfl, _⟩ := h
    rfl
  · obtain ⟨b, n, rfl, hb, n1, n40, q⟩ := h
    -- slots: 0 bag*, 1 many, 2 state, 3 k, 4 size, 5 fault, 6 rows
    refine ⟨_, (pss_cons (ps_set (i := 2) sc_law_makers.nd rfl (Or.inl rfl) (pe_callTy (T := "tuple") (c_tup (K := K)) (by rfl) B.tuple bt_tuple (pa_cons (pe_lc (own := [("k", 3)]) rfl sc_law_makers.nd (pi_range1 (by rfl) B.range (pa_cons (pv 1) pa_nil)) (blkOk_by (N := nn_law_makers) (sc := defScope s_law_makers) (own := [("k", 3)]) (by decide +kernel)) (fun _ _ _ _ _ => (pg_name (i := 3) sc_law_makers.nd rfl (Or.inl rfl))) (fun _ _ _ _ _ => pts_nil) (fun _ _ _ _ _ => (pe_cd g_law_counter (by exact hr) passL (pa_cons (pv 0) pa_nil)))) pa_nil)))
      (pss_cons (ps_if (pt_cmpR op_eq (pe_cd g_law_take hr psE (pa_cons (pv 0) (pa_cons pe_int pa_nil))) pe_int (nomark _)) (pss_one (ps_set (i := 2) sc_law_makers.nd rfl (Or.inl rfl) (pe_cd g_law_spoilt hr psE (pa_cons (pv 0) (pa_cons (pe_callTy (T := "list") call_list_of (by rfl) B.list bt_list (pa_cons (pv 2) pa_nil)) pa_nil))))) pss_nil)
      (pss_cons (ps_if (pt_not (pt_val (pe_cd g_law_due hr psE (pa_cons (pe_cd g_law_made hr psE (pa_cons pe_int (pa_cons (pv 2) pa_nil))) (pa_cons (pe_cd g_law_fault hr psE (pa_cons (pv 2) (pa_cons (pv 2) pa_nil))) (pa_cons (pv 2) (pa_cons (pv 2) pa_nil))))))) (pss_one (ps_ret pe_bl)) pss_nil)
      (pss_cons (ps_for (passes_of rfl) rfl (pi_tup (pe_tup (pa_cons (pv 1) (pa_cons (pe_ix ix_list (pe_lst (pa_cons pe_int (pa_cons pe_int (pa_cons (pe_un un_neg pe_int) (pa_cons pe_bl (pa_cons pe_non (pa_cons pe_str (pa_cons (pe_op op_pow pe_int pe_int) (pa_cons pe_int (pa_cons pe_int pa_nil)))))))))) (pe_cd g_law_take hr psE (pa_cons (pv 0) (pa_cons pe_int pa_nil))) (fun _ _ => rfl)) pa_nil)))) (pg_name (i := 4) sc_law_makers.nd rfl (Or.inl rfl))
        (pss_cons (ps_set (i := 5) sc_law_makers.nd rfl (Or.inl rfl) (pe_tup (pa_cons pe_non pa_nil)))
      (pss_cons (ps_set (i := 6) sc_law_makers.nd rfl (Or.inl rfl) (pe_lst (pa_cons (pe_tup pa_nil) (pa_cons (pe_tup pa_nil) pa_nil))))
      (pss_cons (ps_if (PW.pt (pw_and (pt_val (pe_cd g_law_whole hr psE (pa_cons (pv 4) pa_nil))) (pw_and (pt_cmpR op_le pe_int (pv 4) (nomark _)) (pw_and1 (pt_cmpR op_le (pv 4) pe_int (nomark _)))))) (pss_cons (ps_set (i := 5) sc_law_makers.nd rfl (Or.inl rfl) (pe_tup pa_nil))
      (pss_one (ps_set (i := 6) sc_law_makers.nd rfl (Or.inl rfl) (pe_lst (pa_cons (pe_callTy (T := "tuple") (c_tup (K := K)) (by rfl) B.tuple bt_tuple (pa_cons (pe_op op_rep (pe_lst (pa_cons pe_int pa_nil)) (pv 4)) pa_nil)) (pa_cons (pe_callTy (T := "tuple") (c_tup (K := K)) (by rfl) B.tuple bt_tuple (pa_cons (pe_op op_rep (pe_lst (pa_cons pe_int pa_nil)) (pv 4)) pa_nil)) pa_nil)))))) pss_nil)
      (pss_one (ps_if (pt_not (pt_val (pe_cd g_law_due hr psE (pa_cons (pe_cd g_law_made hr psE (pa_cons pe_int (pa_cons (pv 4) pa_nil))) (pa_cons (pv 5) (pa_cons (pe_ix ix_list (pv 6) pe_int (fun _ _ => rfl)) (pa_cons (pe_ix ix_list (pv 6) pe_int (fun _ _ => rfl)) pa_nil))))))) (pss_one (ps_ret pe_bl)) pss_nil))))))
      (pss_one (ps_ret pe_bl)))))), ?_⟩
    refine ⟨_, rfl, (n : Int), rfl, by omega, by omega, fun R hR => ?_⟩
    refine lc_range (lo := 0) (n := n) (fun i H5 => ∃ zs : List Int, Nx b H H5 ∧ H5 R = some (.lst (zs.map V.int)) ∧ zs.length = i) ⟨[], (Nx.refl b H).put hR, upd_same, rfl⟩ ?_ ?_
    · rintro i H5 hi ⟨zs, x5, hd, hz⟩
      refine ⟨rfl, yes ⟨_, rfl, b, rfl, x5.bg hb, fun c H6 c0 c1 x6 => ?_⟩⟩
      have Rb := hb.ne hR
      refine ⟨_, x6.1 _ _ hd Rb, by rw [List.length_map, hz]; exact line_lt (by omega), zs ++ [c], (x5.trans x6).put hR, ?_, by rw [List.length_append, hz]; rfl⟩
      rw [upd_same, List.map_append]
      rfl
    · rintro H5 ⟨zs, x5, hd, hz⟩
      have b5 := x5.bg hb
      refine ⟨R, _, rfl, .inl ⟨SqL.of hd, fun t ht => ?_⟩⟩
      obtain ⟨H6, e6⟩ : ∃ H6, H6 = upd H5 t (.tup (zs.map V.int)) := ⟨_, rfl⟩
      have s6 : Same H5 H6 := by rw [e6]; exact Same.new ht
      have ht6 : H6 t = some (.tup (zs.map V.int)) := by rw [e6, upd_same]
      have x6 := x5.trans (Nx.of s6)
      have b6 := x6.bg hb
      show gName 2 (.ref t) _ (upd H5 t (.tup (zs.map V.int))) _
      rw [← e6]
      dsimp only [gName]
      refine seq_mid (fun σ H7 => ∃ v o, σ = [some (.ref b), some (.int n), some v, none, none, none, none] ∧ Nx b H H7 ∧ RowA K H7 o v) (fun M hM => ?_) ?_
      · refine ⟨_, rfl, b, _, rfl, b6, by decide, by decide, fun d H7 d0 d1 x7 => ?_⟩
        have ht7 := x7.1 _ _ ht6 (b6.neT ht6)
        refine ⟨rfl, _, rfl, ite2 (fun _ => ?_) (fun _ => hM _ _ ⟨_, some (zs.map V.int), rfl, x6.trans x7, row_ints ht7 (by omega)⟩)⟩
        refine ⟨_, rfl, _, rfl, t, _, rfl, .inr (SqT.of ht7), fun l hl => ?_⟩
        have s8 := Same.new (o := .lst (zs.map V.int)) hl
        refine ⟨b, l, zs, rfl, (x7.bg b6).same s8, (x7.bg b6).ne hl, upd_same, by omega, by omega, fun v o H8 x8 ro => hM _ _ ⟨v, o, rfl, x6.trans (x7.trans ((Nx.of s8).trans x8)), ro⟩⟩
      · rintro σ H7 ⟨v, o, rfl, x7, ro⟩
        refine seq_mid (fun σ H8 => σ = [some (.ref b), some (.int n), some v, none, none, none, none] ∧ Nx b H H8) (fun M hM => ?_) ?_
        · have go : ∀ (r : Addr) (H8 : Hp), Same H7 H8 → ((∃ p, faultO o o = some p ∧ H8 r = some (.tup (tno 1 p))) ∨ (∃ bx, faultO o o = none ∧ BoxV H8 bx BX v v ∧ H8 r = some (.tup (tok bx)))) → ∀ f H9, Same H8 H9 → H9 f = some (.tup (fltL (faultO o o))) → spDue BX [.ref r, .ref f, v, v] H9 (fun x H10 => ∃ c, x = .bl c ∧ if (!c) = true then Q (.bl false) H10 else M [some (.ref b), some (.int n), some v, none, none, none, none] H10) E0 := fun r H8 s8 h8 f H9 s9 hf => by
            refine ⟨r, f, v, v, rfl, fun H10 s10 => ⟨true, rfl, hM _ _ ⟨rfl, x7.trans (Nx.of (s8.trans (s9.trans s10)))⟩⟩, ?_⟩
            rcases h8 with ⟨p, fp, ht⟩ | ⟨bx, fn, bv, ht⟩
            · refine .inl ⟨p, by rw [hf, fp]; rfl, s9 _ _ ht, leaf_eq (fault_leaf fp)⟩
            · obtain ⟨lo, hi, e1, e2, ok⟩ := fault_none fn
              have e3 : lo = hi := by
                rw [e1] at e2
                injection e2 with e2
                exact ints_inj e2
              subst e3
              rw [e1] at ro
              obtain ⟨⟨a, rfl, ha⟩, _⟩ := ro
              have ha9 := s9 _ _ (s8 _ _ ha)
              obtain ⟨dx, bv⟩ := bv
              exact .inr ⟨bx, lo, lo, by rw [hf, fn]; rfl, s9 _ _ ht, ⟨a, a, ⟨dx, s9 _ _ bv⟩, ha9, ha9⟩, ⟨a, rfl, .inl ha9⟩, ⟨a, rfl, .inl ha9⟩, ok⟩
          refine ⟨_, rfl, .inl ⟨v, o, rfl, ro, fun f0 r bx H8 s8 bv hr8 => ?_, fun p f0 r H8 s8 hr8 => ?_⟩⟩
          · refine ⟨_, rfl, _, rfl, v, v, o, o, rfl, ro.same s8, ro.same s8, fun f H9 s9 hf => ⟨_, rfl, _, rfl, ?_⟩⟩
            exact go r H8 s8 (.inr ⟨bx, f0, bv, hr8⟩) f H9 s9 hf
          · refine ⟨_, rfl, _, rfl, v, v, o, o, rfl, ro.same s8, ro.same s8, fun f H9 s9 hf => ⟨_, rfl, _, rfl, ?_⟩⟩
            exact go r H8 s8 (.inl ⟨p, f0, hr8⟩) f H9 s9 hf
        · rintro σ H8 ⟨rfl, x8⟩
          have b8 := x8.bg hb
          refine ⟨_, rfl, _, rfl, _, _, rfl, rfl, ⟨by decide, by decide, by decide⟩, by show 9 ≤ sizeLine; decide, fun p hp => ?_⟩
          obtain ⟨L9, eL⟩ : ∃ L9 : List V, L9 = [.int 0, .int 41, .int (-1), .bl true, .non, .str "3", .int (10 ^ 20), .int 40, .int 1] := ⟨_, rfl⟩
          obtain ⟨H9, e9⟩ : ∃ H9, H9 = upd H8 p (.lst L9) := ⟨_, rfl⟩
          have s9 : Same H8 H9 := by rw [e9]; exact Same.new hp
          have hp9 : H9 p = some (.lst L9) := by rw [e9, upd_same]
          have pb := b8.ne hp
          have h9' : upd H8 p (.lst [.int 0, .int 41, .int (-1), .bl true, .non, .str "3", .int (10 ^ 20), .int 40, .int 1]) = H9 := by rw [e9, eL]
          have lf9 : ∀ z ∈ L9, leafV z = true := by
            rw [eL]
            intro z hz
            simp only [List.mem_cons, List.not_mem_nil, or_false] at hz
            rcases hz with e | e | e | e | e | e | e | e | e <;> rw [e] <;> rfl
          refine ⟨_, rfl, b, 9, rfl, ?_⟩
          rw [show upd H8 p (.lst [(fun i => V.int i) 0, .int 41, (fun i => V.int (-i)) 1, .bl true, .non, .str "3", (fun i j => V.int (i ^ j.toNat)) (10 : Int) (20 : Int), .int 40, .int 1]) = H9 from h9']
          refine ⟨b8.same s9, by decide, by decide, fun d H10 d0 d1 x10 => ?_⟩
          obtain ⟨k, rfl, hk⟩ := int_nat18 d0 (show d < (9 : Nat) from d1)
          have hl : k < L9.length := by rw [eL]; exact hk
          obtain ⟨y, hy⟩ : ∃ y, L9[k]? = some y := ⟨_, List.getElem?_eq_getElem hl⟩
          have ly := lf9 y (List.mem_of_getElem? hy)
          refine ⟨p, L9, _, y, rfl, rfl, SqL.of (x10.1 _ _ hp9 pb), atI_nat hy, by show 2 ≤ sizeLine; decide, fun T hT => ?_⟩
          have xT : Nx b H (upd H10 T (.tup [.int (n : Int), y])) := x8.trans ((Nx.of s9).trans (x10.trans (Nx.of (Same.new hT))))
          obtain ⟨G0, eG0⟩ : ∃ G0, G0 = upd H10 T (.tup [.int (n : Int), y]) := ⟨_, rfl⟩
          have gT : G0 T = some (.tup [.int (n : Int), y]) := by rw [eG0, upd_same]
          rw [← eG0] at xT
          rw [← eG0]
          have Tb := (xT.bg hb).neT gT
          refine ⟨T, rfl, ⟨_, SqT.of gT⟩, for_it (walk_tup (xs := [.int (n : Int), y])) (fun i σ G => ∃ v4 v5 v6, σ = [some (.ref b), some (.int n), some v, none, v4, v5, v6] ∧ Nx b G0 G) ⟨_, _, _, rfl, Nx.refl b G0⟩ ?_ ?_ ?_⟩
          · rintro i σ G _ ⟨_, _, _, _, x⟩
            exact SqT.of (x.1 _ _ gT Tb)
          · rintro i z σ G G2 hi ⟨v4, v5, v6, rfl, x⟩ ⟨rfl, hz⟩
            have lz : leafV z = true := by
              match i, hi, hz with
              | 0, _, hz => cases hz; rfl
              | 1, _, hz => cases hz; exact ly
            refine ⟨by show 1 ≤ sizeLine; decide, fun f hf => ⟨by show 0 ≤ sizeLine; decide, fun t1 h1 => ⟨by show 0 ≤ sizeLine; decide, fun t2 h2 => ⟨by show 2 ≤ sizeLine; decide, fun l hl2 => ?_⟩⟩⟩⟩
            have a1 : Same G2 (upd G2 f (.tup [.non])) := Same.new hf
            have a2 := Same.new (o := .tup []) h1
            have a3 := Same.new (o := .tup []) h2
            have a4 := Same.new (o := .lst [.ref t1, .ref t2]) hl2
            have hf4 := a4 _ _ (a3 _ _ (a2 _ _ (upd_same (H := G2) (a := f) (o := .tup [.non]))))
            have hl4 := upd_same (H := upd (upd (upd G2 f (.tup [.non])) t1 (.tup [])) t2 (.tup [])) (a := l) (o := .lst [.ref t1, .ref t2])
            have s4 := a1.trans (a2.trans (a3.trans a4))
            generalize upd (upd (upd (upd G2 f (.tup [.non])) t1 (.tup [])) t2 (.tup [])) l (.lst [.ref t1, .ref t2]) = G4 at a4 hf4 hl4 s4
            dsimp only [gName]
            refine seq_mid (fun σ G5 => ∃ f l t1 t2, σ = [some (.ref b), some (.int n), some v, none, some z, some (.ref f), some (.ref l)] ∧ Same G2 G5 ∧ G5 l = some (.lst [.ref t1, .ref t2]) ∧ ((btw z 1 40 = false ∧ G5 f = some (.tup [.non])) ∨ ∃ m : Nat, z = .int m ∧ 1 ≤ m ∧ m ≤ 40 ∧ G5 f = some (.tup []) ∧ G5 t1 = some (.tup ((List.replicate m (0 : Int)).map V.int)) ∧ G5 t2 = some (.tup ((List.replicate m (999 : Int)).map V.int)))) (fun M hM => ?_) ?_
            · have bad : btw z 1 40 = false → M [some (.ref b), some (.int n), some v, none, some z, some (.ref f), some (.ref l)] G4 := fun e => hM _ _ ⟨f, l, t1, t2, rfl, s4, hl4, .inl ⟨e, hf4⟩⟩
              refine ⟨_, rfl, z, rfl, leaf_known lz, _, rfl, ?_⟩
              cases z with
              | int i2 =>
                refine iteT ⟨_, rfl, _, _, rfl, rfl, _, rfl, ite2 (fun e1 => ?_) (fun e1 => ?_)⟩
                · have e1 := of_decide_eq_true e1
                  refine ⟨_, rfl, _, _, rfl, rfl, _, rfl, ite2 (fun e2 => ?_) (fun e2 => ?_)⟩
                  · have e2 := of_decide_eq_true e2
                    obtain ⟨m, rfl⟩ : ∃ m : Nat, i2 = m := ⟨i2.toNat, (Int.toNat_of_nonneg (by omega)).symm⟩
                    refine ⟨by show 0 ≤ sizeLine; decide, fun f2 hf2 => ?_⟩
                    have u1 := Same.new (o := .tup []) hf2
                    refine ⟨by show 1 ≤ sizeLine; decide, fun p1 hp1 => ⟨_, rfl, p1, _, [.int 0], rfl, rfl, upd_same, by omega, by omega, by show 1 * _ ≤ _; refine line_of ?_; omega, fun p2 hp2 => ⟨p2, _, rfl, .inl ⟨SqL.of upd_same, fun q1 hq1 => ?_⟩⟩⟩⟩
                    have u2 := Same.new (o := .lst [.int 0]) hp1
                    have u3 := Same.new (o := .lst (List.replicate (m : Int).toNat [V.int 0]).flatten) hp2
                    have u4 := Same.new (o := .tup (List.replicate (m : Int).toNat [V.int 0]).flatten) hq1
                    refine ⟨by show 1 ≤ sizeLine; decide, fun p3 hp3 => ⟨_, rfl, p3, _, [.int 999], rfl, rfl, upd_same, by omega, by omega, by show 1 * _ ≤ _; refine line_of ?_; omega, fun p4 hp4 => ⟨p4, _, rfl, .inl ⟨SqL.of upd_same, fun q2 hq2 => ?_⟩⟩⟩⟩
                    have u5 := Same.new (o := .lst [.int 999]) hp3
                    have u6 := Same.new (o := .lst (List.replicate (m : Int).toNat [V.int 999]).flatten) hp4
                    have u7 := Same.new (o := .tup (List.replicate (m : Int).toNat [V.int 999]).flatten) hq2
                    refine ⟨by show 2 ≤ sizeLine; decide, fun l2 hl2' => hM _ _ ⟨f2, l2, q1, q2, rfl, ?_, upd_same, .inr ⟨m, rfl, by omega, by omega, ?_, ?_, ?_⟩⟩⟩
                    · exact s4.trans (u1.trans (u2.trans (u3.trans (u4.trans (u5.trans (u6.trans (u7.trans (Same.new hl2'))))))))
                    · exact (u2.trans (u3.trans (u4.trans (u5.trans (u6.trans (u7.trans (Same.new hl2'))))))) _ _ upd_same
                    · rw [← rep_flat]
                      exact (u5.trans (u6.trans (u7.trans (Same.new hl2')))) _ _ upd_same
                    · rw [← rep_flat]
                      exact (Same.new hl2') _ _ upd_same
                  · refine bad ?_
                    have e2 : ¬ i2 ≤ 40 := fun w => e2 (decide_eq_true w)
                    show (decide (1 ≤ i2) && decide (i2 ≤ 40)) = false
                    rw [decide_eq_false e2, Bool.and_false]
                · refine bad ?_
                  have e1 : ¬ 1 ≤ i2 := fun w => e1 (decide_eq_true w)
                  show (decide (1 ≤ i2) && decide (i2 ≤ 40)) = false
                  rw [decide_eq_false e1, Bool.false_and]
              | bl c => exact iteF (bad rfl)
              | non => exact iteF (bad rfl)
              | str c => exact iteF (bad rfl)
              | ref c => cases lz
              | byt c => cases lz
              | flt c => cases lz
              | ty c => cases lz
            · rintro σ G5 ⟨f, l, t1, t2, rfl, s5, hl5, h5⟩
              refine ⟨_, rfl, .inr ⟨z, rfl, leaf_known lz, fun m em m1 m40 r bx G6 s6 bv hr6 => ?_, fun eb r G6 s6 hr6 => ?_⟩⟩
              · rcases h5 with ⟨e, _⟩ | ⟨m2, ez, _, _, hf5, h15, h25⟩
                · rw [em] at e
                  have : btw (.int (m : Int)) 1 40 = true := btw_in (by omega) (by omega)
                  rw [this] at e
                  cases e
                · rw [em] at ez
                  obtain rfl : m = m2 := by
                    have := V.int.inj ez
                    omega
                  refine ⟨_, rfl, _, rfl, l, _, _, _, rfl, rfl, SqL.of (s6 _ _ hl5), atI_nat (j := 0) rfl, _, rfl, l, _, _, _, rfl, rfl, SqL.of (s6 _ _ hl5), atI_nat (j := 1) rfl, r, f, .ref t1, .ref t2, rfl, fun G7 s7 => ⟨_, rfl, iteF ⟨_, _, _, rfl, x.trans (Nx.of (s5.trans (s6.trans s7)))⟩⟩, .inr ⟨bx, _, _, s6 _ _ hf5, hr6, bv, ⟨t1, rfl, .inl (s6 _ _ h15)⟩, ⟨t2, rfl, .inl (s6 _ _ h25)⟩, ?_⟩⟩
                  exact ⟨by simp, by simp; exact m1, by simp; exact m40, fun c hc => by rw [(List.mem_replicate.mp hc).2]; decide, fun c hc => by rw [(List.mem_replicate.mp hc).2]; decide⟩
              · rcases h5 with ⟨_, hf5⟩ | ⟨m2, ez, m1, m40, _⟩
                · refine ⟨_, rfl, _, rfl, l, _, _, _, rfl, rfl, SqL.of (s6 _ _ hl5), atI_nat (j := 0) rfl, _, rfl, l, _, _, _, rfl, rfl, SqL.of (s6 _ _ hl5), atI_nat (j := 1) rfl, r, f, .ref t1, .ref t2, rfl, fun G7 s7 => ⟨_, rfl, iteF ⟨_, _, _, rfl, x.trans (Nx.of (s5.trans (s6.trans s7)))⟩⟩, .inl ⟨.non, s6 _ _ hf5, hr6, .non⟩⟩
                · rw [ez] at eb
                  have : btw (.int (m2 : Int)) 1 40 = true := btw_in (by omega) (by omega)
                  rw [this] at eb
                  cases eb
          · rintro σ G ⟨_, _, _, rfl, x⟩
            exact q G (xT.trans x)
end
end WC

set_option maxHeartbeats 8000000
namespace WC
open PySem PySem.Spec PyProof.Rows L2
structure W18 (H : Hp) (b x p q BX : Addr) (lo hi : List Int) : Prop where
  bg : Bg H b
  bx : BoxR H x BX lo hi
  hp : H p = some (.lst (lo.map V.int))
  hq : H q = some (.lst (hi.map V.int))
  pb : p ≠ b
  qb : q ≠ b
theorem W18.on {H H2 : Hp} {b x p q BX : Addr} {lo hi : List Int} (w : W18 H b x p q BX lo hi) (n : Nx b H H2) : W18 H2 b x p q BX lo hi := ⟨n.bg w.bg, w.bx.onB w.bg n, n.1 _ _ w.hp w.pb, n.1 _ _ w.hq w.qb, w.pb, w.qb⟩
def spW (K : PySem.W.Frag) (BX : Addr) : Sp := fun vs H Q _ => ∃ b x p q lo hi, vs = [.ref b, .ref x, .ref p, .ref q] ∧ W18 H b x p q BX lo hi ∧ BxOk lo hi ∧ ∀ H2, Nx b H H2 → Q (.bl true) H2
/-- what the call told -/
def Told18 (H : Hp) (BX r : Addr) (lo hi : List Int) (stage low high : V) : Prop :=
  (btw stage 0 ((lo.length : Int) - 1) = false ∧ H r = some (.tup (tno 1 stage))) ∨
  (btw stage 0 ((lo.length : Int) - 1) = true ∧ (gC low && gC high) = false ∧ H r = some (.tup (tno 2 stage))) ∨
  ∃ (k : Nat) (l h : Int) (y : Addr), stage = .int k ∧ k < lo.length ∧ low = .int l ∧ high = .int h ∧ (0 ≤ l ∧ l ≤ 999) ∧ (0 ≤ h ∧ h ≤ 999) ∧ BoxR H y BX (cutL lo k l) (cutH hi k h) ∧ H r = some (.tup (tok y))
section
variable {P : Program} {w : World} {K : PySem.W.Frag} {mg : Str → Option Value} {base : Heap}
theorem ok_cuts18 {f BX : Addr} {fd : FuncData} (F : Fun K "_law_cuts" "_law_cuts" s_law_cuts f fd) (B : Blt mg) (g_law_take : DefR P w K mg base "_law_take" 1 spTk) (g_law_counter : DefR P w K mg base "_law_counter" 2 spCtr) (g_law_odd : DefR P w K mg base "_law_odd" 2 (spOdd K)) (g_law_whole : DefR P w K mg base "_law_whole" 1 (spWh K)) (g_law_good : DefR P w K mg base "_law_good" 2 (spGd K))
    (g_law_same : DefR P w K mg base "_law_same" 4 (spSm 2)) (g_law_has : DefR P w K mg base "_law_has" 5 (spHas BX)) (g_law_cut : DefR P w K mg base "_law_cut" 7 (spCut K BX)) : FnOk P w K mg base (L2.CX P w) 8 f fd ["bag", "box", "bottoms", "roofs"] (spW K BX) := by
  refine F.okX sc_law_cuts (fun vs H Q E h => ?_) (fun cdv A outer s H vs Q E hr h => ?_)
  · obtain ⟨b, x, p, q, lo, hi, rfl, _⟩ := h
    rfl
  · obtain ⟨b, x, p, q, lo, hi, rfl, W, ok, fin⟩ := h
    have n1 := ok.n1
    have n40 := ok.n40
    -- slots: 0 bag, 1 box, 2 bottoms, 3 roofs, 4 stage, 5 pair, 6 way, 7 used, 8 again, 9 told, 10 cut
    refine ⟨_, (pss_cons (ps_set (i := 4) sc_law_cuts.nd rfl (Or.inl rfl) (pe_cd g_law_take hr psE (pa_cons (pv 0) (pa_cons (pe_callB call_len_seq (by rfl) B.len bt_len (pa_cons (pv 2) pa_nil)) pa_nil))))
      (pss_cons (ps_if (pt_cmpR op_eq (pe_cd g_law_take hr psE (pa_cons (pv 0) (pa_cons pe_int pa_nil))) pe_int (nomark _)) (pss_one (ps_set (i := 4) sc_law_cuts.nd rfl (Or.inl rfl) (pe_ix ix_list (pe_lst (pa_cons (pe_un un_neg pe_int) (pa_cons (pe_callB call_len_seq (by rfl) B.len bt_len (pa_cons (pv 2) pa_nil)) (pa_cons pe_bl (pa_cons pe_non (pa_cons pe_str (pa_cons (pe_op op_pow pe_int pe_int) (pa_cons (pe_un un_neg (pe_callB call_len_seq (by rfl) B.len bt_len (pa_cons (pv 2) pa_nil))) pa_nil)))))))) (pe_cd g_law_take hr psE (pa_cons (pv 0) (pa_cons pe_int pa_nil))) (fun _ _ => rfl)))) pss_nil)
      (pss_cons (ps_set (i := 5) sc_law_cuts.nd rfl (Or.inl rfl) (pe_lst (pa_cons (pe_cd g_law_counter hr psE (pa_cons (pv 0) pa_nil)) (pa_cons (pe_cd g_law_counter hr psE (pa_cons (pv 0) pa_nil)) pa_nil))))
      (pss_cons (ps_if (pt_cmpR op_eq (pe_cd g_law_take hr psE (pa_cons (pv 0) (pa_cons pe_int pa_nil))) pe_int (nomark _)) (pss_one (ps_asg (pe_cd g_law_odd hr psE (pa_cons (pv 0) pa_nil)) (pg_sub (pv 5) (pe_cd g_law_take hr psE (pa_cons (pv 0) (pa_cons pe_int pa_nil))) set_list))) pss_nil)
      (pss_cons (ps_set (i := 6) sc_law_cuts.nd rfl (Or.inl rfl) (pe_cd g_law_take hr psE (pa_cons (pv 0) (pa_cons pe_int pa_nil))))
      (pss_cons (ps_set (i := 7) sc_law_cuts.nd rfl (Or.inl rfl) (pe_lst (pa_cons pe_int (pa_cons pe_int pa_nil))))
      (pss_cons (ps_if (PW.pt (pw_or (pt_cmpR op_eq (pv 6) pe_int (nomark _)) (pw_or1 (pt_cmpR op_eq (pv 6) pe_int (nomark _))))) (pss_one (ps_asg (pe_ix ix_list (pv 5) pe_int (fun _ _ => rfl)) (pg_sub (pv 7) pe_int set_list))) pss_nil)
      (pss_cons (ps_if (PW.pt (pw_or (pt_cmpR op_eq (pv 6) pe_int (nomark _)) (pw_or1 (pt_cmpR op_eq (pv 6) pe_int (nomark _))))) (pss_one (ps_asg (pe_ix ix_list (pv 5) pe_int (fun _ _ => rfl)) (pg_sub (pv 7) pe_int set_list))) pss_nil)
      (pss_cons (ps_for (passes_of rfl) rfl (pi_range1 (by rfl) B.range (pa_cons pe_int pa_nil)) (pg_name (i := 8) sc_law_cuts.nd rfl (Or.inl rfl))
        (pss_cons (ps_set (i := 9) sc_law_cuts.nd rfl (Or.inl rfl) (pe_cd g_law_cut hr psE (pa_cons (pv 1) (pa_cons (pv 4) (pa_cons (pv 6) (pa_cons (pe_ix ix_list (pv 5) pe_int (fun _ _ => rfl)) (pa_cons (pe_ix ix_list (pv 5) pe_int (fun _ _ => rfl)) pa_nil)))))))
      (pss_cons (ps_if (pt_not (pt_val (pe_cd g_law_has hr psE (pa_cons (pv 1) (pa_cons (pv 2) (pa_cons (pv 3) pa_nil)))))) (pss_one (ps_ret pe_bl)) pss_nil)
      (pss_one (ps_if (PW.pt (pw_or (pt_not (pt_val (pe_cd g_law_whole hr psE (pa_cons (pv 4) pa_nil)))) (pw_or (pt_cmpR op_lt (pv 4) pe_int (nomark _)) (pw_or1 (pt_cmpR op_ge (pv 4) (pe_callB call_len_seq (by rfl) B.len bt_len (pa_cons (pv 2) pa_nil)) (nomark _)))))) (pss_one (ps_if (pt_not (pt_val (pe_cd g_law_same hr psE (pa_cons (pv 9) (pa_cons (pe_tup (pa_cons pe_int (pa_cons (pv 4) (pa_cons pe_bl pa_nil)))) pa_nil))))) (pss_one (ps_ret pe_bl)) pss_nil)) (pss_one (ps_if (PW.pt (pw_or (pt_not (pt_val (pe_cd g_law_good hr psE (pa_cons (pe_ix ix_list (pv 7) pe_int (fun _ _ => rfl)) pa_nil)))) (pw_or1 (pt_not (pt_val (pe_cd g_law_good hr psE (pa_cons (pe_ix ix_list (pv 7) pe_int (fun _ _ => rfl)) pa_nil))))))) (pss_one (ps_if (pt_not (pt_val (pe_cd g_law_same hr psE (pa_cons (pv 9) (pa_cons (pe_tup (pa_cons pe_int (pa_cons (pv 4) (pa_cons pe_bl pa_nil)))) pa_nil))))) (pss_one (ps_ret pe_bl)) pss_nil)) (pss_cons (ps_set (i := 10) sc_law_cuts.nd rfl (Or.inl rfl) (pe_lst (pa_cons (pe_callTy (T := "list") call_list_of (by rfl) B.list bt_list (pa_cons (pv 2) pa_nil)) (pa_cons (pe_callTy (T := "list") call_list_of (by rfl) B.list bt_list (pa_cons (pv 3) pa_nil)) pa_nil))))
      (pss_cons (ps_asg (pe_callB (call_max2 rfl) (by rfl) B.max boot_max (pa_cons (pe_ix ix_list (pv 2) (pv 4) (fun _ _ => rfl)) (pa_cons (pe_ix ix_list (pv 7) pe_int (fun _ _ => rfl)) pa_nil))) (pg_sub (pe_ix ix_list (pv 10) pe_int (fun _ _ => rfl)) (pv 4) set_list))
      (pss_cons (ps_asg (pe_callB (call_min2 rfl) (by rfl) B.min boot_min (pa_cons (pe_ix ix_list (pv 3) (pv 4) (fun _ _ => rfl)) (pa_cons (pe_ix ix_list (pv 7) pe_int (fun _ _ => rfl)) pa_nil))) (pg_sub (pe_ix ix_list (pv 10) pe_int (fun _ _ => rfl)) (pv 4) set_list))
      (pss_one (ps_if (PW.pt (pw_or (pt_cmpR op_ne (pe_ix ix_tup (pv 9) pe_int (fun _ _ => rfl)) pe_int (nomark _)) (pw_or1 (pt_not (pt_val (pe_cd g_law_has hr psE (pa_cons (pe_ix ix_tup (pv 9) pe_int (fun _ _ => rfl)) (pa_cons (pe_ix ix_list (pv 10) pe_int (fun _ _ => rfl)) (pa_cons (pe_ix ix_list (pv 10) pe_int (fun _ _ => rfl)) pa_nil))))))))) (pss_one (ps_ret pe_bl)) pss_nil))))))))))))
      (pss_one (ps_ret pe_bl))))))))))), ?_⟩
    refine ⟨_, rfl, _, rfl, p, _, rfl, .inl (SqL.of W.hp), b, _, rfl, W.bg, by rw [List.length_map]; omega, by rw [List.length_map]; omega, fun d0 H1 dlo dhi x1 => ?_⟩
    have W1 := W.on x1
    dsimp only [gName]
    refine seq_mid (fun σ H2 => ∃ stage, σ = [some (.ref b), some (.ref x), some (.ref p), some (.ref q), some stage, none, none, none, none, none, none] ∧ Nx b H H2 ∧ leafV stage = true) (fun M hM => ?_) ?_
    · refine ⟨_, rfl, b, _, rfl, W1.bg, by decide, by decide, fun d H2 d0' d1' x2 => ⟨rfl, _, rfl, ite2 (fun _ => ?_) (fun _ => hM _ _ ⟨_, rfl, x1.trans x2, rfl⟩)⟩⟩
      have W2 := W1.on x2
      refine ⟨_, rfl, _, rfl, p, _, rfl, .inl (SqL.of W2.hp), _, _, rfl, rfl, ⟨by decide, by decide, by decide⟩, _, rfl, p, _, rfl, .inl (SqL.of W2.hp), _, rfl, by show 7 ≤ sizeLine; decide, fun t ht => ?_⟩
      obtain ⟨L7, eL⟩ : ∃ L7 : List V, L7 = [.int (-1), .int ((lo.map V.int).length : Nat), .bl true, .non, .str "0", .int (10 ^ 20), .int (-((lo.map V.int).length : Nat))] := ⟨_, rfl⟩
      obtain ⟨H3, e3⟩ : ∃ H3, H3 = upd H2 t (.lst L7) := ⟨_, rfl⟩
      have s3 : Same H2 H3 := by rw [e3]; exact Same.new ht
      have ht3 : H3 t = some (.lst L7) := by rw [e3, upd_same]
      have h3' : upd H2 t (.lst [.int (-1), .int ((lo.map V.int).length : Nat), .bl true, .non, .str "0", .int (10 ^ 20), .int (-((lo.map V.int).length : Nat))]) = H3 := by rw [e3, eL]
      have lf : ∀ z ∈ L7, leafV z = true := by
        rw [eL]
        intro z hz
        simp only [List.mem_cons, List.not_mem_nil, or_false] at hz
        rcases hz with e | e | e | e | e | e | e <;> rw [e] <;> rfl
      refine ⟨_, rfl, b, 7, rfl, ?_⟩
      rw [show upd H2 t (.lst [(fun i => V.int (-i)) 1, .int ((lo.map V.int).length : Nat), .bl true, .non, .str "0", (fun i j => V.int (i ^ j.toNat)) (10 : Int) (20 : Int), (fun i => V.int (-i)) ((lo.map V.int).length : Int)]) = H3 from h3']
      refine ⟨W2.bg.same s3, by decide, by decide, fun d2 H4 d20 d21 x4 => ?_⟩
      obtain ⟨k, rfl, hk⟩ := int_nat18 d20 (show d2 < (7 : Nat) from d21)
      have hl : k < L7.length := by rw [eL]; exact hk
      exact ⟨t, L7, _, L7[k], rfl, rfl, SqL.of (x4.1 _ _ ht3 (W2.bg.ne ht)), atI_nat (List.getElem?_eq_getElem hl), hM _ _ ⟨_, rfl, x1.trans (x2.trans ((Nx.of s3).trans x4)), lf _ (List.getElem_mem hl)⟩⟩
    · rintro σ H2 ⟨stage, rfl, x2, ls⟩
      have W2 := W.on x2
      refine ⟨_, rfl, b, rfl, W2.bg, fun c1 H3 c10 c11 x3 => ⟨_, rfl, b, rfl, x3.bg W2.bg, fun c2 H4 c20 c21 x4 => ⟨by show 2 ≤ sizeLine; decide, fun pr hpr => ?_⟩⟩⟩
      have x24 := x2.trans (x3.trans x4)
      have W4 := W.on x24
      have prb := W4.bg.ne hpr
      dsimp only [gName]
      refine seq_mid (fun σ H5 => ∃ u1 u2, σ = [some (.ref b), some (.ref x), some (.ref p), some (.ref q), some stage, some (.ref pr), none, none, none, none, none] ∧ Nx b H4 H5 ∧ H5 pr = some (.lst [u1, u2]) ∧ Known K H5 u1 ∧ Known K H5 u2) (fun M hM => ?_) ?_
      · have xp : Nx b H4 (upd H4 pr (.lst [.int c1, .int c2])) := Nx.of (Same.new hpr)
        have hp5 : upd H4 pr (.lst [.int c1, .int c2]) pr = some (.lst [.int c1, .int c2]) := upd_same
        refine ⟨_, rfl, b, _, rfl, xp.bg W4.bg, by decide, by decide, fun d H5 d0' d1' x5 => ⟨rfl, _, rfl, ite2 (fun _ => ?_) (fun _ => hM _ _ ⟨.int c1, .int c2, rfl, xp.trans x5, x5.1 _ _ hp5 prb, trivial, trivial⟩)⟩⟩
        refine ⟨_, rfl, b, rfl, (xp.trans x5).bg W4.bg, fun v H6 kv x6 => ?_⟩
        refine ⟨_, rfl, _, rfl, b, _, rfl, ((xp.trans x5).trans x6).bg W4.bg, by decide, by decide, fun d2 H7 d20 d21 x7 => ?_⟩
        have h7 : H7 pr = some (.lst [.int c1, .int c2]) := (x5.trans (x6.trans x7)).1 _ _ hp5 prb
        have kv7 := x7.known (((xp.trans x5).trans x6).bg W4.bg) kv
        obtain ⟨k, rfl, hk⟩ := int_nat18 d20 (show d2 < (2 : Nat) from d21)
        refine ⟨pr, _, _, k, rfl, rfl, h7, ixn18 hk, ?_⟩
        have nn := (((xp.trans x5).trans x6).trans x7).put (o := .lst ([V.int c1, .int c2].set k v)) hpr
        match k, hk with
        | 0, _ => exact hM _ _ ⟨v, .int c2, rfl, nn, upd_same, kv7.upd h7, trivial⟩
        | 1, _ => exact hM _ _ ⟨.int c1, v, rfl, nn, upd_same, trivial, kv7.upd h7⟩
      · rintro σ H5 ⟨u1, u2, rfl, x5, hp5, k1, k2⟩
        have b5 := x5.bg W4.bg
        refine ⟨_, rfl, b, _, rfl, b5, by decide, by decide, fun way H6 w0 w3 x6 => ⟨by show 2 ≤ sizeLine; decide, fun us hus => ?_⟩⟩
        have b6 := x6.bg b5
        have hp6 := x6.1 _ _ hp5 prb
        have k16 := x6.known b5 k1
        have k26 := x6.known b5 k2
        have usb := b6.ne hus
        have upr : us ≠ pr := fun z => by rw [z, hp6] at hus; cases hus
        have w4 : way = 0 ∨ way = 1 ∨ way = 2 ∨ way = 3 := by omega
        have s7 : Same H6 (upd H6 us (.lst [.int 0, .int 999])) := Same.new hus
        have hu7 : upd H6 us (.lst [.int 0, .int 999]) us = some (.lst [.int 0, .int 999]) := upd_same
        have hp7 := s7 _ _ hp6
        obtain ⟨H7, e7⟩ : ∃ H7, H7 = upd H6 us (.lst [.int 0, .int 999]) := ⟨_, rfl⟩
        rw [← e7] at s7 hu7 hp7
        show gName 7 (.ref us) _ (upd H6 us (.lst [.int 0, .int 999])) _
        rw [← e7]
        dsimp only [gName]
        refine seq_mid (fun σ H8 => σ = [some (.ref b), some (.ref x), some (.ref p), some (.ref q), some stage, some (.ref pr), some (.int way), some (.ref us), none, none, none] ∧ Nx b H6 H8 ∧ H8 us = some (.lst [lowU way u1, .int 999]) ∧ H8 pr = some (.lst [u1, u2])) (fun M hM => ?_) ?_
        · have no : lowU way u1 = .int 0 → M [some (.ref b), some (.ref x), some (.ref p), some (.ref q), some stage, some (.ref pr), some (.int way), some (.ref us), none, none, none] H7 := fun e => hM _ _ ⟨rfl, Nx.of s7, by rw [e]; exact hu7, hp7⟩
          have yes' : lowU way u1 = u1 → M [some (.ref b), some (.ref x), some (.ref p), some (.ref q), some stage, some (.ref pr), some (.int way), some (.ref us), none, none, none] (upd H7 us (.lst ([V.int 0, .int 999].set 0 u1))) := fun e => hM _ _ ⟨rfl, (Nx.of s7).put hus, by rw [e, upd_same]; rfl, by rw [upd_ne (Ne.symm upr)]; exact hp7⟩
          refine ⟨_, rfl, rfl, _, rfl, ?_⟩
          rcases w4 with rfl | rfl | rfl | rfl
          · exact iteF ⟨_, rfl, rfl, _, rfl, iteF (no (by unfold lowU; simp))⟩
          · exact iteT (iteT ⟨_, rfl, pr, _, _, _, rfl, rfl, SqL.of hp7, atI_nat (j := 0) rfl, _, rfl, us, _, _, 0, rfl, rfl, hu7, ixn18 (n := 2) (p := 0) (by decide), yes' (by unfold lowU; simp)⟩)
          · exact iteF ⟨_, rfl, rfl, _, rfl, iteF (no (by unfold lowU; simp))⟩
          · exact iteF ⟨_, rfl, rfl, _, rfl, iteT ⟨_, rfl, pr, _, _, _, rfl, rfl, SqL.of hp7, atI_nat (j := 0) rfl, _, rfl, us, _, _, 0, rfl, rfl, hu7, ixn18 (n := 2) (p := 0) (by decide), yes' (by unfold lowU; simp)⟩⟩
        · rintro σ H8 ⟨rfl, x8, hu8, hp8⟩
          refine seq_mid (fun σ H9 => σ = [some (.ref b), some (.ref x), some (.ref p), some (.ref q), some stage, some (.ref pr), some (.int way), some (.ref us), none, none, none] ∧ Nx b H6 H9 ∧ H9 us = some (.lst [lowU way u1, highU way u2]) ∧ H9 pr = some (.lst [u1, u2])) (fun M hM => ?_) ?_
          · have no : highU way u2 = .int 999 → M [some (.ref b), some (.ref x), some (.ref p), some (.ref q), some stage, some (.ref pr), some (.int way), some (.ref us), none, none, none] H8 := fun e => hM _ _ ⟨rfl, x8, by rw [e]; exact hu8, hp8⟩
            have yes' : highU way u2 = u2 → M [some (.ref b), some (.ref x), some (.ref p), some (.ref q), some stage, some (.ref pr), some (.int way), some (.ref us), none, none, none] (upd H8 us (.lst ([lowU way u1, .int 999].set 1 u2))) := fun e => hM _ _ ⟨rfl, x8.put hus, by rw [e, upd_same]; rfl, by rw [upd_ne (Ne.symm upr)]; exact hp8⟩
            refine ⟨_, rfl, rfl, _, rfl, ?_⟩
            rcases w4 with rfl | rfl | rfl | rfl
            · exact iteF ⟨_, rfl, rfl, _, rfl, iteF (no (by unfold highU; simp))⟩
            · exact iteF ⟨_, rfl, rfl, _, rfl, iteF (no (by unfold highU; simp))⟩
            · exact iteT (iteT ⟨_, rfl, pr, _, _, _, rfl, rfl, SqL.of hp8, atI_nat (j := 1) rfl, _, rfl, us, _, _, 1, rfl, rfl, hu8, ixn18 (n := 2) (p := 1) (by decide), yes' (by unfold highU; simp)⟩)
            · exact iteF ⟨_, rfl, rfl, _, rfl, iteT ⟨_, rfl, pr, _, _, _, rfl, rfl, SqL.of hp8, atI_nat (j := 1) rfl, _, rfl, us, _, _, 1, rfl, rfl, hu8, ixn18 (n := 2) (p := 1) (by decide), yes' (by unfold highU; simp)⟩⟩
          · rintro σ H9 ⟨rfl, x9, hu9, hp9⟩
            have x69 := x9
            have k19 := x69.known b6 k16
            have k29 := x69.known b6 k26
            have xA : Nx b H H9 := x24.trans (x5.trans (x6.trans x69))
            have W9 := W.on xA
            have kst : ∀ G, Known K G stage := fun G => leaf_known ls
            have kl : Known K H9 (lowU way u1) := by unfold lowU; split; exact k19; trivial
            have kh : Known K H9 (highU way u2) := by unfold highU; split; exact k29; trivial
            refine ⟨2, rfl, by decide, by decide, for_range (lo := 0) (n := 2) (fun i σ G => ∃ v8 v9 v10, σ = [some (.ref b), some (.ref x), some (.ref p), some (.ref q), some stage, some (.ref pr), some (.int way), some (.ref us), v8, v9, v10] ∧ Same H9 G) ⟨_, _, _, rfl, Same.refl H9⟩ ?_ ?_⟩
            · rintro i σ G hii ⟨v8, v9, v10, rfl, sg⟩
              have WG := W9.on (Nx.of sg)
              have huG := sg _ _ hu9
              have hpG := sg _ _ hp9
              dsimp only [gName]
              refine seq_mid (fun σ G2 => ∃ r, σ = [some (.ref b), some (.ref x), some (.ref p), some (.ref q), some stage, some (.ref pr), some (.int way), some (.ref us), some (.int ((0 : Int) + i)), some (.ref r), v10] ∧ Same H9 G2 ∧ Told18 G2 BX r lo hi stage (lowU way u1) (highU way u2)) (fun M hM => ?_) ?_
              · refine ⟨_, rfl, _, rfl, _, rfl, _, rfl, pr, _, _, _, rfl, rfl, SqL.of hpG, atI_nat (j := 0) rfl, _, rfl, pr, _, _, _, rfl, rfl, SqL.of hpG, atI_nat (j := 1) rfl, ?_⟩
                refine ⟨x, lo, hi, stage, way, u1, u2, rfl, by omega, by omega, WG.bx, ok, kst G, k19.same sg, k29.same sg, fun e r G2 s2 ht => ?_, fun e g r G2 s2 ht => ?_, fun k l h e1 e2 e3 e4 e5 e6 r y G2 s2 by2 ht => ?_⟩
                · exact hM _ _ ⟨r, rfl, sg.trans s2, .inl ⟨e, ht⟩⟩
                · exact hM _ _ ⟨r, rfl, sg.trans s2, .inr (.inl ⟨e, g, ht⟩)⟩
                · exact hM _ _ ⟨r, rfl, sg.trans s2, .inr (.inr ⟨k, l, h, y, e1, e2, e3, e4, e5, e6, by2, ht⟩)⟩
              · rintro σ G2 ⟨r, rfl, s2, td⟩
                have W2' := W9.on (Nx.of s2)
                have out : ∀ (v10 : Option V) (G3 : Hp), Same G2 G3 → ∃ v8 v9 v10', [some (.ref b), some (.ref x), some (.ref p), some (.ref q), some stage, some (.ref pr), some (.int way), some (.ref us), some (.int ((0 : Int) + i)), some (.ref r), v10] = [some (.ref b), some (.ref x), some (.ref p), some (.ref q), some stage, some (.ref pr), some (.int way), some (.ref us), v8, v9, v10'] ∧ Same H9 G3 := fun v10 G3 s3 => ⟨_, _, _, rfl, s2.trans s3⟩
                refine ⟨_, rfl, _, rfl, _, rfl, x, .ref p, .ref q, lo, hi, rfl, W2'.bx, ⟨p, rfl, .inr W2'.hp⟩, ⟨q, rfl, .inr W2'.hq⟩, ok, fun G3 s3 => ⟨_, rfl, iteF ?_⟩⟩
                have sA := s2.trans s3
                have W3 := W9.on (Nx.of sA)
                have hu3 := sA _ _ hu9
                have kl3 := kl.same sA
                have kh3 := kh.same sA
                refine ⟨_, rfl, stage, rfl, kst G3, _, rfl, ?_⟩
                rcases td with ⟨e, ht⟩ | ⟨e, g, ht⟩ | ⟨k, l, h, y, e1, e2, e3, e4, e5, e6, by2, ht⟩
                · have ht3 := s3 _ _ ht
                  have body : ∀ t G4, Same G3 G4 → G4 t = some (.tup (tno 1 stage)) → EqT G4 2 (.ref r) (.ref t) := fun t G4 s4 h4 => tno_eq (d := 1) (s4 _ _ ht3) h4 (leaf_eq ls)
                  cases stage with
                  | int c =>
                    have e : (decide (0 ≤ c) && decide (c ≤ (lo.length : Int) - 1)) = false := e
                    refine iteF ⟨_, rfl, _, _, rfl, rfl, _, rfl, ite2 (fun z => ?_) (fun z => ?_)⟩
                    · refine iteT ⟨_, rfl, _, rfl, by show 3 ≤ sizeLine; decide, fun t nt => ⟨_, _, rfl, body t _ (Same.new nt) upd_same, fun G4 s4 => ⟨_, rfl, iteF (out _ _ (s3.trans ((Same.new nt).trans s4)))⟩⟩⟩
                    · have z : ¬ c < 0 := fun y => z (decide_eq_true y)
                      refine ⟨_, rfl, _, rfl, p, _, rfl, .inl (SqL.of W3.hp), _, _, rfl, rfl, _, rfl, ite2 (fun _ => ?_) (fun z2 => ?_)⟩
                      · exact ⟨_, rfl, _, rfl, by show 3 ≤ sizeLine; decide, fun t nt => ⟨_, _, rfl, body t _ (Same.new nt) upd_same, fun G4 s4 => ⟨_, rfl, iteF (out _ _ (s3.trans ((Same.new nt).trans s4)))⟩⟩⟩
                      · exfalso
                        have z2 : ¬ ((lo.map V.int).length : Int) ≤ c := fun y => z2 (decide_eq_true y)
                        rw [List.length_map] at z2
                        rw [decide_eq_true (show 0 ≤ c by omega), decide_eq_true (show c ≤ (lo.length : Int) - 1 by omega)] at e
                        cases e
                  | bl c => exact iteT (iteT ⟨_, rfl, _, rfl, by show 3 ≤ sizeLine; decide, fun t nt => ⟨_, _, rfl, body t _ (Same.new nt) upd_same, fun G4 s4 => ⟨_, rfl, iteF (out _ _ (s3.trans ((Same.new nt).trans s4)))⟩⟩⟩)
                  | non => exact iteT (iteT ⟨_, rfl, _, rfl, by show 3 ≤ sizeLine; decide, fun t nt => ⟨_, _, rfl, body t _ (Same.new nt) upd_same, fun G4 s4 => ⟨_, rfl, iteF (out _ _ (s3.trans ((Same.new nt).trans s4)))⟩⟩⟩)
                  | str c => exact iteT (iteT ⟨_, rfl, _, rfl, by show 3 ≤ sizeLine; decide, fun t nt => ⟨_, _, rfl, body t _ (Same.new nt) upd_same, fun G4 s4 => ⟨_, rfl, iteF (out _ _ (s3.trans ((Same.new nt).trans s4)))⟩⟩⟩)
                  | ref c => cases ls
                  | byt c => cases ls
                  | flt c => cases ls
                  | ty c => cases ls
                · obtain ⟨k, rfl, hk⟩ : ∃ k : Nat, stage = .int k ∧ k < lo.length := by
                    cases stage with
                    | int i =>
                      have e : (decide (0 ≤ i) && decide (i ≤ (lo.length : Int) - 1)) = true := e
                      obtain ⟨z1, z2⟩ := Bool.and_eq_true_iff.mp e
                      have z1 := of_decide_eq_true z1
                      have z2 := of_decide_eq_true z2
                      exact ⟨i.toNat, by rw [Int.toNat_of_nonneg z1], by omega⟩
                    | bl b => cases e
                    | non => cases e
                    | str z => cases e
                    | ref a => cases e
                    | byt b => cases e
                    | flt b => cases e
                    | ty n => cases e
                  have ht3 := s3 _ _ ht
                  have body : ∀ t G4, Same G3 G4 → G4 t = some (.tup (tno 2 (.int (k : Nat)))) → EqT G4 2 (.ref r) (.ref t) := fun t G4 s4 h4 => tno_eq (d := 1) (s4 _ _ ht3) h4 (leaf_eq ls)
                  refine iteF ⟨_, rfl, _, _, rfl, rfl, _, rfl, ?_⟩
                  rw [decide_eq_false (show ¬ ((k : Int) < 0) by omega)]
                  refine iteF ⟨_, rfl, _, rfl, p, _, rfl, .inl (SqL.of W3.hp), _, _, rfl, rfl, _, rfl, ?_⟩
                  rw [List.length_map, decide_eq_false (show ¬ ((lo.length : Int) ≤ (k : Int)) by omega)]
                  refine iteF ⟨_, rfl, us, _, _, _, rfl, rfl, SqL.of hu3, atI_nat (j := 0) rfl, _, rfl, kl3, _, rfl, ?_⟩
                  cases gl : gC (lowU way u1) with
                  | false => exact iteT (iteT ⟨_, rfl, _, rfl, by show 3 ≤ sizeLine; decide, fun t nt => ⟨_, _, rfl, body t _ (Same.new nt) upd_same, fun G4 s4 => ⟨_, rfl, iteF (out _ _ (s3.trans ((Same.new nt).trans s4)))⟩⟩⟩)
                  | true =>
                    refine iteF ⟨_, rfl, us, _, _, _, rfl, rfl, SqL.of hu3, atI_nat (j := 1) rfl, _, rfl, kh3, _, rfl, ?_⟩
                    rw [gl, Bool.true_and] at g
                    rw [g]
                    exact iteT ⟨_, rfl, _, rfl, by show 3 ≤ sizeLine; decide, fun t nt => ⟨_, _, rfl, body t _ (Same.new nt) upd_same, fun G4 s4 => ⟨_, rfl, iteF (out _ _ (s3.trans ((Same.new nt).trans s4)))⟩⟩⟩
                · subst e1
                  have ht3 := s3 _ _ ht
                  have by3 := by2.same s3
                  have hk2 : k < hi.length := by rw [← ok.len]; exact e2
                  rw [e3] at kl3 hu3
                  rw [e4] at kh3 hu3
                  refine iteF ⟨_, rfl, _, _, rfl, rfl, _, rfl, ?_⟩
                  rw [decide_eq_false (show ¬ ((k : Int) < 0) by omega)]
                  refine iteF ⟨_, rfl, _, rfl, p, _, rfl, .inl (SqL.of W3.hp), _, _, rfl, rfl, _, rfl, ?_⟩
                  rw [List.length_map, decide_eq_false (show ¬ ((lo.length : Int) ≤ (k : Int)) by omega)]
                  refine iteF ⟨_, rfl, us, _, _, _, rfl, rfl, SqL.of hu3, atI_nat (j := 0) rfl, _, rfl, kl3, _, rfl, ?_⟩
                  rw [gC_in e5.1 e5.2]
                  refine iteF ⟨_, rfl, us, _, _, _, rfl, rfl, SqL.of hu3, atI_nat (j := 1) rfl, _, rfl, kh3, _, rfl, ?_⟩
                  rw [gC_in e6.1 e6.2]
                  refine iteF ⟨_, rfl, p, _, rfl, .inl (SqL.of W3.hp), fun la hla => ?_⟩
                  have t1 := Same.new (o := .lst (lo.map V.int)) hla
                  refine ⟨_, rfl, q, _, rfl, .inl (SqL.of (t1 _ _ W3.hq)), fun lb hlb => ⟨by show 2 ≤ sizeLine; decide, fun ct hct => ?_⟩⟩
                  have t2 := Same.new (o := .lst (hi.map V.int)) hlb
                  have t3 := Same.new (o := .lst [.ref la, .ref lb]) hct
                  have a4 : upd (upd (upd G3 la (.lst (lo.map V.int))) lb (.lst (hi.map V.int))) ct (.lst [.ref la, .ref lb]) la = some (.lst (lo.map V.int)) := t3 _ _ (t2 _ _ upd_same)
                  have b4 : upd (upd (upd G3 la (.lst (lo.map V.int))) lb (.lst (hi.map V.int))) ct (.lst [.ref la, .ref lb]) lb = some (.lst (hi.map V.int)) := t3 _ _ upd_same
                  have c4 : upd (upd (upd G3 la (.lst (lo.map V.int))) lb (.lst (hi.map V.int))) ct (.lst [.ref la, .ref lb]) ct = some (.lst [.ref la, .ref lb]) := upd_same
                  have lal : la ≠ lb := ne_of_none (upd_same (H := G3) (a := la) (o := .lst (lo.map V.int))) hlb
                  have lac : la ≠ ct := ne_of_none (t2 _ _ (upd_same (H := G3) (a := la) (o := .lst (lo.map V.int)))) hct
                  have lbc : lb ≠ ct := ne_of_none (upd_same (H := upd G3 la (.lst (lo.map V.int))) (a := lb) (o := .lst (hi.map V.int))) hct
                  have t4 := t1.trans (t2.trans t3)
                  have hlbG : G3 lb = none := Same.free t1 hlb
                  generalize upd (upd (upd G3 la (.lst (lo.map V.int))) lb (.lst (hi.map V.int))) ct (.lst [.ref la, .ref lb]) = G4 at a4 b4 c4 t4
                  dsimp only [gName]
                  refine ⟨_, rfl, _, rfl, p, _, _, _, rfl, rfl, SqL.of (t4 _ _ W3.hp), atI_nat (at_int e2), _, rfl, us, _, _, _, rfl, rfl, SqL.of (t4 _ _ hu3), atI_nat (j := 0) rfl, _, _, rfl, _, rfl, ct, _, _, _, rfl, rfl, SqL.of c4, atI_nat (j := 0) rfl, _, rfl, la, _, _, k, rfl, rfl, a4, ixn18 (by rw [List.length_map]; exact e2), ?_⟩
                  obtain ⟨G5, e5'⟩ : ∃ G5, G5 = upd G4 la (.lst ((cutL lo k l).map V.int)) := ⟨_, rfl⟩
                  rw [show upd G4 la (.lst ((lo.map V.int).set k (.int (if l > lo.getD k 0 then l else lo.getD k 0)))) = G5 from by rw [e5']; unfold cutL mx2; rw [List.map_set]]
                  have t5 : Same G3 G5 := by rw [e5']; exact Same.newer t4 hla
                  have a5 : G5 la = some (.lst ((cutL lo k l).map V.int)) := by rw [e5', upd_same]
                  have b5' : G5 lb = some (.lst (hi.map V.int)) := by rw [e5', upd_ne (Ne.symm lal)]; exact b4
                  have c5 : G5 ct = some (.lst [.ref la, .ref lb]) := by rw [e5', upd_ne (Ne.symm lac)]; exact c4
                  refine ⟨_, rfl, _, rfl, q, _, _, _, rfl, rfl, SqL.of (t5 _ _ W3.hq), atI_nat (at_int hk2), _, rfl, us, _, _, _, rfl, rfl, SqL.of (t5 _ _ hu3), atI_nat (j := 1) rfl, _, _, rfl, _, rfl, ct, _, _, _, rfl, rfl, SqL.of c5, atI_nat (j := 1) rfl, _, rfl, lb, _, _, k, rfl, rfl, b5', ixn18 (by rw [List.length_map]; exact hk2), ?_⟩
                  obtain ⟨G6, e6'⟩ : ∃ G6, G6 = upd G5 lb (.lst ((cutH hi k h).map V.int)) := ⟨_, rfl⟩
                  rw [show upd G5 lb (.lst ((hi.map V.int).set k (.int (if h < hi.getD k 0 then h else hi.getD k 0)))) = G6 from by rw [e6']; unfold cutH mn2; rw [List.map_set]]
                  have t6 : Same G3 G6 := by rw [e6']; exact Same.newer t5 hlbG
                  have a6 : G6 la = some (.lst ((cutL lo k l).map V.int)) := by rw [e6', upd_ne lal]; exact a5
                  have b6' : G6 lb = some (.lst ((cutH hi k h).map V.int)) := by rw [e6', upd_same]
                  have c6 : G6 ct = some (.lst [.ref la, .ref lb]) := by rw [e6', upd_ne (Ne.symm lbc)]; exact c5
                  have ht6 := t6 _ _ ht3
                  refine ⟨_, rfl, r, _, _, _, rfl, rfl, SqT.of ht6, atI_nat (j := 0) rfl, rfl, _, rfl, iteF ?_⟩
                  refine ⟨_, rfl, r, _, _, _, rfl, rfl, SqT.of ht6, atI_nat (j := 1) rfl, _, rfl, ct, _, _, _, rfl, rfl, SqL.of c6, atI_nat (j := 0) rfl, _, rfl, ct, _, _, _, rfl, rfl, SqL.of c6, atI_nat (j := 1) rfl, ?_⟩
                  exact ⟨y, .ref la, .ref lb, _, _, rfl, by3.same t6, ⟨la, rfl, .inr a6⟩, ⟨lb, rfl, .inr b6'⟩, ok.cut e5 e6, fun G7 s7 => ⟨_, rfl, iteF (out _ _ (s3.trans (t6.trans s7)))⟩⟩
            · rintro σ G ⟨v8, v9, v10, rfl, sg⟩
              exact fin G (xA.trans (Nx.of sg))
end
end WC

set_option maxHeartbeats 8000000
namespace WC
open PySem PySem.Spec PyProof.Rows L2
/-- a list of ours being written since Hs -/
structure Rw (K : PySem.W.Frag) (Hs G : Hp) (b R : Addr) (xs : List V) : Prop where
  n : Nx b Hs G
  f : Hs R = none
  nb : R ≠ b
  r : G R = some (.lst xs)
  k : ∀ x ∈ xs, Known K G x
  l : xs.length ≤ 41
theorem Rw.on {K : PySem.W.Frag} {Hs G G2 : Hp} {b R : Addr} {xs : List V} (w : Rw K Hs G b R xs) (hb : Bg Hs b) (x : Nx b G G2) : Rw K Hs G2 b R xs := ⟨w.n.trans x, w.f, w.nb, x.1 _ _ w.r w.nb, fun y hy => x.known (w.n.bg hb) (w.k y hy), w.l⟩
theorem Rw.put {K : PySem.W.Frag} {Hs G : Hp} {b R : Addr} {xs vs : List V} (w : Rw K Hs G b R xs) (hk : ∀ x ∈ vs, Known K G x) (hl : vs.length ≤ 41) : Rw K Hs (upd G R (.lst vs)) b R vs := ⟨w.n.put w.f, w.f, w.nb, upd_same, fun y hy => (hk y hy).upd w.r, hl⟩
theorem Rw.set {K : PySem.W.Frag} {Hs G : Hp} {b R : Addr} {xs : List V} {k : Nat} {v : V} (w : Rw K Hs G b R xs) (kv : Known K G v) : Rw K Hs (upd G R (.lst (xs.set k v))) b R (xs.set k v) := w.put (fun x hx => by
  rcases List.mem_or_eq_of_mem_set hx with e | e
  · exact w.k x e
  · rw [e]; exact kv) (by rw [List.length_set]; exact w.l)
theorem Rw.new {K : PySem.W.Frag} {Hs G : Hp} {b R : Addr} {xs : List V} (hb : Bg Hs b) (n : Nx b Hs G) (hR : G R = none) (hk : ∀ x ∈ xs, Known K G x) (hl : xs.length ≤ 41) : Rw K Hs (upd G R (.lst xs)) b R xs :=
  ⟨n.trans (Nx.of (Same.new hR)), Bg.free n.1 (n.bg hb) hR, (n.bg hb).ne hR, upd_same, fun y hy => (hk y hy).same (Same.new hR), hl⟩
theorem TyX.same {K : PySem.W.Frag} {H H2 : Hp} {v : V} {T : Value} (h : TyX K H v T) (s : Same H H2) : TyX K H2 v T := by
  cases h with
  | base h =>
    cases h with
    | non => exact .base .non
    | bl x => exact .base (.bl x)
    | int i => exact .base (.int i)
    | str x => exact .base (.str x)
    | flt x => exact .base (.flt x)
    | lst e => exact .base (.lst (s _ _ e))
    | frz e => exact .base (.frz (s _ _ e))
    | tup e => exact .base (.tup (s _ _ e))
    | dK e => exact .base (.dK (s _ _ e))
    | dT e => exact .base (.dT (s _ _ e))
    | ins e cl ha hn htk hm => exact .base (.ins (s _ _ e) cl ha hn htk hm)
  | byt b => exact .byt b
  | set e => exact .set (s _ _ e)
  | kList e c => exact .kList e c
  | kTuple e c => exact .kTuple e c
  | kDict e c => exact .kDict e c
  | fTuple e => exact .fTuple (s _ _ e)
  | fDict e => exact .fDict (s _ _ e)
theorem IsTu.same {K : PySem.W.Frag} {H H2 : Hp} {v : V} {r : Bool} (h : IsTu K H v r) (s : Same H H2) : IsTu K H2 v r := let ⟨T, a, b⟩ := h; ⟨T, TyX.same a s, b⟩
section
variable {P : Program} {w : World} {K : PySem.W.Frag} {mg : Str → Option Value} {base : Heap}
theorem ok_probes18 {f BX fc : Addr} {fd fdc : FuncData} {pc : List Str} (F : Fun K "_law_probes" "_law_probes" s_law_probes f fd) (B : Blt mg) (TB : BoxC K BX) (TI : BoxI K BX) (OC : OwnM K BX "__contains__" fc) (FC : FnOk P w K mg base (L2.CX P w) 2 fc fdc pc (spCon K BX)) (bC : Binds K fdc pc []) (g_law_take : DefR P w K mg base "_law_take" 1 spTk) (g_law_counter : DefR P w K mg base "_law_counter" 2 spCtr) (g_law_odd : DefR P w K mg base "_law_odd" 2 (spOdd K))
    (g_law_inside : DefR P w K mg base "_law_inside" 3 (spIns K)) : FnOk P w K mg base (L2.CX P w) 4 f fd ["bag", "box", "bottoms", "roofs"] (spW K BX) := by
  refine F.okX sc_law_probes (fun vs H Q E h => ?_) (fun cdv A outer s H vs Q E hr h => ?_)
  · obtain ⟨b, x, p, q, lo, hi, rfl, _⟩ := h
    rfl
  · obtain ⟨b, x, p, q, lo, hi, rfl, W, ok, fin⟩ := h
    have n1 := ok.n1
    have n40 := ok.n40
    have le := ok.len
    -- slots: 0 bag, 1 box, 2 bottoms, 3 roofs, 4 k, 5 row, 6 j, 7 at, 8 way, 9 probe
    refine ⟨_, (pss_cons (ps_for (passes_of rfl) rfl (pi_range1 (by rfl) B.range (pa_cons pe_int pa_nil)) (pg_name (i := 4) sc_law_probes.nd rfl (Or.inl rfl))
        (pss_cons (ps_set (i := 5) sc_law_probes.nd rfl (Or.inl rfl) (pe_lst pa_nil))
      (pss_cons (ps_for (passes_of rfl) rfl (pi_range1 (by rfl) B.range (pa_cons (pe_callB call_len_seq (by rfl) B.len bt_len (pa_cons (pv 2) pa_nil)) pa_nil)) (pg_name (i := 6) sc_law_probes.nd rfl (Or.inl rfl))
        (pss_one (ps_expr (pe_bm PySem.F.plainAttrs_list PySem.F.slot_list_append PySem.F.type_list_append mt_append (pv 5) (pa_cons (pe_ix ix_list (pe_lst (pa_cons (pe_ix ix_list (pv 2) (pv 6) (fun _ _ => rfl)) (pa_cons (pe_ix ix_list (pv 3) (pv 6) (fun _ _ => rfl)) (pa_cons (pe_callB (call_min2 rfl) (by rfl) B.min boot_min (pa_cons (pe_op op_add (pe_ix ix_list (pv 2) (pv 6) (fun _ _ => rfl)) pe_int) (pa_cons (pe_ix ix_list (pv 3) (pv 6) (fun _ _ => rfl)) pa_nil))) pa_nil)))) (pe_cd g_law_take hr psE (pa_cons (pv 0) (pa_cons pe_int pa_nil))) (fun _ _ => rfl)) pa_nil)))))
      (pss_cons (ps_set (i := 7) sc_law_probes.nd rfl (Or.inl rfl) (pe_cd g_law_take hr psE (pa_cons (pv 0) (pa_cons (pe_callB call_len_seq (by rfl) B.len bt_len (pa_cons (pv 5) pa_nil)) pa_nil))))
      (pss_cons (ps_set (i := 8) sc_law_probes.nd rfl (Or.inl rfl) (pe_cd g_law_take hr psE (pa_cons (pv 0) (pa_cons pe_int pa_nil))))
      (pss_cons (ps_if (pt_cmpR op_eq (pv 8) pe_int (nomark _)) (pss_one (ps_asg (pe_op op_sub (pe_ix ix_list (pv 2) (pv 7) (fun _ _ => rfl)) pe_int) (pg_sub (pv 5) (pv 7) set_list))) pss_nil)
      (pss_cons (ps_if (pt_cmpR op_eq (pv 8) pe_int (nomark _)) (pss_one (ps_asg (pe_op op_add (pe_ix ix_list (pv 3) (pv 7) (fun _ _ => rfl)) pe_int) (pg_sub (pv 5) (pv 7) set_list))) pss_nil)
      (pss_cons (ps_if (pt_cmpR op_eq (pv 8) pe_int (nomark _)) (pss_one (ps_asg (pe_cd g_law_odd hr psE (pa_cons (pv 0) pa_nil)) (pg_sub (pv 5) (pv 7) set_list))) pss_nil)
      (pss_cons (ps_if (pt_cmpR op_eq (pv 8) pe_int (nomark _)) (pss_one (ps_set (i := 5) sc_law_probes.nd rfl (Or.inl rfl) (pe_slice sl_list (pv 5) po_none (po_some (pv 7))))) pss_nil)
      (pss_cons (ps_if (pt_cmpR op_eq (pv 8) pe_int (nomark _)) (pss_one (ps_expr (pe_bm PySem.F.plainAttrs_list PySem.F.slot_list_append PySem.F.type_list_append mt_append (pv 5) (pa_cons (pe_cd g_law_counter hr psE (pa_cons (pv 0) pa_nil)) pa_nil)))) pss_nil)
      (pss_cons (ps_set (i := 9) sc_law_probes.nd rfl (Or.inl rfl) (pe_callTy (T := "tuple") (c_tup (K := K)) (by rfl) B.tuple bt_tuple (pa_cons (pv 5) pa_nil)))
      (pss_cons (ps_if (PW.pt (pw_and (pt_cmpR op_eq (pv 8) pe_int (nomark _)) (pw_and1 (pt_cmpR op_gt (pe_callB call_len_seq (by rfl) B.len bt_len (pa_cons (pv 5) pa_nil)) pe_int (nomark _))))) (pss_cons (ps_asg (pe_ix ix_list (pe_lst (pa_cons pe_bl (pa_cons pe_int pa_nil))) (pe_callTy (T := "int") call_int1 (by rfl) B.int bt_int (pa_cons (pe_or (pe_cmpR op_gt (pe_ix ix_list (pv 2) (pv 7) (fun _ _ => rfl)) pe_int (nomark _)) (pe_one (pe_cmpR op_lt (pe_ix ix_list (pv 3) (pv 7) (fun _ _ => rfl)) pe_int (nomark _)))) pa_nil)) (fun _ _ => rfl)) (pg_sub (pv 5) (pv 7) set_list))
      (pss_one (ps_set (i := 9) sc_law_probes.nd rfl (Or.inl rfl) (pe_callTy (T := "tuple") (c_tup (K := K)) (by rfl) B.tuple bt_tuple (pa_cons (pv 5) pa_nil))))) pss_nil)
      (pss_cons (ps_if (pt_cmpR op_eq (pv 8) pe_int (nomark _)) (pss_one (ps_set (i := 9) sc_law_probes.nd rfl (Or.inl rfl) (pe_ix ix_list (pe_lst (pa_cons (pe_callTy (T := "list") call_list_of (by rfl) B.list bt_list (pa_cons (pv 5) pa_nil)) (pa_cons pe_non (pa_cons pe_int (pa_cons pe_str (pa_cons pe_bl (pa_cons (pv 1) pa_nil))))))) (pe_cd g_law_take hr psE (pa_cons (pv 0) (pa_cons pe_int pa_nil))) (fun _ _ => rfl)))) pss_nil)
      (pss_cons (ps_if (pt_cmpR op_ne (pe_cmpR (op_inO OC FC bC (hr.mono (by decide))) (pv 9) (pv 1) (by rfl)) (pe_cd g_law_inside hr psE (pa_cons (pv 9) (pa_cons (pv 2) (pa_cons (pv 3) pa_nil)))) (nomark _)) (pss_one (ps_ret pe_bl)) pss_nil)
      (pss_one (ps_if (pt_cmpR op_eq (pe_cmpR (op_notInO OC FC bC (hr.mono (by decide))) (pv 9) (pv 1) (by rfl)) (pe_cd g_law_inside hr psE (pa_cons (pv 9) (pa_cons (pv 2) (pa_cons (pv 3) pa_nil)))) (nomark _)) (pss_one (ps_ret pe_bl)) pss_nil))))))))))))))))
      (pss_one (ps_ret pe_bl))), ?_⟩
    refine ⟨3, rfl, by decide, by decide, for_range (lo := 0) (n := 3) (fun i σ G => ∃ v4 v5 v6 v7 v8 v9, σ = [some (.ref b), some (.ref x), some (.ref p), some (.ref q), v4, v5, v6, v7, v8, v9] ∧ Nx b H G) ⟨_, _, _, _, _, _, rfl, Nx.refl b H⟩ ?_ (fun σ G ⟨_, _, _, _, _, _, _, x⟩ => fin G x)⟩
    rintro i σ Hs hii ⟨v4, v5, v6, v7, v8, v9, rfl, xs0⟩
    have Ws := W.on xs0
    have bs := Ws.bg
    refine ⟨by show 0 ≤ sizeLine; decide, fun R hR => ?_⟩
    have rw0 : Rw K Hs (upd Hs R (.lst [])) b R [] := Rw.new bs (Nx.refl b Hs) hR (fun x hx => by cases hx) (by decide)
    dsimp only [gName]
    refine seq_mid (fun σ G => ∃ v6 ys, σ = [some (.ref b), some (.ref x), some (.ref p), some (.ref q), some (.int ((0 : Int) + i)), some (.ref R), v6, v7, v8, v9] ∧ Rw K Hs G b R ys ∧ ys.length = lo.length) (fun M hM => ?_) ?_
    · refine ⟨_, rfl, p, _, rfl, .inl (SqL.of (Same.new hR _ _ Ws.hp)), _, rfl, by rw [List.length_map]; omega, by rw [List.length_map]; omega, for_range (lo := 0) (n := (lo.map V.int).length) (fun j σ G => ∃ v6 ys, σ = [some (.ref b), some (.ref x), some (.ref p), some (.ref q), some (.int ((0 : Int) + i)), some (.ref R), v6, v7, v8, v9] ∧ Rw K Hs G b R ys ∧ ys.length = j) ⟨_, [], rfl, rw0, rfl⟩ ?_ (fun σ G ⟨_, ys, e, z, l⟩ => hM _ _ ⟨_, ys, e, z, by rw [l, List.length_map]⟩)⟩
      rintro j σ G hj ⟨v6, ys, rfl, rw1, ly⟩
      rw [List.length_map] at hj
      have hj2 : j < hi.length := by omega
      have WG := Ws.on rw1.n
      have ap : atI (lo.map V.int) ((0 : Int) + j) = some (.int (lo.getD j 0)) := by rw [Int.zero_add]; exact atI_nat (at_int hj)
      have aq : atI (hi.map V.int) ((0 : Int) + j) = some (.int (hi.getD j 0)) := by rw [Int.zero_add]; exact atI_nat (at_int hj2)
      refine ⟨_, rfl, .inl ⟨rfl, _, SqL.of rw1.r⟩, _, rfl, _, rfl, p, _, _, _, rfl, rfl, SqL.of WG.hp, ap, _, rfl, _, rfl, q, _, _, _, rfl, rfl, SqL.of WG.hq, aq, _, rfl, _, rfl, p, _, _, _, rfl, rfl, SqL.of WG.hp, ap, _, _, rfl, rfl, _, rfl, _, rfl, q, _, _, _, rfl, rfl, SqL.of WG.hq, aq, _, _, rfl, ?_⟩
      generalize (if hi.getD j 0 < lo.getD j 0 + 1 then hi.getD j 0 else lo.getD j 0 + 1) = m
      refine ⟨by show 3 ≤ sizeLine; decide, fun t ht => ?_⟩
      have s2 := Same.new (o := .lst [.int (lo.getD j 0), .int (hi.getD j 0), .int m]) ht
      have ht2 : upd G t (.lst [.int (lo.getD j 0), .int (hi.getD j 0), .int m]) t = some (.lst [.int (lo.getD j 0), .int (hi.getD j 0), .int m]) := upd_same
      refine ⟨_, rfl, b, _, rfl, WG.bg.same s2, by decide, by decide, fun d G3 d0 d1 x3 => ?_⟩
      have ht3 := x3.1 _ _ ht2 (WG.bg.ne ht)
      have rw3 := rw1.on bs ((Nx.of s2).trans x3)
      obtain ⟨k, rfl, hk⟩ := int_nat18 d0 (show d < (3 : Nat) from d1)
      have app : ∀ c : Int, R ≠ R ∨ rAppend (.ref R) [.int c] G3 (fun _ G4 => ∃ v6 ys, [some (.ref b), some (.ref x), some (.ref p), some (.ref q), some (.int ((0 : Int) + i)), some (.ref R), some (.int ((0 : Int) + j)), v7, v8, v9] = [some (.ref b), some (.ref x), some (.ref p), some (.ref q), some (.int ((0 : Int) + i)), some (.ref R), v6, v7, v8, v9] ∧ Rw K Hs G4 b R ys ∧ ys.length = j + 1) := fun c => .inr ⟨R, ys, .int c, rfl, rfl, rw3.r, line_lt (by omega), _, _, rfl, rw3.put (fun y hy => by
        rcases List.mem_append.mp hy with z | z
        · exact rw3.k y z
        · rw [List.mem_singleton.mp z]; trivial) (by rw [List.length_append]; show ys.length + 1 ≤ 41; omega), by rw [List.length_append, ly]; rfl⟩
      match k, hk with
      | 0, _ => exact ⟨t, _, _, _, rfl, rfl, SqL.of ht3, atI_nat (j := 0) rfl, (app _).resolve_left fun z => z rfl⟩
      | 1, _ => exact ⟨t, _, _, _, rfl, rfl, SqL.of ht3, atI_nat (j := 1) rfl, (app _).resolve_left fun z => z rfl⟩
      | 2, _ => exact ⟨t, _, _, _, rfl, rfl, SqL.of ht3, atI_nat (j := 2) rfl, (app _).resolve_left fun z => z rfl⟩
    · rintro σ G ⟨v6, ys, rfl, rw1, ly⟩
      refine ⟨_, rfl, _, rfl, R, _, rfl, .inl (SqL.of rw1.r), b, _, rfl, rw1.n.bg bs, by omega, by omega, fun d G1 d0 d1 y1 => ?_⟩
      obtain ⟨a, rfl, ha⟩ := int_nat18 d0 d1
      rw [ly] at ha
      have rw2 := rw1.on bs y1
      refine ⟨_, rfl, b, _, rfl, rw2.n.bg bs, by decide, by decide, fun way G2 w0 w1 y2 => ?_⟩
      have rw3 := rw2.on bs y2
      have ha2 : a < hi.length := by omega
      dsimp only [gName]
      obtain ⟨PV, ePV⟩ : ∃ PV : L2.St → Hp → Prop, PV = fun σ G => ∃ R xs, σ = [some (.ref b), some (.ref x), some (.ref p), some (.ref q), some (.int ((0 : Int) + i)), some (.ref R), v6, some (.int (a : Nat)), some (.int way), v9] ∧ Rw K Hs G b R xs ∧ (lo.length ≤ xs.length ∨ way = 4) ∧ xs.length ≤ 40 := ⟨_, rfl⟩
      have ini : PV [some (.ref b), some (.ref x), some (.ref p), some (.ref q), some (.int ((0 : Int) + i)), some (.ref R), v6, some (.int (a : Nat)), some (.int way), v9] G2 := by
        rw [ePV]; exact ⟨R, ys, rfl, rw3, .inl (by omega), by omega⟩
      have at_p : ∀ G, Nx b Hs G → SqL K G p (lo.map V.int) ∧ atI (lo.map V.int) (a : Int) = some (.int (lo.getD a 0)) := fun G x => ⟨SqL.of (Ws.on x).hp, atI_nat (at_int ha)⟩
      have at_q : ∀ G, Nx b Hs G → SqL K G q (hi.map V.int) ∧ atI (hi.map V.int) (a : Int) = some (.int (hi.getD a 0)) := fun G x => ⟨SqL.of (Ws.on x).hq, atI_nat (at_int ha2)⟩
      refine seq_mid PV (fun M hM => ?_) ?_
      · refine ⟨_, rfl, rfl, _, rfl, ite2 (fun e => ?_) (fun _ => hM _ _ ini)⟩
        refine ⟨_, rfl, _, rfl, p, _, _, _, rfl, rfl, (at_p G2 rw3.n).1, (at_p G2 rw3.n).2, _, _, rfl, rfl, _, rfl, _, rfl, R, _, _, a, rfl, rfl, rw3.r, ixn18 (by omega), hM _ _ ?_⟩
        rw [ePV]
        exact ⟨R, _, rfl, rw3.set trivial, .inl (by rw [List.length_set]; omega), by rw [List.length_set]; omega⟩
      rintro σ G3 h3
      rw [ePV] at h3
      obtain ⟨R3, x3, rfl, r3, a3, c3⟩ := h3
      refine seq_mid PV (fun M hM => ?_) ?_
      · refine ⟨_, rfl, rfl, _, rfl, ite2 (fun e => ?_) (fun _ => hM _ _ (by rw [ePV]; exact ⟨R3, x3, rfl, r3, a3, c3⟩))⟩
        have e := of_decide_eq_true e
        have e : way = 2 := V.int.inj e
        refine ⟨_, rfl, _, rfl, q, _, _, _, rfl, rfl, (at_q G3 r3.n).1, (at_q G3 r3.n).2, _, _, rfl, rfl, _, rfl, _, rfl, R3, _, _, a, rfl, rfl, r3.r, ixn18 (by omega), hM _ _ ?_⟩
        rw [ePV]
        exact ⟨R3, _, rfl, r3.set trivial, .inl (by rw [List.length_set]; omega), by rw [List.length_set]; omega⟩
      rintro σ G4 h4
      rw [ePV] at h4
      obtain ⟨R4, x4, rfl, r4, a4, c4⟩ := h4
      refine seq_mid PV (fun M hM => ?_) ?_
      · refine ⟨_, rfl, rfl, _, rfl, ite2 (fun e => ?_) (fun _ => hM _ _ (by rw [ePV]; exact ⟨R4, x4, rfl, r4, a4, c4⟩))⟩
        have e := of_decide_eq_true e
        have e : way = 3 := V.int.inj e
        refine ⟨_, rfl, b, rfl, r4.n.bg bs, fun v G5 kv y5 => ?_⟩
        have r5 := r4.on bs y5
        refine ⟨_, rfl, _, rfl, R4, _, _, a, rfl, rfl, r5.r, ixn18 (by omega), hM _ _ ?_⟩
        rw [ePV]
        exact ⟨R4, _, rfl, r5.set kv, .inl (by rw [List.length_set]; omega), by rw [List.length_set]; omega⟩
      rintro σ G5 h5
      rw [ePV] at h5
      obtain ⟨R5, x5, rfl, r5, a5, c5⟩ := h5
      refine seq_mid PV (fun M hM => ?_) ?_
      · refine ⟨_, rfl, rfl, _, rfl, ite2 (fun e => ?_) (fun _ => hM _ _ (by rw [ePV]; exact ⟨R5, x5, rfl, r5, a5, c5⟩))⟩
        have e := of_decide_eq_true e
        have e : way = 4 := V.int.inj e
        refine ⟨_, rfl, _, rfl, _, rfl, R5, _, rfl, SqL.of r5.r, fun l hl => hM _ _ ?_⟩
        have cl := cutV_le x5 none (some (a : Int))
        rw [ePV]
        exact ⟨l, _, rfl, Rw.new bs r5.n hl (fun x hx => r5.k x (cutV_mem hx)) (by omega), .inr e, by omega⟩
      rintro σ G6 h6
      rw [ePV] at h6
      obtain ⟨R6, x6, rfl, r6, a6, c6⟩ := h6
      refine seq_mid (fun σ G => ∃ R xs, σ = [some (.ref b), some (.ref x), some (.ref p), some (.ref q), some (.int ((0 : Int) + i)), some (.ref R), v6, some (.int (a : Nat)), some (.int way), v9] ∧ Rw K Hs G b R xs ∧ (lo.length ≤ xs.length ∨ way = 4)) (fun M hM => ?_) ?_
      · refine ⟨_, rfl, rfl, _, rfl, ite2 (fun e => ?_) (fun _ => hM _ _ ⟨R6, x6, rfl, r6, a6⟩)⟩
        have e := of_decide_eq_true e
        have e : way = 5 := V.int.inj e
        refine ⟨_, rfl, .inl ⟨rfl, _, SqL.of r6.r⟩, _, rfl, b, rfl, r6.n.bg bs, fun c G7 c0 c1 y7 => ?_⟩
        have r7 := r6.on bs y7
        refine ⟨R6, x6, .int c, rfl, rfl, r7.r, line_lt (by omega), hM _ _ ⟨R6, _, rfl, r7.put (fun y hy => ?_) (by rw [List.length_append]; show x6.length + 1 ≤ 41; omega), .inl (by rw [List.length_append]; omega)⟩⟩
        rcases List.mem_append.mp hy with z | z
        · exact r7.k y z
        · rw [List.mem_singleton.mp z]; trivial
      rintro σ G7 ⟨R7, x7, rfl, r7, a7⟩
      refine ⟨_, rfl, R7, _, rfl, .inl ⟨SqL.of r7.r, fun t ht => ?_⟩⟩
      have st := Same.new (o := .tup x7) ht
      obtain ⟨G8, e8⟩ : ∃ G8, G8 = upd G7 t (.tup x7) := ⟨_, rfl⟩
      rw [← e8] at st
      have ht8 : G8 t = some (.tup x7) := by rw [e8, upd_same]
      have r8 := r7.on bs (Nx.of st)
      show gName 9 (.ref t) _ (upd G7 t (.tup x7)) _
      rw [← e8]
      dsimp only [gName]
      have prow : ∀ (G : Hp) (u : Addr) (xs : List V), G u = some (.tup xs) → xs.length ≤ 41 → (∀ y ∈ xs, Known K G y) → PrA K G (some xs) (.ref u) := fun G u xs h l k => ⟨⟨u, rfl, h⟩, by omega, k⟩
      -- the probe: what it is
      refine seq_mid (fun σ G => ∃ R xs v, σ = [some (.ref b), some (.ref x), some (.ref p), some (.ref q), some (.int ((0 : Int) + i)), some (.ref R), v6, some (.int (a : Nat)), some (.int way), some v] ∧ Rw K Hs G b R xs ∧ ∃ o, PrA K G o v) (fun M hM => ?_) ?_
      · have stay : M [some (.ref b), some (.ref x), some (.ref p), some (.ref q), some (.int ((0 : Int) + i)), some (.ref R7), v6, some (.int (a : Nat)), some (.int way), some (.ref t)] G8 := hM _ _ ⟨R7, x7, .ref t, rfl, r8, some x7, prow G8 t x7 ht8 r8.l r8.k⟩
        refine ⟨_, rfl, rfl, _, rfl, ite2 (fun e => ?_) (fun _ => stay)⟩
        have e := of_decide_eq_true e
        have e : way = 7 := V.int.inj e
        refine ⟨_, rfl, R7, _, rfl, .inl (SqL.of r8.r), _, _, rfl, rfl, _, rfl, ite2 (fun _ => ?_) (fun _ => stay)⟩
        have hx : a < x7.length := by omega
        refine ⟨by show 2 ≤ sizeLine; decide, fun l hl => ?_⟩
        have s9 := Same.new (o := .lst [.bl true, .int 1]) hl
        have hl9 : upd G8 l (.lst [.bl true, .int 1]) l = some (.lst [.bl true, .int 1]) := upd_same
        have r9 := r8.on bs (Nx.of s9)
        generalize upd G8 l (.lst [.bl true, .int 1]) = G9 at s9 hl9 r9
        have store : ∀ v : V, leafV v = true → ∃ T1 : True, Rw K Hs (upd G9 R7 (.lst (x7.set a v))) b R7 (x7.set a v) := fun v hv => ⟨trivial, r9.set (leaf_known hv)⟩
        have last : ∀ v : V, leafV v = true → ∀ u, upd G9 R7 (.lst (x7.set a v)) u = none → M [some (.ref b), some (.ref x), some (.ref p), some (.ref q), some (.int ((0 : Int) + i)), some (.ref R7), v6, some (.int (a : Nat)), some (.int way), some (.ref u)] (upd (upd G9 R7 (.lst (x7.set a v))) u (.tup (x7.set a v))) := fun v hv u hu => by
          obtain ⟨_, rs⟩ := store v hv
          have su := Same.new (o := .tup (x7.set a v)) hu
          have rs2 := rs.on bs (Nx.of su)
          exact hM _ _ ⟨R7, _, .ref u, rfl, rs2, some _, prow _ u _ upd_same rs2.l rs2.k⟩
        refine ⟨_, rfl, _, rfl, p, _, _, _, rfl, rfl, (at_p G9 r9.n).1, (at_p G9 r9.n).2, _, _, rfl, rfl, _, rfl, ite2 (fun _ => ?_) (fun _ => ?_)⟩
        · exact .inr ⟨true, rfl, l, _, _, _, rfl, rfl, SqL.of hl9, atI_nat (j := 1) rfl, _, rfl, _, rfl, R7, _, _, a, rfl, rfl, r9.r, ixn18 hx, _, rfl, R7, _, rfl, .inl ⟨SqL.of upd_same, last (.int 1) rfl⟩⟩
        · refine ⟨_, rfl, _, rfl, q, _, _, _, rfl, rfl, (at_q G9 r9.n).1, (at_q G9 r9.n).2, _, _, rfl, rfl, .inr ⟨_, rfl, ?_⟩⟩
          cases decide (hi.getD a 0 < 1) with
          | true => exact ⟨l, _, _, _, rfl, rfl, SqL.of hl9, atI_nat (j := 1) rfl, _, rfl, _, rfl, R7, _, _, a, rfl, rfl, r9.r, ixn18 hx, _, rfl, R7, _, rfl, .inl ⟨SqL.of upd_same, last (.int 1) rfl⟩⟩
          | false => exact ⟨l, _, _, _, rfl, rfl, SqL.of hl9, atI_nat (j := 0) rfl, _, rfl, _, rfl, R7, _, _, a, rfl, rfl, r9.r, ixn18 hx, _, rfl, R7, _, rfl, .inl ⟨SqL.of upd_same, last (.bl true) rfl⟩⟩
      rintro σ G9 ⟨R9, x9, v, rfl, r9, o, po⟩
      refine seq_mid (fun σ G => ∃ R v, σ = [some (.ref b), some (.ref x), some (.ref p), some (.ref q), some (.int ((0 : Int) + i)), some (.ref R), v6, some (.int (a : Nat)), some (.int way), some v] ∧ Nx b Hs G ∧ ∃ o, PrA K G o v) (fun M hM => ?_) ?_
      · refine ⟨_, rfl, rfl, _, rfl, ite2 (fun e => ?_) (fun _ => hM _ _ ⟨R9, v, rfl, r9.n, o, po⟩)⟩
        refine ⟨_, rfl, R9, _, rfl, .inl (SqL.of r9.r), fun l hl => ⟨_, rfl, by show 6 ≤ sizeLine; decide, fun m hm => ?_⟩⟩
        have t1 := Same.new (o := .lst x9) hl
        have t2 := Same.new (o := .lst [.ref l, .non, .int 7, .str "7", .bl true, .ref x]) hm
        have hl1 : upd G9 l (.lst x9) l = some (.lst x9) := upd_same
        have hm2 := upd_same (H := upd G9 l (.lst x9)) (a := m) (o := .lst [.ref l, .non, .int 7, .str "7", .bl true, .ref x])
        have b9 := r9.n.bg bs
        refine ⟨_, rfl, b, _, rfl, b9.same (t1.trans t2), by decide, by decide, fun d G10 d0 d1 y10 => ?_⟩
        have n10 := r9.n.trans ((Nx.of (t1.trans t2)).trans y10)
        have hl10 := y10.1 _ _ (t2 _ _ hl1) (b9.ne hl)
        have hm10 := y10.1 _ _ hm2 ((b9.same t1).ne hm)
        have WG := Ws.on n10
        obtain ⟨k, rfl, hk⟩ := int_nat18 d0 (show d < (6 : Nat) from d1)
        have kn : ∀ z : V, Known K G10 z → isTup G10 z = false → PrA K G10 none z := fun z kz e => by
          have y := kz.tu
          rw [e] at y
          exact y
        match k, hk with
        | 0, _ => exact ⟨m, _, _, _, rfl, rfl, SqL.of hm10, atI_nat (j := 0) rfl, hM _ _ ⟨R9, _, rfl, n10, none, kn _ (.inr ⟨_, hl10⟩) (by simp only [isTup, hl10])⟩⟩
        | 1, _ => exact ⟨m, _, _, _, rfl, rfl, SqL.of hm10, atI_nat (j := 1) rfl, hM _ _ ⟨R9, _, rfl, n10, none, kn _ trivial rfl⟩⟩
        | 2, _ => exact ⟨m, _, _, _, rfl, rfl, SqL.of hm10, atI_nat (j := 2) rfl, hM _ _ ⟨R9, _, rfl, n10, none, kn _ trivial rfl⟩⟩
        | 3, _ => exact ⟨m, _, _, _, rfl, rfl, SqL.of hm10, atI_nat (j := 3) rfl, hM _ _ ⟨R9, _, rfl, n10, none, kn _ trivial rfl⟩⟩
        | 4, _ => exact ⟨m, _, _, _, rfl, rfl, SqL.of hm10, atI_nat (j := 4) rfl, hM _ _ ⟨R9, _, rfl, n10, none, kn _ trivial rfl⟩⟩
        | 5, _ =>
          obtain ⟨a1, b1, bv, _⟩ := WG.bx
          exact ⟨m, _, _, _, rfl, rfl, SqL.of hm10, atI_nat (j := 5) rfl, hM _ _ ⟨R9, _, rfl, n10, none, _, TI.own TB.cl bv, TI.tu⟩⟩
      rintro σ G10 ⟨R10, v, rfl, n10, o, po⟩
      have WG := Ws.on n10
      obtain ⟨a1, b1, ⟨dx, hx⟩, ha1, hb1⟩ := id WG.bx
      have pon : ∀ {G G2 : Hp}, Same G G2 → PrA K G o v → PrA K G2 o v := fun {G G2} s h => by
        cases o with
        | some xs =>
          obtain ⟨⟨u, e, h1⟩, l, k⟩ := h
          exact ⟨⟨u, e, s _ _ h1⟩, l, fun y hy => (k y hy).same s⟩
        | none => exact IsTu.same h s
      refine ⟨_, rfl, _, rfl, x, dx, _, rfl, hx, x, v, o, lo, hi, rfl, WG.bx, ok, po, fun G11 s11 => ⟨_, rfl, ?_⟩⟩
      have W11 := WG.on (Nx.of s11)
      refine ⟨_, rfl, _, rfl, _, rfl, v, o, p, q, lo, hi, rfl, pon s11 po, W11.hp, W11.hq, ok, rfl, _, rfl, ?_⟩
      rw [show (!decide (V.bl (false ^^ inO o lo hi) = V.bl (inO o lo hi))) = false by simp]
      refine iteF ?_
      have hx11 := s11 _ _ hx
      refine ⟨_, rfl, _, rfl, x, dx, _, rfl, hx11, x, v, o, lo, hi, rfl, W11.bx, ok, pon s11 po, fun G12 s12 => ⟨_, rfl, ?_⟩⟩
      have W12 := W11.on (Nx.of s12)
      refine ⟨_, rfl, _, rfl, _, rfl, v, o, p, q, lo, hi, rfl, pon s12 (pon s11 po), W12.hp, W12.hq, ok, rfl, _, rfl, ?_⟩
      rw [show decide (V.bl (true ^^ inO o lo hi) = V.bl (inO o lo hi)) = false by cases inO o lo hi <;> decide]
      exact iteF ⟨_, _, _, _, _, _, rfl, xs0.trans (n10.trans (Nx.of (s11.trans s12)))⟩
end
end WC

set_option maxHeartbeats 8000000
namespace WC
open PySem PySem.Spec PyProof.Rows L2
theorem mx2_comm (i j : Int) : mx2 i j = mx2 j i := by unfold mx2; split <;> split <;> omega
theorem mn2_comm (i j : Int) : mn2 i j = mn2 j i := by unfold mn2; split <;> split <;> omega
theorem zw_comm {f : Int → Int → Int} (h : ∀ i j, f i j = f j i) : ∀ a b : List Int, List.zipWith f a b = List.zipWith f b a
  | [], [] => rfl
  | [], _ :: _ => rfl
  | _ :: _, [] => rfl
  | a :: as, b :: bs => by rw [List.zipWith_cons_cons, List.zipWith_cons_cons, h, zw_comm h as bs]
theorem mkb_get {K : PySem.W.Frag} {H1 : Hp} {BX CB x dx : Addr} {v1 v2 : V} {lo hi : List Int} {R : VK} {E : XK} (r1 : RowA K H1 (some (lo.map V.int)) v1) (r2 : RowA K H1 (some (hi.map V.int)) v2) (ok : BxOk lo hi) (hx : H1 x = none) (hd : H1 dx = none) (hne : dx ≠ x) (k : ∀ H2, Same H1 H2 → BoxV H2 x BX v1 v2 → R .non H2) : spBoxI K BX CB [.ref x, v1, v2] (upd (upd H1 dx (.own x)) x (.ins BX dx [])) R E := by
  have s1 : Same H1 (upd (upd H1 dx (.own x)) x (.ins BX dx [])) := fun b o e => by
    rw [upd_ne (ne_of_none e hx), upd_ne (ne_of_none e hd)]
    exact e
  refine ⟨x, dx, v1, v2, _, _, rfl, upd_same, r1.same s1, r2.same s1, fun f H2 l b => k H2 (fun c o e => l _ _ (s1 _ _ e) (ne_of_none e hx)) b, fun p f => ?_⟩
  rw [fault_ok ok] at f
  cases f
/-- the mate's rows -/
structure M18 (Hs G : Hp) (b rl la lb : Addr) (lo2 hi2 : List Int) : Prop where
  n : Nx b Hs G
  r : G rl = some (.lst [.ref la, .ref lb])
  a : G la = some (.lst (lo2.map V.int))
  c : G lb = some (.lst (hi2.map V.int))
  rb : rl ≠ b
  ab : la ≠ b
  cb : lb ≠ b
theorem M18.on {Hs G G2 : Hp} {b rl la lb : Addr} {lo2 hi2 : List Int} (m : M18 Hs G b rl la lb lo2 hi2) (x : Nx b G G2) : M18 Hs G2 b rl la lb lo2 hi2 := ⟨m.n.trans x, x.1 _ _ m.r m.rb, x.1 _ _ m.a m.ab, x.1 _ _ m.c m.cb, m.rb, m.ab, m.cb⟩
section
variable {P : Program} {w : World} {K : PySem.W.Frag} {mg : Str → Option Value} {base : Heap}
theorem ok_pairs18 {f BX CB fe : Addr} {fd fde : FuncData} {pe : List Str} (F : Fun K "_law_pairs" "_law_pairs" s_law_pairs f fd) (B : Blt mg) (ZB : BoxK K mg BX) (TB : BoxC K BX) (TI : BoxI K BX) (TE : EqO K BX fe) (nf : PySem.W.notFirst K BX (.ref BX) = true) (FE : FnOk P w K mg base (L2.CX P w) 2 fe fde pe (spEqBx K BX)) (bE : Binds K fde pe []) (DB : ClsR P w K mg base BX 4 (spBoxI K BX CB))
    (g_law_take : DefR P w K mg base "_law_take" 1 spTk) (g_law_counter : DefR P w K mg base "_law_counter" 2 spCtr) (g_law_same : DefR P w K mg base "_law_same" 4 (spSm 2)) (g_law_has : DefR P w K mg base "_law_has" 5 (spHas BX)) (g_law_common : DefR P w K mg base "_law_common" 7 (spComm BX)) : FnOk P w K mg base (L2.CX P w) 8 f fd ["bag", "box", "bottoms", "roofs"] (spW K BX) := by
  refine F.okX sc_law_pairs (fun vs H Q E h => ?_) (fun cdv A outer s H vs Q E hr h => ?_)
  · obtain ⟨b, x, p, q, lo, hi, rfl, _⟩ := h
    rfl
  · obtain ⟨b, x, p, q, lo, hi, rfl, W, ok, fin⟩ := h
    have n1 := ok.n1
    have n40 := ok.n40
    have le := ok.len
    -- slots: 0 bag*, 1 box, 2 bottoms*, 3 roofs*, 4 rows*, 5 way, 6 row, 7 at, 8 k, 9 mate, 10 alike, 11 lowest, 12 highest, 13 told, 14 size, 15 other
    refine ⟨_, (pss_cons (ps_set (i := 4) sc_law_pairs.nd rfl (Or.inr rfl) (pe_lst (pa_cons (pe_callTy (T := "list") call_list_of (by rfl) B.list bt_list (pa_cons (pv 2) pa_nil)) (pa_cons (pe_callTy (T := "list") call_list_of (by rfl) B.list bt_list (pa_cons (pv 3) pa_nil)) pa_nil))))
      (pss_cons (ps_set (i := 5) sc_law_pairs.nd rfl (Or.inl rfl) (pe_cd g_law_take hr psE (pa_cons (pv 0) (pa_cons pe_int pa_nil))))
      (pss_cons (ps_if (pt_cmpR op_eq (pv 5) pe_int (nomark _)) (pss_cons (ps_set (i := 6) sc_law_pairs.nd rfl (Or.inl rfl) (pe_ix ix_list (pv 4) (pe_cd g_law_take hr psE (pa_cons (pv 0) (pa_cons pe_int pa_nil))) (fun _ _ => rfl)))
      (pss_cons (ps_set (i := 7) sc_law_pairs.nd rfl (Or.inl rfl) (pe_cd g_law_take hr psE (pa_cons (pv 0) (pa_cons (pe_callB call_len_seq (by rfl) B.len bt_len (pa_cons (pv 6) pa_nil)) pa_nil))))
      (pss_one (ps_asg (pe_op op_modN (pe_callTy (T := "int") call_int1 (by rfl) B.int bt_int (pa_cons (pe_op op_add (pe_op op_add (pe_ix ix_list (pv 6) (pv 7) (fun _ _ => rfl)) pe_int) (pe_cd g_law_take hr psE (pa_cons (pv 0) (pa_cons pe_int pa_nil)))) pa_nil)) pe_int) (pg_sub (pv 6) (pv 7) set_list))))) pss_nil)
      (pss_cons (ps_if (pt_cmpR op_eq (pv 5) pe_int (nomark _)) (pss_one (ps_set (i := 4) sc_law_pairs.nd rfl (Or.inr rfl) (pe_lst (pa_cons (pe_lc (own := [("k", 8)]) rfl sc_law_pairs.nd (pi_list (pv 2)) (blkOk_by (N := nn_law_pairs) (sc := defScope s_law_pairs) (own := [("k", 8)]) (by decide +kernel)) (fun _ _ _ _ _ => (pg_name (i := 8) sc_law_pairs.nd rfl (Or.inl rfl))) (fun _ _ _ _ _ => pts_nil) (fun _ _ _ _ _ => (pe_cd g_law_counter (by exact hr) passL (pa_cons (pv 0) pa_nil)))) (pa_cons (pe_lc (own := [("k", 8)]) rfl sc_law_pairs.nd (pi_list (pv 2)) (blkOk_by (N := nn_law_pairs) (sc := defScope s_law_pairs) (own := [("k", 8)]) (by decide +kernel)) (fun _ _ _ _ _ => (pg_name (i := 8) sc_law_pairs.nd rfl (Or.inl rfl))) (fun _ _ _ _ _ => pts_nil) (fun _ _ _ _ _ => (pe_cd g_law_counter (by exact hr) passL (pa_cons (pv 0) pa_nil)))) pa_nil))))) pss_nil)
      (pss_cons (ps_set (i := 9) sc_law_pairs.nd rfl (Or.inl rfl) (pe_cc DB ZB.gB hr psE (pa_cons (pe_callTy (T := "tuple") (c_tup (K := K)) (by rfl) B.tuple bt_tuple (pa_cons (pe_ix ix_list (pv 4) pe_int (fun _ _ => rfl)) pa_nil)) (pa_cons (pe_callTy (T := "tuple") (c_tup (K := K)) (by rfl) B.tuple bt_tuple (pa_cons (pe_ix ix_list (pv 4) pe_int (fun _ _ => rfl)) pa_nil)) pa_nil))))
      (pss_cons (ps_set (i := 10) sc_law_pairs.nd rfl (Or.inl rfl) (pe_and (pe_cmpR (op_eqD (unR hr)) (pe_ix ix_list (pv 4) pe_int (fun _ _ => rfl)) (pe_callTy (T := "list") call_list_of (by rfl) B.list bt_list (pa_cons (pv 2) pa_nil)) (nomark _)) (pe_one (pe_cmpR (op_eqD (unR hr)) (pe_ix ix_list (pv 4) pe_int (fun _ _ => rfl)) (pe_callTy (T := "list") call_list_of (by rfl) B.list bt_list (pa_cons (pv 3) pa_nil)) (nomark _)))))
      (pss_cons (ps_if (PW.pt (pw_or (pt_cmpR op_ne (pe_cmpR (op_eqO TE FE bE (hr.mono (by decide))) (pv 1) (pv 9) (nomark _)) (pv 10) (nomark _)) (pw_or (pt_cmpR op_ne (pe_cmpR (op_eqO TE FE bE (hr.mono (by decide))) (pv 9) (pv 1) (nomark _)) (pv 10) (nomark _)) (pw_or1 (pt_cmpR op_eq (pe_cmpR (op_neO TE FE bE (hr.mono (by decide))) (pv 1) (pv 9) (nomark _)) (pv 10) (nomark _)))))) (pss_one (ps_ret pe_bl)) pss_nil)
      (pss_cons (ps_setLc (i := 11) (own := [("k", 8)]) rfl sc_law_pairs.nd rfl rfl (sw_true rfl rfl rfl (by decide +kernel)) (pi_range1 (by rfl) B.range (pa_cons (pe_callB call_len_seq (by rfl) B.len bt_len (pa_cons (pv 2) pa_nil)) pa_nil)) (blkOk_by (N := nn_law_pairs) (sc := defScope s_law_pairs) (own := [("k", 8)]) (by decide +kernel)) (fun _ _ _ _ _ => (pg_name (i := 8) sc_law_pairs.nd rfl (Or.inl rfl))) (fun _ _ _ _ _ => pts_nil) (fun _ _ _ _ _ => (pe_callB (call_max2 rfl) (by rfl) B.max boot_max (pa_cons (pe_ix (i_lst (K := K)) (pv 2) (pv 8) (fun _ _ => rfl)) (pa_cons (pe_ix (i_lst (K := K)) (pe_ix (i_lst (K := K)) (pv 4) pe_int (fun _ _ => rfl)) (pv 8) (fun _ _ => rfl)) pa_nil)))))
      (pss_cons (ps_setLc (i := 12) (own := [("k", 8)]) rfl sc_law_pairs.nd rfl rfl (sw_true rfl rfl rfl (by decide +kernel)) (pi_range1 (by rfl) B.range (pa_cons (pe_callB call_len_seq (by rfl) B.len bt_len (pa_cons (pv 2) pa_nil)) pa_nil)) (blkOk_by (N := nn_law_pairs) (sc := defScope s_law_pairs) (own := [("k", 8)]) (by decide +kernel)) (fun _ _ _ _ _ => (pg_name (i := 8) sc_law_pairs.nd rfl (Or.inl rfl))) (fun _ _ _ _ _ => pts_nil) (fun _ _ _ _ _ => (pe_callB (call_min2 rfl) (by rfl) B.min boot_min (pa_cons (pe_ix (i_lst (K := K)) (pv 3) (pv 8) (fun _ _ => rfl)) (pa_cons (pe_ix (i_lst (K := K)) (pe_ix (i_lst (K := K)) (pv 4) pe_int (fun _ _ => rfl)) (pv 8) (fun _ _ => rfl)) pa_nil)))))
      (pss_cons (ps_for (passes_of rfl) rfl (pi_tup (pe_tup (pa_cons (pe_cd g_law_common hr psE (pa_cons (pv 1) (pa_cons (pv 9) pa_nil))) (pa_cons (pe_cd g_law_common hr psE (pa_cons (pv 9) (pa_cons (pv 1) pa_nil))) pa_nil)))) (pg_name (i := 13) sc_law_pairs.nd rfl (Or.inl rfl))
        (pss_one (ps_if (PW.pt (pw_or (pt_cmpR op_ne (pe_ix ix_tup (pv 13) pe_int (fun _ _ => rfl)) pe_int (nomark _)) (pw_or1 (pt_not (pt_val (pe_cd g_law_has hr psE (pa_cons (pe_ix ix_tup (pv 13) pe_int (fun _ _ => rfl)) (pa_cons (pv 11) (pa_cons (pv 12) pa_nil))))))))) (pss_one (ps_ret pe_bl)) pss_nil)))
      (pss_cons (ps_if (PW.pt (pw_or (pt_not (pt_val (pe_cd g_law_has hr psE (pa_cons (pv 9) (pa_cons (pe_ix ix_list (pv 4) pe_int (fun _ _ => rfl)) (pa_cons (pe_ix ix_list (pv 4) pe_int (fun _ _ => rfl)) pa_nil)))))) (pw_or1 (pt_not (pt_val (pe_cd g_law_has hr psE (pa_cons (pv 1) (pa_cons (pv 2) (pa_cons (pv 3) pa_nil))))))))) (pss_one (ps_ret pe_bl)) pss_nil)
      (pss_cons (ps_set (i := 14) sc_law_pairs.nd rfl (Or.inl rfl) (pe_op op_add pe_int (pe_op op_modN (pe_callTy (T := "int") call_int1 (by rfl) B.int bt_int (pa_cons (pe_op op_add (pe_callB call_len_seq (by rfl) B.len bt_len (pa_cons (pv 2) pa_nil)) (pe_cd g_law_take hr psE (pa_cons (pv 0) (pa_cons pe_int pa_nil)))) pa_nil)) pe_int)))
      (pss_cons (ps_set (i := 15) sc_law_pairs.nd rfl (Or.inl rfl) (pe_cc DB ZB.gB hr psE (pa_cons (pe_callTy (T := "tuple") (c_tup (K := K)) (by rfl) B.tuple bt_tuple (pa_cons (pe_op op_rep (pe_lst (pa_cons pe_int pa_nil)) (pv 14)) pa_nil)) (pa_cons (pe_callTy (T := "tuple") (c_tup (K := K)) (by rfl) B.tuple bt_tuple (pa_cons (pe_op op_rep (pe_lst (pa_cons pe_int pa_nil)) (pv 14)) pa_nil)) pa_nil))))
      (pss_cons (ps_if (PW.pt (pw_or (pt_cmpR (op_eqO TE FE bE (hr.mono (by decide))) (pv 1) (pv 15) (nomark _)) (pw_or1 (pt_cmpR (op_eqO TE FE bE (hr.mono (by decide))) (pv 15) (pv 1) (nomark _))))) (pss_one (ps_ret pe_bl)) pss_nil)
      (pss_cons (ps_set (i := 13) sc_law_pairs.nd rfl (Or.inl rfl) (pe_tup (pa_cons (pe_cd g_law_common hr psE (pa_cons (pv 1) (pa_cons (pv 15) pa_nil))) (pa_cons (pe_cd g_law_common hr psE (pa_cons (pv 15) (pa_cons (pv 1) pa_nil))) pa_nil))))
      (pss_one (ps_ret (pe_cd g_law_same hr psE (pa_cons (pv 13) (pa_cons (pe_tup (pa_cons (pe_tup (pa_cons pe_int (pa_cons pe_non (pa_cons pe_bl pa_nil)))) (pa_cons (pe_tup (pa_cons pe_int (pa_cons pe_non (pa_cons pe_bl pa_nil)))) pa_nil))) pa_nil)))))))))))))))))))), ?_⟩
    refine ⟨_, rfl, p, _, rfl, .inl (SqL.of W.hp), fun la hla => ?_⟩
    have s1 := Same.new (o := .lst (lo.map V.int)) hla
    refine ⟨_, rfl, q, _, rfl, .inl (SqL.of (s1 _ _ W.hq)), fun lb hlb => ⟨by show 2 ≤ sizeLine; decide, fun rl hrl => ?_⟩⟩
    have s2 := Same.new (o := .lst (hi.map V.int)) hlb
    have s3 := Same.new (o := .lst [.ref la, .ref lb]) hrl
    have bg1 := W.bg.same s1
    have bg2 := bg1.same s2
    have m0 : M18 H _ b rl la lb lo hi := ⟨Nx.of (s1.trans (s2.trans s3)), upd_same, (s2.trans s3) _ _ upd_same, s3 _ _ upd_same, bg2.ne hrl, W.bg.ne hla, bg1.ne hlb⟩
    have lalb : la ≠ lb := ne_of_none (upd_same (H := H) (a := la) (o := .lst (lo.map V.int))) hlb
    have rlla : rl ≠ la := (ne_of_none (s2 _ _ (upd_same (H := H) (a := la) (o := .lst (lo.map V.int)))) hrl).symm
    have rllb : rl ≠ lb := (ne_of_none (upd_same (H := upd H la (.lst (lo.map V.int))) (a := lb) (o := .lst (hi.map V.int))) hrl).symm
    have hlaH : H la = none := hla
    have hlbH : H lb = none := Same.free s1 hlb
    generalize upd (upd (upd H la (.lst (lo.map V.int))) lb (.lst (hi.map V.int))) rl (.lst [.ref la, .ref lb]) = G0 at m0
    have b0 := m0.n.bg W.bg
    refine ⟨_, rfl, b, _, rfl, b0, by decide, by decide, fun way G1 w0 w1 y1 => ?_⟩
    have m1 := m0.on y1
    have W1 := W.on m1.n
    dsimp only [gName]
    refine seq_mid (fun σ G => ∃ rl la lb lo2 hi2 v6 v7, σ = [some (.ref b), some (.ref x), some (.ref p), some (.ref q), some (.ref rl), some (.int way), v6, v7, none, none, none, none, none, none, none, none] ∧ M18 H G b rl la lb lo2 hi2 ∧ BxOk lo2 hi2 ∧ lo2.length = lo.length) (fun M hM => ?_) ?_
    · refine ⟨_, rfl, rfl, _, rfl, ite2 (fun _ => ?_) (fun _ => hM _ _ ⟨rl, la, lb, lo, hi, _, _, rfl, m1, ok, rfl⟩)⟩
      refine ⟨_, rfl, _, rfl, b, _, rfl, W1.bg, by decide, by decide, fun d G2 d0 d1 y2 => ?_⟩
      have m2 := m1.on y2
      have W2 := W.on m2.n
      -- one counter of a row changed
      have md : ∀ c d : Int, 0 ≤ Int.fmod (c + 1 + d) 1000 ∧ Int.fmod (c + 1 + d) 1000 ≤ 999 := fun c d => by
        obtain ⟨a, e⟩ := mod_rng (c + 1 + d) (m := 1000) (by decide)
        omega
      obtain ⟨k, rfl, hk⟩ := int_nat18 d0 (show d < (2 : Nat) from d1)
      match k, hk with
      | 0, _ =>
        refine ⟨rl, _, _, _, rfl, rfl, SqL.of m2.r, atI_nat (j := 0) rfl, ?_⟩
        refine ⟨_, rfl, _, rfl, la, _, rfl, .inl (SqL.of m2.a), b, _, rfl, W2.bg, by rw [List.length_map]; omega, by rw [List.length_map]; omega, fun e G3 e0 e1 y3 => ?_⟩
        have m3 := m2.on y3
        obtain ⟨a, rfl, ha⟩ := int_nat18 e0 e1
        rw [List.length_map] at ha
        refine ⟨_, rfl, _, rfl, la, _, _, _, rfl, rfl, SqL.of m3.a, atI_nat (at_int ha), _, _, rfl, rfl, _, rfl, b, _, rfl, m3.n.bg W.bg, by decide, by decide, fun g G4 g0 g1 y4 => ?_⟩
        have m4 := m3.on y4
        refine ⟨_, _, rfl, rfl, .inl ⟨_, rfl, _, _, rfl, rfl, (by show (_ : Int) ≠ 0; decide), _, rfl, _, rfl, la, _, _, a, rfl, rfl, m4.a, ixn18 (by rw [List.length_map]; exact ha), hM _ _ ⟨rl, la, lb, lo.set a (Int.fmod (lo.getD a 0 + 1 + g) 1000), hi, _, _, rfl, ?_, ?_, by rw [List.length_set]⟩⟩⟩
        · have e9 : upd G4 la (.lst ((lo.map V.int).set a (.int (Int.fmod (lo.getD a 0 + 1 + g) 1000)))) = upd G4 la (.lst ((lo.set a (Int.fmod (lo.getD a 0 + 1 + g) 1000)).map V.int)) := by rw [List.map_set]
          rw [e9]
          exact ⟨m4.n.put hlaH, by rw [upd_ne rlla]; exact m4.r, upd_same, by rw [upd_ne (Ne.symm lalb)]; exact m4.c, m4.rb, m4.ab, m4.cb⟩
        · exact ⟨by rw [List.length_set]; exact le, by rw [List.length_set]; exact n1, by rw [List.length_set]; exact n40, set_in ok.lo0 (md _ _), ok.hi0⟩
      | 1, _ =>
        refine ⟨rl, _, _, _, rfl, rfl, SqL.of m2.r, atI_nat (j := 1) rfl, ?_⟩
        refine ⟨_, rfl, _, rfl, lb, _, rfl, .inl (SqL.of m2.c), b, _, rfl, W2.bg, by rw [List.length_map]; omega, by rw [List.length_map]; omega, fun e G3 e0 e1 y3 => ?_⟩
        have m3 := m2.on y3
        obtain ⟨a, rfl, ha⟩ := int_nat18 e0 e1
        rw [List.length_map] at ha
        refine ⟨_, rfl, _, rfl, lb, _, _, _, rfl, rfl, SqL.of m3.c, atI_nat (at_int ha), _, _, rfl, rfl, _, rfl, b, _, rfl, m3.n.bg W.bg, by decide, by decide, fun g G4 g0 g1 y4 => ?_⟩
        have m4 := m3.on y4
        refine ⟨_, _, rfl, rfl, .inl ⟨_, rfl, _, _, rfl, rfl, (by show (_ : Int) ≠ 0; decide), _, rfl, _, rfl, lb, _, _, a, rfl, rfl, m4.c, ixn18 (by rw [List.length_map]; exact ha), hM _ _ ⟨rl, la, lb, lo, hi.set a (Int.fmod (hi.getD a 0 + 1 + g) 1000), _, _, rfl, ?_, ?_, rfl⟩⟩⟩
        · have e9 : upd G4 lb (.lst ((hi.map V.int).set a (.int (Int.fmod (hi.getD a 0 + 1 + g) 1000)))) = upd G4 lb (.lst ((hi.set a (Int.fmod (hi.getD a 0 + 1 + g) 1000)).map V.int)) := by rw [List.map_set]
          rw [e9]
          exact ⟨m4.n.put hlbH, by rw [upd_ne rllb]; exact m4.r, by rw [upd_ne lalb]; exact m4.a, upd_same, m4.rb, m4.ab, m4.cb⟩
        · exact ⟨by rw [List.length_set]; exact le, n1, n40, ok.lo0, set_in ok.hi0 (md _ _)⟩
    rintro σ G2 ⟨rl, la, lb, lo2, hi2, v6, v7, rfl, m2, ok2, l2⟩
    refine seq_mid (fun σ G => ∃ rl la lb lo2 hi2 v6 v7, σ = [some (.ref b), some (.ref x), some (.ref p), some (.ref q), some (.ref rl), some (.int way), v6, v7, none, none, none, none, none, none, none, none] ∧ M18 H G b rl la lb lo2 hi2 ∧ BxOk lo2 hi2 ∧ lo2.length = lo.length) (fun M hM => ?_) ?_
    · refine ⟨_, rfl, rfl, _, rfl, ite2 (fun _ => ?_) (fun _ => hM _ _ ⟨rl, la, lb, lo2, hi2, _, _, rfl, m2, ok2, l2⟩)⟩
      have W2 := W.on m2.n
      refine ⟨_, rfl, p, rfl, ⟨_, SqL.of W2.hp⟩, fun D hD => ?_⟩
      have Db := W2.bg.ne hD
      refine lc_list (K := K) (a := p) (xs := lo.map V.int) (fun i G => Nx b G2 G ∧ ∃ ys : List Int, G D = some (.lst (ys.map V.int)) ∧ ys.length = i ∧ ∀ c ∈ ys, 0 ≤ c ∧ c ≤ 999) ⟨Nx.of (Same.new hD), [], upd_same, rfl, fun c hc => by cases hc⟩ (fun i G _ z => SqL.of (W2.on z.1).hp) ?_ ?_
      · rintro i y G hy ⟨nx, ys, hd, ly, ry⟩
        have il : i < lo.length := by have := (List.getElem?_eq_some_iff.mp hy).1; rw [List.length_map] at this; exact this
        refine ⟨rfl, yes ⟨_, rfl, b, rfl, (W2.on nx).bg, fun c G4 c0 c1 y4 => ⟨_, y4.1 _ _ hd Db, by rw [List.length_map, ly]; exact line_lt (by omega), (nx.trans y4).put hD, ys ++ [c], ?_, by rw [List.length_append, ly]; rfl, fun e he => ?_⟩⟩⟩
        · rw [upd_same, List.map_append]; rfl
        · rcases List.mem_append.mp he with z | z
          · exact ry e z
          · rw [List.mem_singleton.mp z]; exact ⟨c0, c1⟩
      · rintro G ⟨nx, ys, hd, ly, ry⟩
        have WG := W2.on nx
        refine ⟨_, rfl, p, rfl, ⟨_, SqL.of WG.hp⟩, fun D2 hD2 => ?_⟩
        have Db2 := WG.bg.ne hD2
        refine lc_list (K := K) (a := p) (xs := lo.map V.int) (fun i G' => Nx b G G' ∧ ∃ ys : List Int, G' D2 = some (.lst (ys.map V.int)) ∧ ys.length = i ∧ ∀ c ∈ ys, 0 ≤ c ∧ c ≤ 999) ⟨Nx.of (Same.new hD2), [], upd_same, rfl, fun c hc => by cases hc⟩ (fun i G' _ z => SqL.of (WG.on z.1).hp) ?_ ?_
        · rintro i y G3 hy ⟨nx3, ys3, hd3, ly3, ry3⟩
          have il : i < lo.length := by have := (List.getElem?_eq_some_iff.mp hy).1; rw [List.length_map] at this; exact this
          refine ⟨rfl, yes ⟨_, rfl, b, rfl, (WG.on nx3).bg, fun c G4 c0 c1 y4 => ⟨_, y4.1 _ _ hd3 Db2, by rw [List.length_map, ly3]; exact line_lt (by omega), (nx3.trans y4).put hD2, ys3 ++ [c], ?_, by rw [List.length_append, ly3]; rfl, fun e he => ?_⟩⟩⟩
          · rw [upd_same, List.map_append]; rfl
          · rcases List.mem_append.mp he with z | z
            · exact ry3 e z
            · rw [List.mem_singleton.mp z]; exact ⟨c0, c1⟩
        · rintro G3 ⟨nx3, ys3, hd3, ly3, ry3⟩
          rw [List.length_map] at ly ly3
          refine ⟨by show 2 ≤ sizeLine; decide, fun r2 hr2 => hM _ _ ⟨r2, D, D2, ys, ys3, _, _, rfl, ?_, ⟨by omega, by omega, by omega, ry, ry3⟩, ly⟩⟩
          have s9 := Same.new (o := .lst [.ref D, .ref D2]) hr2
          exact ⟨m2.n.trans (nx.trans (nx3.trans (Nx.of s9))), upd_same, s9 _ _ (nx3.1 _ _ hd Db), s9 _ _ hd3, ((WG.on nx3).bg).ne hr2, Db, Db2⟩
    rintro σ G3 ⟨rl, la, lb, lo2, hi2, v6, v7, rfl, m3, ok2, l2⟩
    have W3 := W.on m3.n
    have n2 := ok2.n40
    have n3 := ok2.m40
    have le2 := ok2.len
    refine ⟨_, rfl, rl, _, _, _, rfl, rfl, SqL.of m3.r, atI_nat (j := 0) rfl, la, _, rfl, .inl ⟨SqL.of m3.a, fun ta hta => ?_⟩⟩
    have s4 := Same.new (o := .tup (lo2.map V.int)) hta
    have m4 := m3.on (Nx.of s4)
    refine ⟨_, rfl, rl, _, _, _, rfl, rfl, SqL.of m4.r, atI_nat (j := 1) rfl, lb, _, rfl, .inl ⟨SqL.of m4.c, fun tb htb => ?_⟩⟩
    have s5 := Same.new (o := .tup (hi2.map V.int)) htb
    have ta5 := s5 _ _ (upd_same (H := G3) (a := ta) (o := .tup (lo2.map V.int)))
    have tb5 := upd_same (H := upd G3 ta (.tup (lo2.map V.int))) (a := tb) (o := .tup (hi2.map V.int))
    intro y dy hy hdy hne
    refine mkb_get (row_ints ta5 (by omega)) (row_ints tb5 (by omega)) ok2 hy hdy hne fun G6 s6 bv => ⟨rfl, ?_⟩
    have s36 := s4.trans (s5.trans s6)
    have m6 := m3.on (Nx.of s36)
    have W6 := W.on m6.n
    have by6 : BoxR G6 y BX lo2 hi2 := ⟨ta, tb, bv, s6 _ _ ta5, s6 _ _ tb5⟩
    dsimp only [gName]
    refine seq_mid (fun σ G => σ = [some (.ref b), some (.ref x), some (.ref p), some (.ref q), some (.ref rl), some (.int way), v6, v7, none, some (.ref y), some (.bl (decide (lo2 = lo) && decide (hi2 = hi))), none, none, none, none, none] ∧ Same G6 G) (fun M hM => ?_) ?_
    · refine ⟨_, rfl, rl, _, _, _, rfl, rfl, SqL.of m6.r, atI_nat (j := 0) rfl, _, rfl, p, _, rfl, .inl (SqL.of W6.hp), fun l hl => ?_⟩
      have s7 := Same.new (o := .lst (lo.map V.int)) hl
      have l7 := upd_same (H := G6) (a := l) (o := .lst (lo.map V.int))
      have m7 := m6.on (Nx.of s7)
      have W7 := W6.on (Nx.of s7)
      refine ⟨.list (lo2.map PyData.int), .list (lo.map PyData.int), .lst (SqL.of m7.a) (dp_ints lo2), .lst (SqL.of l7) (dp_ints lo), shaped_ints lo2, shaped_ints lo, _, rfl, ?_⟩
      rw [show PyData.eqv (.list (lo2.map PyData.int)) (.list (lo.map PyData.int)) = decide (lo2 = lo) from by simp only [PyData.eqv, eqv_ints]]
      by_cases e : lo2 = lo
      · rw [decide_eq_true e, Bool.true_and] at hM
        rw [decide_eq_true e]
        refine iteT ⟨_, rfl, rl, _, _, _, rfl, rfl, SqL.of m7.r, atI_nat (j := 1) rfl, _, rfl, q, _, rfl, .inl (SqL.of W7.hq), fun l2' hl2 => ?_⟩
        have s8 := Same.new (o := .lst (hi.map V.int)) hl2
        refine ⟨.list (hi2.map PyData.int), .list (hi.map PyData.int), .lst (SqL.of (s8 _ _ m7.c)) (dp_ints hi2), .lst (SqL.of upd_same) (dp_ints hi), shaped_ints hi2, shaped_ints hi, ?_⟩
        rw [show PyData.eqv (.list (hi2.map PyData.int)) (.list (hi.map PyData.int)) = decide (hi2 = hi) from by simp only [PyData.eqv, eqv_ints]]
        exact hM _ _ ⟨rfl, s7.trans s8⟩
      · rw [decide_eq_false e, Bool.false_and] at hM
        rw [decide_eq_false e]
        exact iteF (hM _ _ ⟨rfl, s7⟩)
    rintro σ G7 ⟨rfl, s7⟩
    have m7 := m6.on (Nx.of s7)
    have W7 := W.on m7.n
    have by7 := by6.same s7
    obtain ⟨xa, xb, ⟨dx, hx⟩, hxa, hxb⟩ := id W7.bx
    obtain ⟨ya, yb, ⟨dy2, hy2⟩, hya, hyb⟩ := id by7
    have besX : BesideV K BX G7 (.ref x) := .inl ⟨x, BX, dx, _, rfl, hx, nf⟩
    have besY : BesideV K BX G7 (.ref y) := .inl ⟨y, BX, dy2, _, rfl, hy2, nf⟩
    have al2 : (decide (lo = lo2) && decide (hi = hi2)) = (decide (lo2 = lo) && decide (hi2 = hi)) := by
      rw [decide_eq_decide.mpr (eq_comm (a := lo) (b := lo2)), decide_eq_decide.mpr (eq_comm (a := hi) (b := hi2))]
    generalize hal : (decide (lo2 = lo) && decide (hi2 = hi)) = al at *
    refine seq_mid (fun σ G => σ = [some (.ref b), some (.ref x), some (.ref p), some (.ref q), some (.ref rl), some (.int way), v6, v7, none, some (.ref y), some (.bl al), none, none, none, none, none] ∧ G = G7) (fun M hM => ?_) ?_
    · refine ⟨_, rfl, _, rfl, x, dx, _, rfl, hx, besY, x, _, lo, hi, rfl, W7.bx, .inr ⟨y, lo2, hi2, rfl, by7, _, rfl, ?_⟩⟩
      rw [al2]
      refine ⟨_, rfl, rfl, _, rfl, ?_⟩
      rw [show (!decide (V.bl (false ^^ al) = V.bl al)) = false by simp]
      refine iteF ⟨_, rfl, _, rfl, y, dy2, _, rfl, hy2, besX, y, _, lo2, hi2, rfl, by7, .inr ⟨x, lo, hi, rfl, W7.bx, _, rfl, ?_⟩⟩
      rw [hal]
      refine ⟨_, rfl, rfl, _, rfl, ?_⟩
      rw [show (!decide (V.bl (false ^^ al) = V.bl al)) = false by simp]
      refine iteF ⟨_, rfl, _, rfl, x, dx, _, rfl, hx, besY, x, _, lo, hi, rfl, W7.bx, .inr ⟨y, lo2, hi2, rfl, by7, _, rfl, ?_⟩⟩
      rw [al2]
      refine ⟨_, rfl, rfl, _, rfl, ?_⟩
      rw [show decide (V.bl (true ^^ al) = V.bl al) = false by cases al <;> decide]
      exact iteF (hM _ _ ⟨rfl, rfl⟩)
    rintro σ G7' ⟨rfl, rfl⟩
    have lp : ((lo.map V.int).length : Int) = (lo.length : Int) := by rw [List.length_map]
    refine ⟨_, rfl, p, _, rfl, .inl (SqL.of W7.hp), _, rfl, by omega, by omega, fun D hD => ?_⟩
    refine lc_range (lo := 0) (n := (lo.map V.int).length) (fun i G => Same G7' G ∧ G D = some (.lst (((List.zipWith mx2 lo lo2).take i).map V.int))) ⟨Same.new hD, by rw [upd_same]; rfl⟩ ?_ ?_
    · rintro i G hi3 ⟨sg, hd⟩
      rw [List.length_map] at hi3
      have WG := W7.on (Nx.of sg)
      have mG := m7.on (Nx.of sg)
      have z1 : (List.zipWith mx2 lo lo2)[i]? = some (mx2 (lo.getD i 0) (lo2.getD i 0)) := zw_at (by rw [List.getD_eq_getElem?_getD, List.getElem?_eq_getElem hi3]; rfl) (by rw [List.getD_eq_getElem?_getD, List.getElem?_eq_getElem (show i < lo2.length by omega)]; rfl)
      have ap : atI (lo.map V.int) ((0 : Int) + i) = some (.int (lo.getD i 0)) := by rw [Int.zero_add]; exact atI_nat (at_int hi3)
      have aq : atI (lo2.map V.int) ((0 : Int) + i) = some (.int (lo2.getD i 0)) := by rw [Int.zero_add]; exact atI_nat (at_int (by omega))
      refine ⟨rfl, yes ⟨_, rfl, _, rfl, p, _, _, _, rfl, rfl, SqL.of WG.hp, ap, _, rfl, rl, _, _, _, rfl, rfl, SqL.of mG.r, atI_nat (j := 0) rfl, _, rfl, la, _, _, _, rfl, rfl, SqL.of mG.a, aq, _, _, rfl, _, hd, ?_, Same.newer sg hD, ?_⟩⟩
      · rw [List.length_map, List.length_take]; exact line_lt (by omega)
      · rw [upd_same, show (V.int (if lo2.getD i 0 > lo.getD i 0 then lo2.getD i 0 else lo.getD i 0)) = V.int (mx2 (lo.getD i 0) (lo2.getD i 0)) from rfl, snocI z1]
    rintro G8 ⟨s8, hd8⟩
    have e8 : (List.zipWith mx2 lo lo2).take (lo.map V.int).length = List.zipWith mx2 lo lo2 := List.take_of_length_le (by rw [List.length_zipWith, List.length_map]; omega)
    rw [e8] at hd8
    have W8 := W7.on (Nx.of s8)
    refine ⟨_, rfl, p, _, rfl, .inl (SqL.of W8.hp), _, rfl, by omega, by omega, fun D2 hD2 => ?_⟩
    refine lc_range (lo := 0) (n := (lo.map V.int).length) (fun i G => Same G8 G ∧ G D2 = some (.lst (((List.zipWith mn2 hi hi2).take i).map V.int))) ⟨Same.new hD2, by rw [upd_same]; rfl⟩ ?_ ?_
    · rintro i G hi3 ⟨sg, hd⟩
      rw [List.length_map] at hi3
      have WG := W8.on (Nx.of sg)
      have mG := m7.on (Nx.of (s8.trans sg))
      have z1 : (List.zipWith mn2 hi hi2)[i]? = some (mn2 (hi.getD i 0) (hi2.getD i 0)) := zw_at (by rw [List.getD_eq_getElem?_getD, List.getElem?_eq_getElem (show i < hi.length by omega)]; rfl) (by rw [List.getD_eq_getElem?_getD, List.getElem?_eq_getElem (show i < hi2.length by omega)]; rfl)
      have ap : atI (hi.map V.int) ((0 : Int) + i) = some (.int (hi.getD i 0)) := by rw [Int.zero_add]; exact atI_nat (at_int (by omega))
      have aq : atI (hi2.map V.int) ((0 : Int) + i) = some (.int (hi2.getD i 0)) := by rw [Int.zero_add]; exact atI_nat (at_int (by omega))
      refine ⟨rfl, yes ⟨_, rfl, _, rfl, q, _, _, _, rfl, rfl, SqL.of WG.hq, ap, _, rfl, rl, _, _, _, rfl, rfl, SqL.of mG.r, atI_nat (j := 1) rfl, _, rfl, lb, _, _, _, rfl, rfl, SqL.of mG.c, aq, _, _, rfl, _, hd, ?_, Same.newer sg hD2, ?_⟩⟩
      · rw [List.length_map, List.length_take]; exact line_lt (by omega)
      · rw [upd_same, show (V.int (if hi2.getD i 0 < hi.getD i 0 then hi2.getD i 0 else hi.getD i 0)) = V.int (mn2 (hi.getD i 0) (hi2.getD i 0)) from rfl, snocI z1]
    rintro G9 ⟨s9, hd9⟩
    have e9 : (List.zipWith mn2 hi hi2).take (lo.map V.int).length = List.zipWith mn2 hi hi2 := List.take_of_length_le (by rw [List.length_zipWith, List.length_map]; omega)
    rw [e9] at hd9
    have hd89 := s9 _ _ hd8
    have s79 := s8.trans s9
    have by9 := by7.same s79
    have W9 := W7.on (Nx.of s79)
    have okm := ok.meet ok2 l2.symm
    refine ⟨_, rfl, _, rfl, x, y, lo, hi, lo2, hi2, rfl, W9.bx, ok, by9, ok2, fun ne => absurd l2.symm ne, fun _ r1 z1 G10 s10 bz1 hr1 => ?_⟩
    refine ⟨_, rfl, _, rfl, y, x, lo2, hi2, lo, hi, rfl, by9.same s10, ok2, W9.bx.same s10, ok, fun ne => absurd l2 ne, fun _ r2 z2 G11 s11 bz2 hr2 => ?_⟩
    rw [zw_comm mx2_comm lo2 lo, zw_comm mn2_comm hi2 hi] at bz2
    refine ⟨by show 2 ≤ sizeLine; decide, fun T hT => ?_⟩
    have sT := Same.new (o := .tup [.ref r1, .ref r2]) hT
    have hTT := upd_same (H := G11) (a := T) (o := .tup [.ref r1, .ref r2])
    generalize upd G11 T (.tup [.ref r1, .ref r2]) = G12 at sT hTT
    have told : ∀ z, z = V.ref r1 ∨ z = V.ref r2 → ∃ r zz, z = .ref r ∧ G12 r = some (.tup (tok zz)) ∧ BoxR G12 zz BX (List.zipWith mx2 lo lo2) (List.zipWith mn2 hi hi2) := fun z hz => by
      rcases hz with rfl | rfl
      · exact ⟨r1, z1, rfl, sT _ _ (s11 _ _ hr1), (bz1.same s11).same sT⟩
      · exact ⟨r2, z2, rfl, sT _ _ hr2, bz2.same sT⟩
    have sD := s10.trans (s11.trans sT)
    refine ⟨T, rfl, ⟨_, SqT.of hTT⟩, for_it (walk_tup (xs := [.ref r1, .ref r2])) (fun i σ G => ∃ v8 v13, σ = [some (.ref b), some (.ref x), some (.ref p), some (.ref q), some (.ref rl), some (.int way), v6, v7, v8, some (.ref y), some (.bl al), some (.ref D), some (.ref D2), v13, none, none] ∧ Same G12 G) ⟨_, _, rfl, Same.refl G12⟩ ?_ ?_ ?_⟩
    · rintro i σ G _ ⟨_, _, _, sg⟩
      exact SqT.of (sg _ _ hTT)
    · rintro i z σ G G' hi3 ⟨v8, v13, rfl, sg⟩ ⟨rfl, hz⟩
      have hz2 : z = V.ref r1 ∨ z = V.ref r2 := by
        match i, hi3, hz with
        | 0, _, hz => cases hz; exact .inl rfl
        | 1, _, hz => cases hz; exact .inr rfl
      obtain ⟨r, zz, rfl, hr, bzz⟩ := told z hz2
      have hrG := sg _ _ hr
      refine ⟨_, rfl, r, _, _, _, rfl, rfl, SqT.of hrG, atI_nat (j := 0) rfl, rfl, _, rfl, iteF ?_⟩
      refine ⟨_, rfl, r, _, _, _, rfl, rfl, SqT.of hrG, atI_nat (j := 1) rfl, _, rfl, _, rfl, zz, .ref D, .ref D2, _, _, rfl, bzz.same sg, ⟨D, rfl, .inr (sg _ _ (sD _ _ hd89))⟩, ⟨D2, rfl, .inr (sg _ _ (sD _ _ hd9))⟩, okm, fun G14 s14 => ⟨_, rfl, iteF ⟨_, _, rfl, sg.trans s14⟩⟩⟩
    rintro σ GA ⟨v8, v13, rfl, sA0⟩
    have sA := sD.trans sA0
    have s7A := s79.trans sA
    have mA := m7.on (Nx.of s7A)
    have WA := W7.on (Nx.of s7A)
    have byA := by7.same s7A
    refine ⟨_, rfl, _, rfl, rl, _, _, _, rfl, rfl, SqL.of mA.r, atI_nat (j := 0) rfl, _, rfl, rl, _, _, _, rfl, rfl, SqL.of mA.r, atI_nat (j := 1) rfl, y, .ref la, .ref lb, lo2, hi2, rfl, byA, ⟨la, rfl, .inr mA.a⟩, ⟨lb, rfl, .inr mA.c⟩, ok2, fun GB sB => ⟨_, rfl, iteF ?_⟩⟩
    have WB := WA.on (Nx.of sB)
    refine ⟨_, rfl, _, rfl, _, rfl, x, .ref p, .ref q, lo, hi, rfl, WB.bx, ⟨p, rfl, .inr WB.hp⟩, ⟨q, rfl, .inr WB.hq⟩, ok, fun GC sC => ⟨_, rfl, iteF ?_⟩⟩
    have WC' := WB.on (Nx.of sC)
    have nC : Nx b H GC := m7.n.trans (Nx.of (s7A.trans (sB.trans sC)))
    refine ⟨_, rfl, p, _, rfl, .inl (SqL.of WC'.hp), _, rfl, b, _, rfl, WC'.bg, by decide, by decide, fun d GD d0 d1 yD => ⟨_, _, rfl, rfl, .inl ⟨_, rfl, _, _, rfl, rfl, (by show (_ : Int) ≠ 0; decide), _, _, rfl, rfl, ?_⟩⟩⟩
    have WD := WC'.on yD
    obtain ⟨m, em, m1, m40, mne⟩ : ∃ m : Nat, (1 : Int) + Int.fmod (((lo.map V.int).length : Nat) + d) 40 = m ∧ 1 ≤ m ∧ m ≤ 40 ∧ m ≠ lo.length := by
      rw [List.length_map, Int.fmod_eq_emod_of_nonneg _ (by decide)]
      refine ⟨(1 + ((lo.length : Int) + d) % 40).toNat, ?_, ?_, ?_, ?_⟩ <;> omega
    show gName 14 (.int ((1 : Int) + Int.fmod (((lo.map V.int).length : Nat) + d) 40)) _ _ _
    rw [em]
    dsimp only [gName]
    refine ⟨by show 1 ≤ sizeLine; decide, fun p1 hp1 => ⟨_, rfl, p1, _, [.int 0], rfl, rfl, upd_same, by omega, by omega, by show 1 * _ ≤ _; refine line_of ?_; omega, fun p2 hp2 => ⟨p2, _, rfl, .inl ⟨SqL.of upd_same, fun q1 hq1 => ?_⟩⟩⟩⟩
    have u2 := Same.new (o := .lst [.int 0]) hp1
    have u3 := Same.new (o := .lst (List.replicate (m : Int).toNat [V.int 0]).flatten) hp2
    have u4 := Same.new (o := .tup (List.replicate (m : Int).toNat [V.int 0]).flatten) hq1
    refine ⟨by show 1 ≤ sizeLine; decide, fun p3 hp3 => ⟨_, rfl, p3, _, [.int 999], rfl, rfl, upd_same, by omega, by omega, by show 1 * _ ≤ _; refine line_of ?_; omega, fun p4 hp4 => ⟨p4, _, rfl, .inl ⟨SqL.of upd_same, fun q2 hq2 => ?_⟩⟩⟩⟩
    have u5 := Same.new (o := .lst [.int 999]) hp3
    have u6 := Same.new (o := .lst (List.replicate (m : Int).toNat [V.int 999]).flatten) hp4
    have u7 := Same.new (o := .tup (List.replicate (m : Int).toNat [V.int 999]).flatten) hq2
    have uu := u2.trans (u3.trans (u4.trans (u5.trans (u6.trans u7))))
    have tq1 := (u5.trans (u6.trans u7)) _ _ (upd_same (H := upd (upd GD p1 (.lst [.int 0])) p2 (.lst (List.replicate (m : Int).toNat [V.int 0]).flatten)) (a := q1) (o := .tup (List.replicate (m : Int).toNat [V.int 0]).flatten))
    have tq2 := upd_same (H := upd (upd (upd (upd (upd GD p1 (.lst [.int 0])) p2 (.lst (List.replicate (m : Int).toNat [V.int 0]).flatten)) q1 (.tup (List.replicate (m : Int).toNat [V.int 0]).flatten)) p3 (.lst [.int 999])) p4 (.lst (List.replicate (m : Int).toNat [V.int 999]).flatten)) (a := q2) (o := .tup (List.replicate (m : Int).toNat [V.int 999]).flatten)
    generalize upd (upd (upd (upd (upd (upd GD p1 (.lst [.int 0])) p2 (.lst (List.replicate (m : Int).toNat [V.int 0]).flatten)) q1 (.tup (List.replicate (m : Int).toNat [V.int 0]).flatten)) p3 (.lst [.int 999])) p4 (.lst (List.replicate (m : Int).toNat [V.int 999]).flatten)) q2 (.tup (List.replicate (m : Int).toNat [V.int 999]).flatten) = GE at uu tq1 tq2
    rw [rep_flat] at tq1 tq2
    have okm2 : BxOk (List.replicate m 0) (List.replicate m 999) := ⟨by simp, by simp; exact m1, by simp; exact m40, fun c hc => by rw [(List.mem_replicate.mp hc).2]; decide, fun c hc => by rw [(List.mem_replicate.mp hc).2]; decide⟩
    intro z dz hz hdz hnez
    refine mkb_get (row_ints tq1 (by simp; omega)) (row_ints tq2 (by simp; omega)) okm2 hz hdz hnez fun GF sF bvF => ⟨rfl, ?_⟩
    have bz : BoxR GF z BX (List.replicate m 0) (List.replicate m 999) := ⟨q1, q2, bvF, sF _ _ tq1, sF _ _ tq2⟩
    have WF := WD.on (Nx.of (uu.trans sF))
    obtain ⟨fa, fb, ⟨dxF, hxF⟩, _⟩ := id WF.bx
    obtain ⟨ga, gb, ⟨dzF, hzF⟩, _⟩ := id bz
    have ne1 : lo ≠ List.replicate m 0 := fun e => mne (by rw [e, List.length_replicate])
    refine ⟨_, rfl, _, rfl, x, dxF, _, rfl, hxF, .inl ⟨z, BX, dzF, _, rfl, hzF, nf⟩, x, _, lo, hi, rfl, WF.bx, .inr ⟨z, _, _, rfl, bz, _, rfl, ?_⟩⟩
    rw [decide_eq_false ne1]
    refine ⟨_, rfl, iteF ?_⟩
    refine ⟨_, rfl, _, rfl, z, dzF, _, rfl, hzF, .inl ⟨x, BX, dxF, _, rfl, hxF, nf⟩, z, _, _, _, rfl, bz, .inr ⟨x, lo, hi, rfl, WF.bx, _, rfl, ?_⟩⟩
    rw [decide_eq_false (Ne.symm ne1)]
    refine ⟨_, rfl, iteF ?_⟩
    have lne : lo.length ≠ (List.replicate m (0 : Int)).length := by rw [List.length_replicate]; exact Ne.symm mne
    refine ⟨_, rfl, _, rfl, x, z, lo, hi, _, _, rfl, WF.bx, ok, bz, okm2, fun _ r1 GG sG hr1 => ?_, fun e => absurd e lne⟩
    refine ⟨_, rfl, _, rfl, z, x, _, _, lo, hi, rfl, bz.same sG, okm2, WF.bx.same sG, ok, fun _ r2 GH sH hr2 => ?_, fun e => absurd e.symm lne⟩
    refine ⟨by show 2 ≤ sizeLine; decide, fun t ht => ?_⟩
    have v1 := Same.new (o := .tup [.ref r1, .ref r2]) ht
    refine ⟨_, rfl, by show 3 ≤ sizeLine; decide, fun t1 ht1 => ⟨by show 3 ≤ sizeLine; decide, fun t2 ht2 => ⟨by show 2 ≤ sizeLine; decide, fun t3 ht3 => ?_⟩⟩⟩
    have v2 := Same.new (o := .tup [.int 1, .non, .bl true]) ht1
    have v3 := Same.new (o := .tup [.int 1, .non, .bl true]) ht2
    have v4 := Same.new (o := .tup [.ref t1, .ref t2]) ht3
    have g1' := (v1.trans (v2.trans (v3.trans v4))) _ _ (sH _ _ hr1)
    have g2' := (v1.trans (v2.trans (v3.trans v4))) _ _ hr2
    have g3' := (v3.trans v4) _ _ (upd_same (H := upd GH t (.tup [.ref r1, .ref r2])) (a := t1) (o := .tup [.int 1, .non, .bl true]))
    have g4' := v4 _ _ (upd_same (H := upd (upd GH t (.tup [.ref r1, .ref r2])) t1 (.tup [.int 1, .non, .bl true])) (a := t2) (o := .tup [.int 1, .non, .bl true]))
    have g5' := (v2.trans (v3.trans v4)) _ _ (upd_same (H := GH) (a := t) (o := .tup [.ref r1, .ref r2]))
    refine ⟨_, _, rfl, .tup g5' upd_same rfl (by show 2 ≤ 1000; decide) fun i a c e1 e2 => ?_, fun GZ sZ => fin GZ (nC.trans (yD.trans (Nx.of (uu.trans (sF.trans (sG.trans (sH.trans (v1.trans (v2.trans (v3.trans (v4.trans sZ)))))))))))⟩
    match i, e1, e2 with
    | 0, e1, e2 => cases e1; cases e2; exact tno_eq (d := 0) g1' g3' .non
    | 1, e1, e2 => cases e1; cases e2; exact tno_eq (d := 0) g2' g4' .non
    | i + 2, e1, _ => simp at e1
end
end WC

set_option maxHeartbeats 8000000
namespace WC
open PySem PySem.Spec PyProof.Rows L2
theorem opr_or {X : Cx} {f : Value → Value → Sem Value} {r r' : R2} (h : OpR X f r) (h' : OpR X f r') : OpR X f (fun x y H Q => r x y H Q ∨ r' x y H Q) := fun pins s σ H x y v u Q I rx ry q => q.elim (h pins s σ H x y v u Q I rx ry) (h' pins s σ H x y v u Q I rx ry)
theorem bt_bool18 : bootBuiltins "bool" = some (.type "bool") := by decide +kernel
structure PipeF (K : PySem.W.Frag) (CP BX N : Addr) : Prop where
  cl : Cls K CP
  ha : PySem.W.findIn K (.ref CP) "__class__" = some (some (.builtin "object.__class__"))
  hm : PySem.W.mroIn K CP (.type "object") = some true
  nB : PySem.W.kitOne K (.ref CP) (.ref BX) = some false
  bN : PySem.W.kitOne K (.ref BX) (.ref N) = some false
  nf1 : PySem.W.notFirst K BX (.ref CP) = true
  nf2 : PySem.W.notFirst K CP (.ref BX) = true
def spEqNo (K : PySem.W.Frag) (N : Addr) : Sp := fun vs H Q _ => ∃ x v T, vs = [.ref x, v] ∧ TyX K H v T ∧ PySem.W.kitOne K T (.ref N) = some false ∧ Q (.bl false) H
/-- a strange value: of a built-in type, no bool, or a pipeline -/
def Strange (K : PySem.W.Frag) (CP : Addr) (H : Hp) (v : V) : Prop := (Known K H v ∧ ∀ c, v ≠ .bl c) ∨ ∃ x n cs, v = .ref x ∧ NetAt H x CP n cs
theorem Strange.on {K : PySem.W.Frag} {CP b : Addr} {H H2 : Hp} {v : V} (s : Strange K CP H v) (hb : Bg H b) (n : Nx b H H2) : (Known K H2 v ∧ ∀ c, v ≠ .bl c) ∨ ∃ x dx fs, v = .ref x ∧ H2 x = some (.ins CP dx fs) := by
  rcases s with ⟨k, e⟩ | ⟨x, m, cs, e, NA⟩
  · exact .inl ⟨n.known hb k, e⟩
  · obtain ⟨dx, tc, ti, to, vs, hx, _⟩ := NA.ex
    obtain ⟨us, eb⟩ := hb.lst
    exact .inr ⟨x, dx, _, e, n.1 _ _ hx (ne_of hx eb (by intro z; cases z))⟩
section
variable {P : Program} {w : World} {K : PySem.W.Frag} {mg : Str → Option Value} {base : Heap}
theorem ok_Net_eqNo {f N : Addr} {fd : FuncData} (F : Fun K "__eq__" "Net.__eq__" s_Net_eq f fd) (B : Blt mg) (Z : NetK K mg N) : FnOk P w K mg base (L2.CX P w) 1 f fd ["self", "other"] (spEqNo K N) := by
  refine F.okX sc_Net_eq (fun vs H Q E h => ?_) (fun cdv A outer s H vs Q E hr h => ?_)
  · obtain ⟨x, v, T, rfl, _⟩ := h
    rfl
  · obtain ⟨x, v, T, rfl, ty, kt, q⟩ := h
    refine ⟨_, (pss_one (ps_ret (pe_and (pe_callB call_isi (by rfl) B.isi bt_isi (pa_cons (pv 1) (pa_cons (pe_glob (v := .ref N) (by rfl) Z.gN rfl) pa_nil))) (pe_and (pe_cmpR op_eq (pe_fld (pv 0) rfl) (pe_fld (pv 1) rfl) (nomark _)) (pe_one (pe_cmpR op_eq (pe_fld (pv 0) rfl) (pe_fld (pv 1) rfl) (nomark _))))))), ?_⟩
    exact ⟨_, rfl, _, _, _, _, _, rfl, .own _, ty, kt, _, rfl, iteF q⟩
theorem ok_others18 {f BX CP N fe fn fb : Addr} {fd fde fdn fdb : FuncData} {pe pn pb : List Str} (F : Fun K "_law_others" "_law_others" s_law_others f fd) (B : Blt mg) (ZB : BoxK K mg BX) (TB : BoxC K BX) (TI : BoxI K BX) (PF : PipeF K CP BX N) (TE : EqO K BX fe) (FE : FnOk P w K mg base (L2.CX P w) 2 fe fde pe (spEqBx K BX)) (bE : Binds K fde pe [])
    (TE2 : EqO K CP fn) (FE2 : FnOk P w K mg base (L2.CX P w) 1 fn fdn pn (spEqNo K N)) (bE2 : Binds K fdn pn []) (OB : OwnM K BX "__bool__" fb) (FB : FnOk P w K mg base (L2.CX P w) 1 fb fdb pb (spBoo BX)) (bB : Binds K fdb pb []) (gP : mg "Pipeline" = some (.ref CP)) (DP : ClsR P w K mg base CP 4 (spPipe CP))
    (g_law_take : DefR P w K mg base "_law_take" 1 spTk) (g_law_same : DefR P w K mg base "_law_same" 4 (spSm 2)) : FnOk P w K mg base (L2.CX P w) 6 f fd ["bag", "box", "bottoms", "roofs"] (spW K BX) := by
  refine F.okX sc_law_others (fun vs H Q E h => ?_) (fun cdv A outer s H vs Q E hr h => ?_)
  · obtain ⟨b, x, p, q, lo, hi, rfl, _⟩ := h
    rfl
  · obtain ⟨b, x, p, q, lo, hi, rfl, W, ok, fin⟩ := h
    have n1 := ok.n1
    have n40 := ok.n40
    have le := ok.len
    obtain ⟨bc, br, ⟨cw1, d1⟩, ⟨cw2, d2⟩⟩ := ZB.cr
    -- slots: 0 bag, 1 box, 2 bottoms, 3 roofs, 4 strange, 5 one, 6 full, 7 k
    refine ⟨_, (pss_cons (ps_set (i := 4) sc_law_others.nd rfl (Or.inl rfl) (pe_lst (pa_cons pe_non (pa_cons (pe_tup (pa_cons (pe_callTy (T := "tuple") (c_tup (K := K)) (by rfl) B.tuple bt_tuple (pa_cons (pv 2) pa_nil)) (pa_cons (pe_callTy (T := "tuple") (c_tup (K := K)) (by rfl) B.tuple bt_tuple (pa_cons (pv 3) pa_nil)) pa_nil))) (pa_cons pe_int (pa_cons pe_str (pa_cons (pe_cc DP gP hr psE (pa_cons (pe_callB call_len_seq (by rfl) B.len bt_len (pa_cons (pv 2) pa_nil)) pa_nil)) (pa_cons (pe_lst (pa_cons (pe_callTy (T := "tuple") (c_tup (K := K)) (by rfl) B.tuple bt_tuple (pa_cons (pv 2) pa_nil)) pa_nil)) pa_nil))))))))
      (pss_cons (ps_set (i := 5) sc_law_others.nd rfl (Or.inl rfl) (pe_ix ix_list (pv 4) (pe_cd g_law_take hr psE (pa_cons (pv 0) (pa_cons pe_int pa_nil))) (fun _ _ => rfl)))
      (pss_cons (ps_if (PW.pt (pw_or (pt_cmpR (op_eqO TE FE bE (hr.mono (by decide))) (pv 1) (pv 5) (nomark _)) (pw_or (pt_cmpR (opr_or (op_eqRv TE FE bE (hr.mono (by decide))) (op_eqO TE2 FE2 bE2 (hr.mono (by decide)))) (pv 5) (pv 1) (nomark _)) (pw_or1 (pt_not (pt_cmpR (op_neO TE FE bE (hr.mono (by decide))) (pv 1) (pv 5) (nomark _))))))) (pss_one (ps_ret pe_bl)) pss_nil)
      (pss_cons (ps_set (i := 6) sc_law_others.nd rfl (Or.inl rfl) pe_bl)
      (pss_cons (ps_for (passes_of rfl) rfl (pi_range1 (by rfl) B.range (pa_cons (pe_callB call_len_seq (by rfl) B.len bt_len (pa_cons (pv 2) pa_nil)) pa_nil)) (pg_name (i := 7) sc_law_others.nd rfl (Or.inl rfl))
        (pss_one (ps_if (pt_cmpR op_gt (pe_ix ix_list (pv 2) (pv 7) (fun _ _ => rfl)) (pe_ix ix_list (pv 3) (pv 7) (fun _ _ => rfl)) (nomark _)) (pss_one (ps_set (i := 6) sc_law_others.nd rfl (Or.inl rfl) pe_bl)) pss_nil)))
      (pss_cons (ps_if (pt_cmpR op_ne (pe_callTy (T := "bool") (call_boolO OB FB bB (hr.mono (by decide))) (by rfl) B.bool bt_bool (pa_cons (pv 1) pa_nil)) (pv 6) (nomark _)) (pss_one (ps_ret pe_bl)) pss_nil)
      (pss_one (ps_ret (pe_cd g_law_same hr psE (pa_cons (pe_tup (pa_cons (ClX.pe_cval (pe_glob (v := .ref BX) (by rfl) ZB.gB rfl)) (pa_cons (ClX.pe_cval (pe_glob (v := .ref BX) (by rfl) ZB.gB rfl)) pa_nil))) (pa_cons (pe_tup (pa_cons pe_int (pa_cons pe_int pa_nil))) pa_nil))))))))))), ?_⟩
    refine ⟨_, rfl, p, _, rfl, .inl ⟨SqL.of W.hp, fun t1 h1 => ?_⟩⟩
    have s1 := Same.new (o := .tup (lo.map V.int)) h1
    refine ⟨_, rfl, q, _, rfl, .inl ⟨SqL.of (s1 _ _ W.hq), fun t2 h2 => ⟨by show 2 ≤ sizeLine; decide, fun t3 h3 => ?_⟩⟩⟩
    have s2 := Same.new (o := .tup (hi.map V.int)) h2
    have s3 := Same.new (o := .tup [.ref t1, .ref t2]) h3
    have k3 := upd_same (H := upd (upd H t1 (.tup (lo.map V.int))) t2 (.tup (hi.map V.int))) (a := t3) (o := .tup [.ref t1, .ref t2])
    have s13 := s1.trans (s2.trans s3)
    generalize upd (upd (upd H t1 (.tup (lo.map V.int))) t2 (.tup (hi.map V.int))) t3 (.tup [.ref t1, .ref t2]) = G3 at k3 s13
    have W3 := W.on (Nx.of s13)
    refine ⟨_, rfl, p, _, rfl, .inl (SqL.of W3.hp), fun y dy hy hdy hne => ?_⟩
    have sy : Same G3 (upd (upd G3 dy (.own y)) y (.ins CP dy [])) := fun c o e => by
      rw [upd_ne (ne_of_none e hy), upd_ne (ne_of_none e hdy)]
      exact e
    refine ⟨y, dy, lo.length, [], [], by rw [List.length_map], upd_same, n1, n40, .nil, (fun c hc => by cases hc), List.Pairwise.nil, ⟨fun _ => 0, fun c hc => by cases hc⟩, by decide, fun G4 cs2 _ _ kp NA => ⟨rfl, ?_⟩⟩
    have s4 : Same G3 G4 := fun c o e => kp _ _ (sy _ _ e) (ne_of_none e hy)
    have W4 := W3.on (Nx.of s4)
    refine ⟨_, rfl, p, _, rfl, .inl ⟨SqL.of W4.hp, fun t5 h5 => ⟨by show 1 ≤ sizeLine; decide, fun t6 h6 => ⟨by show 6 ≤ sizeLine; decide, fun l hl => ?_⟩⟩⟩⟩
    have s5 := Same.new (o := .tup (lo.map V.int)) h5
    have s6 := Same.new (o := .lst [.ref t5]) h6
    have k6 := upd_same (H := upd G4 t5 (.tup (lo.map V.int))) (a := t6) (o := .lst [.ref t5])
    obtain ⟨L6, eL⟩ : ∃ L6 : List V, L6 = [.non, .ref t3, .int 7, .str "box", .ref y, .ref t6] := ⟨_, rfl⟩
    have s7 := Same.new (o := .lst [.non, .ref t3, .int 7, .str "box", .ref y, .ref t6]) hl
    have k7 := upd_same (H := upd (upd G4 t5 (.tup (lo.map V.int))) t6 (.lst [.ref t5])) (a := l) (o := .lst [.non, .ref t3, .int 7, .str "box", .ref y, .ref t6])
    have s47 := s5.trans (s6.trans s7)
    have k67 := s7 _ _ k6
    generalize upd (upd (upd G4 t5 (.tup (lo.map V.int))) t6 (.lst [.ref t5])) l (.lst [.non, .ref t3, .int 7, .str "box", .ref y, .ref t6]) = G7 at k7 s47 k67
    rw [← eL] at k7
    have st : ∀ v ∈ L6, Strange K CP G7 v := fun v hv => by
      rw [eL] at hv
      simp only [List.mem_cons, List.not_mem_nil, or_false] at hv
      rcases hv with e | e | e | e | e | e <;> rw [e]
      · exact .inl ⟨trivial, fun c z => by cases z⟩
      · exact .inl ⟨.inl ⟨_, s47 _ _ (s4 _ _ k3)⟩, fun c z => by cases z⟩
      · exact .inl ⟨trivial, fun c z => by cases z⟩
      · exact .inl ⟨trivial, fun c z => by cases z⟩
      · exact .inr ⟨y, _, _, rfl, NA.same s47⟩
      · exact .inl ⟨.inr ⟨_, k67⟩, fun c z => by cases z⟩
    have W7 := W4.on (Nx.of s47)
    have lb : l ≠ b := (W4.on (Nx.of (s5.trans s6))).bg.ne hl
    refine ⟨_, rfl, _, rfl, b, _, rfl, W7.bg, by decide, by decide, fun d G8 d0 d1' y8 => ?_⟩
    have W8 := W7.on y8
    obtain ⟨k, rfl, hk⟩ := int_nat18 d0 (show d < (6 : Nat) from d1')
    have hl6 : k < L6.length := by rw [eL]; exact hk
    obtain ⟨v, hv⟩ : ∃ v, L6[k]? = some v := ⟨_, List.getElem?_eq_getElem hl6⟩
    have sv := (st v (List.mem_of_getElem? hv)).on W7.bg y8
    refine ⟨l, _, _, v, rfl, rfl, SqL.of (y8.1 _ _ k7 lb), atI_nat hv, ?_⟩
    obtain ⟨xa, xb, bv, hxa, hxb⟩ := id W8.bx
    have tyB := TI.own TB.cl bv
    obtain ⟨dx, hx⟩ := bv
    have isb : IsBx K BX G8 v false := by
      rcases sv with ⟨kv, _⟩ | ⟨y2, dy2, fs2, rfl, hy2⟩
      · exact TI.kit kv
      · exact ⟨_, .base (.ins hy2 PF.cl PF.ha TI.hn TI.htk PF.hm), PF.nB⟩
    have bes : BesideV K BX G8 v := by
      rcases sv with ⟨kv, _⟩ | ⟨y2, dy2, fs2, rfl, hy2⟩
      · exact .inr kv
      · exact .inl ⟨y2, CP, dy2, fs2, rfl, hy2, PF.nf1⟩
    dsimp only [gName]
    refine seq_mid (fun σ G => σ = [some (.ref b), some (.ref x), some (.ref p), some (.ref q), some (.ref l), some v, none, none] ∧ G = G8) (fun M hM => ?_) ?_
    · refine ⟨_, rfl, _, rfl, x, dx, _, rfl, hx, bes, x, v, lo, hi, rfl, W8.bx, .inl ⟨isb, _, rfl, _, rfl, iteF ?_⟩⟩
      have third : ∃ a b' : V, True := ⟨.non, .non, trivial⟩
      rcases sv with ⟨kv, nb⟩ | ⟨y2, dy2, fs2, rfl, hy2⟩
      · refine ⟨_, rfl, _, rfl, .inl ⟨x, dx, _, rfl, hx, kv, nb, x, v, lo, hi, rfl, W8.bx, .inl ⟨isb, _, rfl, _, rfl, iteF ?_⟩⟩⟩
        exact ⟨_, rfl, _, rfl, x, dx, _, rfl, hx, bes, x, v, lo, hi, rfl, W8.bx, .inl ⟨isb, _, rfl, _, rfl, iteF (hM _ _ ⟨rfl, rfl⟩)⟩⟩
      · refine ⟨_, rfl, _, rfl, .inr ⟨y2, dy2, _, rfl, hy2, .inl ⟨x, BX, dx, _, rfl, hx, PF.nf2⟩, y2, _, _, rfl, tyB, PF.bN, _, rfl, _, rfl, iteF ?_⟩⟩
        exact ⟨_, rfl, _, rfl, x, dx, _, rfl, hx, bes, x, _, lo, hi, rfl, W8.bx, .inl ⟨isb, _, rfl, _, rfl, iteF (hM _ _ ⟨rfl, rfl⟩)⟩⟩
    rintro σ G8' ⟨rfl, rfl⟩
    refine ⟨_, rfl, p, _, rfl, .inl (SqL.of W8.hp), _, rfl, by rw [List.length_map]; omega, by rw [List.length_map]; omega, ?_⟩
    refine for_range (lo := 0) (n := (lo.map V.int).length) (fun i σ G => ∃ v7, σ = [some (.ref b), some (.ref x), some (.ref p), some (.ref q), some (.ref l), some v, some (.bl (((bsB lo hi).take i).all id)), v7] ∧ G = G8') ⟨_, rfl, rfl⟩ ?_ ?_
    · rintro i σ G hi3 ⟨v7, rfl, rfl⟩
      rw [List.length_map] at hi3
      have hi4 : i < hi.length := by omega
      have ap : atI (lo.map V.int) ((0 : Int) + i) = some (.int (lo.getD i 0)) := by rw [Int.zero_add]; exact atI_nat (at_int hi3)
      have aq : atI (hi.map V.int) ((0 : Int) + i) = some (.int (hi.getD i 0)) := by rw [Int.zero_add]; exact atI_nat (at_int hi4)
      have bb : (bsB lo hi)[i]? = some (decide (lo.getD i 0 ≤ hi.getD i 0)) := bsB_at (by rw [List.getD_eq_getElem?_getD, List.getElem?_eq_getElem hi3]; rfl) (by rw [List.getD_eq_getElem?_getD, List.getElem?_eq_getElem hi4]; rfl)
      have nx : ((bsB lo hi).take (i + 1)).all id = (((bsB lo hi).take i).all id && decide (lo.getD i 0 ≤ hi.getD i 0)) := by
        rw [take_snoc bb, List.all_append]
        simp
      refine ⟨_, rfl, _, rfl, p, _, _, _, rfl, rfl, SqL.of W8.hp, ap, _, rfl, _, rfl, q, _, _, _, rfl, rfl, SqL.of W8.hq, aq, _, _, rfl, rfl, _, rfl, ite2 (fun e => ?_) (fun e => ?_)⟩
      · have e := of_decide_eq_true e
        refine ⟨some (.int ((0 : Int) + i)), ?_, rfl⟩
        rw [nx, decide_eq_false (by omega), Bool.and_false]
        rfl
      · have e : ¬ hi.getD i 0 < lo.getD i 0 := fun z => e (decide_eq_true z)
        refine ⟨some (.int ((0 : Int) + i)), ?_, rfl⟩
        rw [nx, decide_eq_true (by omega), Bool.and_true]
        rfl
    · rintro σ G ⟨v7, rfl, rfl⟩
      rw [show (bsB lo hi).take (lo.map V.int).length = bsB lo hi from List.take_of_length_le (by unfold bsB; rw [List.length_map, List.length_zip, List.length_map]; omega)]
      refine ⟨_, rfl, x, dx, _, rfl, hx, x, lo, hi, rfl, W8.bx, ok, fun G9 s9 => ⟨_, rfl, ?_⟩⟩
      refine ⟨_, rfl, rfl, _, rfl, ?_⟩
      rw [show (!decide (V.bl ((bsB lo hi).all id) = V.bl ((bsB lo hi).all id))) = false by simp]
      refine iteF ⟨BX, bc, _, cw1, rfl, br, d1, BX, bc, _, cw2, rfl, br, d2, by show 2 ≤ sizeLine; decide, fun t ht => ⟨by show 2 ≤ sizeLine; decide, fun u hu => ?_⟩⟩
      have v1 := Same.new (o := .tup [.int 0, .int 999]) ht
      have v2 := Same.new (o := .tup [.int 0, .int 999]) hu
      refine ⟨_, _, rfl, (eq_ints (lo := [0, 999]) (d := 1) (v2 _ _ upd_same) upd_same (by decide)), fun GZ sZ => fin GZ ((Nx.of s13).trans ((Nx.of s4).trans ((Nx.of s47).trans (y8.trans (Nx.of (s9.trans (v1.trans (v2.trans sZ))))))))⟩
end
end WC

set_option maxHeartbeats 8000000
namespace WC
open PySem PySem.Spec PyProof.Rows L2
def spLaw (K : PySem.W.Frag) : Sp := fun vs H Q _ => ∃ (a : Addr) (ns : List Int), vs = [.ref a] ∧ SqL K H a (ns.map V.int) ∧ ns.length ≤ 63 ∧ ∀ H', Q (.bl true) H'
/-- two rows, held by a list -/
structure R18 (K : PySem.W.Frag) (G : Hp) (b rl la lb : Addr) (lo hi : List Int) : Prop where
  bg : Bg G b
  r : G rl = some (.lst [.ref la, .ref lb])
  a : G la = some (.lst (lo.map V.int))
  c : G lb = some (.lst (hi.map V.int))
  rb : rl ≠ b
  ab : la ≠ b
  cb : lb ≠ b
theorem R18.on {K : PySem.W.Frag} {G G2 : Hp} {b rl la lb : Addr} {lo hi : List Int} (m : R18 K G b rl la lb lo hi) (x : Nx b G G2) : R18 K G2 b rl la lb lo hi := ⟨x.bg m.bg, x.1 _ _ m.r m.rb, x.1 _ _ m.a m.ab, x.1 _ _ m.c m.cb, m.rb, m.ab, m.cb⟩
section
variable {P : Program} {w : World} {K : PySem.W.Frag} {mg : Str → Option Value} {base : Heap}
theorem ok_law18 {f BX : Addr} {fd : FuncData} (F : Fun K "law" "law" s_law f fd) (B : Blt mg) (g_law_bag : DefR P w K mg base "_law_bag" 1 (spBagI K)) (g_law_take : DefR P w K mg base "_law_take" 1 spTk) (g_law_counter : DefR P w K mg base "_law_counter" 2 spCtr) (g_law_spoilt : DefR P w K mg base "_law_spoilt" 3 (spSpo K)) (g_law_built : DefR P w K mg base "_law_built" 6 (spBuilt K BX))
    (g_law_due : DefR P w K mg base "_law_due" 6 (spDue BX)) (g_law_fault : DefR P w K mg base "_law_fault" 3 (spFlt K)) (g_law_has : DefR P w K mg base "_law_has" 5 (spHas BX)) (g_law_makers : DefR P w K mg base "_law_makers" 8 spMk) (g_law_cuts : DefR P w K mg base "_law_cuts" 8 (spW K BX)) (g_law_probes : DefR P w K mg base "_law_probes" 4 (spW K BX)) (g_law_pairs : DefR P w K mg base "_law_pairs" 8 (spW K BX)) (g_law_others : DefR P w K mg base "_law_others" 6 (spW K BX)) : FnOk P w K mg base (L2.CX P w) 9 f fd ["script"] (spLaw K) := by
  refine F.okX sc_law (fun vs H Q E h => ?_) (fun cdv A outer s H vs Q E hr h => ?_)
  · obtain ⟨a, ns, rfl, _⟩ := h
    rfl
  · obtain ⟨a, ns, rfl, ha, hlen, fin⟩ := h
    -- slots: 0 script, 1 bag*, 2 many, 3 rows*, 4 k, 5 lowest, 6 handed, 7 told, 8 box
    refine ⟨_, (pss_cons (ps_set (i := 1) sc_law.nd rfl (Or.inr rfl) (pe_cd g_law_bag hr psE (pa_cons (pv 0) pa_nil)))
      (pss_cons (ps_set (i := 2) sc_law.nd rfl (Or.inl rfl) (pe_ix ix_list (pe_lst (pa_cons pe_int (pa_cons pe_int (pa_cons pe_int (pa_cons pe_int (pa_cons pe_int (pa_cons pe_int (pa_cons pe_int (pa_cons (pe_op op_add pe_int (pe_cd g_law_take hr psE (pa_cons (pv 1) (pa_cons pe_int pa_nil)))) pa_nil))))))))) (pe_cd g_law_take hr psE (pa_cons (pv 1) (pa_cons pe_int pa_nil))) (fun _ _ => rfl)))
      (pss_cons (ps_set (i := 3) sc_law.nd rfl (Or.inr rfl) (pe_lst (pa_cons (pe_lc (own := [("k", 4)]) rfl sc_law.nd (pi_range1 (by rfl) B.range (pa_cons (pv 2) pa_nil)) (blkOk_by (N := nn_law) (sc := defScope s_law) (own := [("k", 4)]) (by decide +kernel)) (fun _ _ _ _ _ => (pg_name (i := 4) sc_law.nd rfl (Or.inl rfl))) (fun _ _ _ _ _ => pts_nil) (fun _ _ _ _ _ => (pe_cd g_law_counter (by exact hr) passL (pa_cons (pv 1) pa_nil)))) (pa_cons (pe_lc (own := [("k", 4)]) rfl sc_law.nd (pi_range1 (by rfl) B.range (pa_cons (pv 2) pa_nil)) (blkOk_by (N := nn_law) (sc := defScope s_law) (own := [("k", 4)]) (by decide +kernel)) (fun _ _ _ _ _ => (pg_name (i := 4) sc_law.nd rfl (Or.inl rfl))) (fun _ _ _ _ _ => pts_nil) (fun _ _ _ _ _ => (pe_cd g_law_counter (by exact hr) passL (pa_cons (pv 1) pa_nil)))) pa_nil))))
      (pss_cons (ps_if (pt_cmpR op_lt (pe_cd g_law_take hr psE (pa_cons (pv 1) (pa_cons pe_int pa_nil))) pe_int (nomark _)) (pss_cons (ps_setLc (i := 5) (own := [("k", 4)]) rfl sc_law.nd rfl rfl (sw_true rfl rfl rfl (by decide +kernel)) (pi_range1 (by rfl) B.range (pa_cons (pv 2) pa_nil)) (blkOk_by (N := nn_law) (sc := defScope s_law) (own := [("k", 4)]) (by decide +kernel)) (fun _ _ _ _ _ => (pg_name (i := 4) sc_law.nd rfl (Or.inl rfl))) (fun _ _ _ _ _ => pts_nil) (fun _ _ _ _ _ => (pe_callB (call_min2 rfl) (by rfl) B.min boot_min (pa_cons (pe_ix (i_lst (K := K)) (pe_ix (i_lst (K := K)) (pv 3) pe_int (fun _ _ => rfl)) (pv 4) (fun _ _ => rfl)) (pa_cons (pe_ix (i_lst (K := K)) (pe_ix (i_lst (K := K)) (pv 3) pe_int (fun _ _ => rfl)) (pv 4) (fun _ _ => rfl)) pa_nil)))))
      (pss_one (ps_set (i := 3) sc_law.nd rfl (Or.inr rfl) (pe_lst (pa_cons (pv 5) (pa_cons (pe_lc (own := [("k", 4)]) rfl sc_law.nd (pi_range1 (by rfl) B.range (pa_cons (pv 2) pa_nil)) (blkOk_by (N := nn_law) (sc := defScope s_law) (own := [("k", 4)]) (by decide +kernel)) (fun _ _ _ _ _ => (pg_name (i := 4) sc_law.nd rfl (Or.inl rfl))) (fun _ _ _ _ _ => pts_nil) (fun _ _ _ _ _ => (pe_callB (call_max2 rfl) (by rfl) B.max boot_max (pa_cons (pe_ix (i_lst (K := K)) (pe_ix (i_lst (K := K)) (pv 3) pe_int (fun _ _ => rfl)) (pv 4) (fun _ _ => rfl)) (pa_cons (pe_ix (i_lst (K := K)) (pe_ix (i_lst (K := K)) (pv 3) pe_int (fun _ _ => rfl)) (pv 4) (fun _ _ => rfl)) pa_nil))))) pa_nil)))))) pss_nil)
      (pss_cons (ps_set (i := 6) sc_law.nd rfl (Or.inl rfl) (pe_lst (pa_cons (pe_callTy (T := "tuple") (c_tup (K := K)) (by rfl) B.tuple bt_tuple (pa_cons (pe_ix ix_list (pv 3) pe_int (fun _ _ => rfl)) pa_nil)) (pa_cons (pe_callTy (T := "tuple") (c_tup (K := K)) (by rfl) B.tuple bt_tuple (pa_cons (pe_ix ix_list (pv 3) pe_int (fun _ _ => rfl)) pa_nil)) pa_nil))))
      (pss_cons (ps_if (pt_cmpR op_eq (pe_cd g_law_take hr psE (pa_cons (pv 1) (pa_cons pe_int pa_nil))) pe_int (nomark _)) (pss_one (ps_set (i := 6) sc_law.nd rfl (Or.inl rfl) (pe_lst (pa_cons (pe_cd g_law_spoilt hr psE (pa_cons (pv 1) (pa_cons (pe_ix ix_list (pv 3) pe_int (fun _ _ => rfl)) pa_nil))) (pa_cons (pe_cd g_law_spoilt hr psE (pa_cons (pv 1) (pa_cons (pe_ix ix_list (pv 3) pe_int (fun _ _ => rfl)) pa_nil))) pa_nil))))) pss_nil)
      (pss_cons (ps_set (i := 7) sc_law.nd rfl (Or.inl rfl) (pe_cd g_law_built hr psE (pa_cons (pe_ix ix_list (pv 6) pe_int (fun _ _ => rfl)) (pa_cons (pe_ix ix_list (pv 6) pe_int (fun _ _ => rfl)) pa_nil))))
      (pss_cons (ps_if (pt_not (pt_val (pe_cd g_law_due hr psE (pa_cons (pv 7) (pa_cons (pe_cd g_law_fault hr psE (pa_cons (pe_ix ix_list (pv 6) pe_int (fun _ _ => rfl)) (pa_cons (pe_ix ix_list (pv 6) pe_int (fun _ _ => rfl)) pa_nil))) (pa_cons (pe_ix ix_list (pv 6) pe_int (fun _ _ => rfl)) (pa_cons (pe_ix ix_list (pv 6) pe_int (fun _ _ => rfl)) pa_nil))))))) (pss_one (ps_ret pe_bl)) pss_nil)
      (pss_cons (ps_set (i := 7) sc_law.nd rfl (Or.inl rfl) (pe_cd g_law_built hr psE (pa_cons (pe_callTy (T := "tuple") (c_tup (K := K)) (by rfl) B.tuple bt_tuple (pa_cons (pe_ix ix_list (pv 3) pe_int (fun _ _ => rfl)) pa_nil)) (pa_cons (pe_callTy (T := "tuple") (c_tup (K := K)) (by rfl) B.tuple bt_tuple (pa_cons (pe_ix ix_list (pv 3) pe_int (fun _ _ => rfl)) pa_nil)) pa_nil))))
      (pss_cons (ps_if (PW.pt (pw_or (pt_cmpR op_ne (pe_ix ix_tup (pv 7) pe_int (fun _ _ => rfl)) pe_int (nomark _)) (pw_or1 (pt_not (pt_val (pe_cd g_law_has hr psE (pa_cons (pe_ix ix_tup (pv 7) pe_int (fun _ _ => rfl)) (pa_cons (pe_ix ix_list (pv 3) pe_int (fun _ _ => rfl)) (pa_cons (pe_ix ix_list (pv 3) pe_int (fun _ _ => rfl)) pa_nil))))))))) (pss_one (ps_ret pe_bl)) pss_nil)
      (pss_cons (ps_set (i := 8) sc_law.nd rfl (Or.inl rfl) (pe_ix ix_tup (pv 7) pe_int (fun _ _ => rfl)))
      (pss_cons (ps_if (PW.pt (pw_or (pt_not (pt_val (pe_cd g_law_makers hr psE (pa_cons (pv 1) (pa_cons (pv 2) pa_nil))))) (pw_or1 (pt_not (pt_val (pe_cd g_law_cuts hr psE (pa_cons (pv 1) (pa_cons (pv 8) (pa_cons (pe_ix ix_list (pv 3) pe_int (fun _ _ => rfl)) (pa_cons (pe_ix ix_list (pv 3) pe_int (fun _ _ => rfl)) pa_nil)))))))))) (pss_one (ps_ret pe_bl)) pss_nil)
      (pss_cons (ps_if (PW.pt (pw_or (pt_not (pt_val (pe_cd g_law_probes hr psE (pa_cons (pv 1) (pa_cons (pv 8) (pa_cons (pe_ix ix_list (pv 3) pe_int (fun _ _ => rfl)) (pa_cons (pe_ix ix_list (pv 3) pe_int (fun _ _ => rfl)) pa_nil))))))) (pw_or1 (pt_not (pt_val (pe_cd g_law_pairs hr psE (pa_cons (pv 1) (pa_cons (pv 8) (pa_cons (pe_ix ix_list (pv 3) pe_int (fun _ _ => rfl)) (pa_cons (pe_ix ix_list (pv 3) pe_int (fun _ _ => rfl)) pa_nil)))))))))) (pss_one (ps_ret pe_bl)) pss_nil)
      (pss_one (ps_ret (pe_and (pe_cd g_law_others hr psE (pa_cons (pv 1) (pa_cons (pv 8) (pa_cons (pe_ix ix_list (pv 3) pe_int (fun _ _ => rfl)) (pa_cons (pe_ix ix_list (pv 3) pe_int (fun _ _ => rfl)) pa_nil))))) (pe_one (pe_cd g_law_has hr psE (pa_cons (pv 8) (pa_cons (pe_ix ix_list (pv 3) pe_int (fun _ _ => rfl)) (pa_cons (pe_ix ix_list (pv 3) pe_int (fun _ _ => rfl)) pa_nil))))))))))))))))))))), ?_⟩
    refine ⟨_, rfl, a, ns, rfl, ha, fun b H1 s1 hb1 b1 => ?_⟩
    dsimp only [gName]
    refine ⟨_, rfl, b, _, rfl, b1, by decide, by decide, fun d H2 d0 d1 x2 => ⟨_, _, rfl, rfl, by show 8 ≤ sizeLine; decide, fun l hl => ?_⟩⟩
    have b2 := x2.bg b1
    obtain ⟨L8, eL⟩ : ∃ L8 : List V, L8 = [.int 2, .int 3, .int 1, .int 5, .int 4, .int 40, .int 6, .int (1 + d)] := ⟨_, rfl⟩
    have s3 := Same.new (o := .lst [.int 2, .int 3, .int 1, .int 5, .int 4, .int 40, .int 6, .int (1 + d)]) hl
    have k3 := upd_same (H := H2) (a := l) (o := .lst [.int 2, .int 3, .int 1, .int 5, .int 4, .int 40, .int 6, .int (1 + d)])
    rw [← eL] at k3
    have lb0 := b2.ne hl
    have mn : ∀ v ∈ L8, ∃ m : Nat, v = .int m ∧ 1 ≤ m ∧ m ≤ 40 := fun v hv => by
      rw [eL] at hv
      simp only [List.mem_cons, List.not_mem_nil, or_false] at hv
      rcases hv with e | e | e | e | e | e | e | e <;> rw [e]
      · exact ⟨2, rfl, by decide, by decide⟩
      · exact ⟨3, rfl, by decide, by decide⟩
      · exact ⟨1, rfl, by decide, by decide⟩
      · exact ⟨5, rfl, by decide, by decide⟩
      · exact ⟨4, rfl, by decide, by decide⟩
      · exact ⟨40, rfl, by decide, by decide⟩
      · exact ⟨6, rfl, by decide, by decide⟩
      · exact ⟨(1 + d).toNat, by rw [Int.toNat_of_nonneg (by omega)], by omega, by omega⟩
    refine ⟨_, rfl, b, _, rfl, b2.same s3, by decide, by decide, fun d2 H4 d20 d21 x4 => ?_⟩
    obtain ⟨k, rfl, hk⟩ := int_nat18 d20 (show d2 < (8 : Nat) from d21)
    have hl8 : k < L8.length := by rw [eL]; exact hk
    obtain ⟨v, hv⟩ : ∃ v, L8[k]? = some v := ⟨_, List.getElem?_eq_getElem hl8⟩
    obtain ⟨n, rfl, n1, n40⟩ := mn v (List.mem_of_getElem? hv)
    rw [← eL] at s3 x4
    have k4 := x4.1 _ _ k3 lb0
    refine ⟨l, _, _, _, rfl, rfl, SqL.of k4, atI_nat hv, ?_⟩
    have b4 := x4.bg (b2.same s3)
    dsimp only [gName]
    -- the two rows drawn
    refine ⟨_, rfl, (n : Int), rfl, by omega, by omega, fun R hR => ?_⟩
    refine lc_range (lo := 0) (n := n) (fun i G => ∃ zs : List Int, Nx b H4 G ∧ G R = some (.lst (zs.map V.int)) ∧ zs.length = i ∧ ∀ c ∈ zs, 0 ≤ c ∧ c ≤ 999) ⟨[], (Nx.refl b H4).put hR, upd_same, rfl, fun c hc => by cases hc⟩ ?_ ?_
    · rintro i G hi ⟨zs, x5, hd, hz, rz⟩
      have Rb := b4.ne hR
      refine ⟨rfl, yes ⟨_, rfl, b, rfl, x5.bg b4, fun c G6 c0 c1 x6 => ⟨_, x6.1 _ _ hd Rb, by rw [List.length_map, hz]; exact line_lt (by omega), zs ++ [c], (x5.trans x6).put hR, ?_, by rw [List.length_append, hz]; rfl, fun e he => ?_⟩⟩⟩
      · rw [upd_same, List.map_append]; rfl
      · rcases List.mem_append.mp he with z | z
        · exact rz e z
        · rw [List.mem_singleton.mp z]; exact ⟨c0, c1⟩
    rintro G5 ⟨zs, x5, hd5, hz5, rz5⟩
    have b5 := x5.bg b4
    have Rb := b4.ne hR
    refine ⟨_, rfl, (n : Int), rfl, by omega, by omega, fun R2 hR2 => ?_⟩
    refine lc_range (lo := 0) (n := n) (fun i G => ∃ ys : List Int, Nx b G5 G ∧ G R2 = some (.lst (ys.map V.int)) ∧ ys.length = i ∧ ∀ c ∈ ys, 0 ≤ c ∧ c ≤ 999) ⟨[], (Nx.refl b G5).put hR2, upd_same, rfl, fun c hc => by cases hc⟩ ?_ ?_
    · rintro i G hi ⟨ys, x6, hd, hz, rz⟩
      have Rb2 := b5.ne hR2
      refine ⟨rfl, yes ⟨_, rfl, b, rfl, x6.bg b5, fun c G6 c0 c1 x7 => ⟨_, x7.1 _ _ hd Rb2, by rw [List.length_map, hz]; exact line_lt (by omega), ys ++ [c], (x6.trans x7).put hR2, ?_, by rw [List.length_append, hz]; rfl, fun e he => ?_⟩⟩⟩
      · rw [upd_same, List.map_append]; rfl
      · rcases List.mem_append.mp he with z | z
        · exact rz e z
        · rw [List.mem_singleton.mp z]; exact ⟨c0, c1⟩
    rintro G6 ⟨ys, x6, hd6, hz6, rz6⟩
    have b6 := x6.bg b5
    have Rb2 := b5.ne hR2
    refine ⟨by show 2 ≤ sizeLine; decide, fun rl hrl => ?_⟩
    have s7 := Same.new (o := .lst [.ref R, .ref R2]) hrl
    have r7 : R18 K _ b rl R R2 zs ys := ⟨b6.same s7, upd_same, s7 _ _ (x6.1 _ _ hd5 Rb), s7 _ _ hd6, b6.ne hrl, Rb, Rb2⟩
    generalize upd G6 rl (.lst [.ref R, .ref R2]) = G7 at r7
    have ok7 : BxOk zs ys := ⟨by omega, by omega, by omega, rz5, rz6⟩
    dsimp only [gName]
    refine seq_mid (fun σ G => ∃ rl la lb lo hi v5, σ = [some (.ref a), some (.ref b), some (.int n), some (.ref rl), none, v5, none, none, none] ∧ R18 K G b rl la lb lo hi ∧ BxOk lo hi ∧ lo.length = n) (fun M hM => ?_) ?_
    · refine ⟨_, rfl, b, _, rfl, r7.bg, by decide, by decide, fun d8 G8 _ _ y8 => ⟨_, _, rfl, rfl, _, rfl, ite2 (fun _ => ?_) (fun _ => hM _ _ ⟨rl, R, R2, zs, ys, _, rfl, r7.on y8, ok7, hz5⟩)⟩⟩
      have r8 := r7.on y8
      refine ⟨_, rfl, (n : Int), rfl, by omega, by omega, fun D hD => ?_⟩
      refine lc_range (lo := 0) (n := n) (fun i G => Same G8 G ∧ G D = some (.lst (((List.zipWith mn2 zs ys).take i).map V.int))) ⟨Same.new hD, by rw [upd_same]; rfl⟩ ?_ ?_
      · rintro i G hi3 ⟨sg, hd⟩
        have rG := r8.on (Nx.of sg)
        have z1 : (List.zipWith mn2 zs ys)[i]? = some (mn2 (zs.getD i 0) (ys.getD i 0)) := zw_at (by rw [List.getD_eq_getElem?_getD, List.getElem?_eq_getElem (show i < zs.length by omega)]; rfl) (by rw [List.getD_eq_getElem?_getD, List.getElem?_eq_getElem (show i < ys.length by omega)]; rfl)
        have ap : atI (zs.map V.int) ((0 : Int) + i) = some (.int (zs.getD i 0)) := by rw [Int.zero_add]; exact atI_nat (at_int (by omega))
        have aq : atI (ys.map V.int) ((0 : Int) + i) = some (.int (ys.getD i 0)) := by rw [Int.zero_add]; exact atI_nat (at_int (by omega))
        refine ⟨rfl, yes ⟨_, rfl, rl, _, _, _, rfl, rfl, SqL.of rG.r, atI_nat (j := 0) rfl, _, rfl, R, _, _, _, rfl, rfl, SqL.of rG.a, ap, _, rfl, rl, _, _, _, rfl, rfl, SqL.of rG.r, atI_nat (j := 1) rfl, _, rfl, R2, _, _, _, rfl, rfl, SqL.of rG.c, aq, _, _, rfl, _, hd, ?_, Same.newer sg hD, ?_⟩⟩
        · rw [List.length_map, List.length_take]; exact line_lt (by omega)
        · rw [upd_same, show (V.int (if ys.getD i 0 < zs.getD i 0 then ys.getD i 0 else zs.getD i 0)) = V.int (mn2 (zs.getD i 0) (ys.getD i 0)) from rfl, snocI z1]
      rintro G9 ⟨s9, hd9⟩
      have e9 : (List.zipWith mn2 zs ys).take n = List.zipWith mn2 zs ys := List.take_of_length_le (by rw [List.length_zipWith]; omega)
      rw [e9] at hd9
      have r9 := r8.on (Nx.of s9)
      refine ⟨_, rfl, _, rfl, (n : Int), rfl, by omega, by omega, fun D2 hD2 => ?_⟩
      refine lc_range (lo := 0) (n := n) (fun i G => Same G9 G ∧ G D2 = some (.lst (((List.zipWith mx2 zs ys).take i).map V.int))) ⟨Same.new hD2, by rw [upd_same]; rfl⟩ ?_ ?_
      · rintro i G hi3 ⟨sg, hd⟩
        have rG := r9.on (Nx.of sg)
        have z1 : (List.zipWith mx2 zs ys)[i]? = some (mx2 (zs.getD i 0) (ys.getD i 0)) := zw_at (by rw [List.getD_eq_getElem?_getD, List.getElem?_eq_getElem (show i < zs.length by omega)]; rfl) (by rw [List.getD_eq_getElem?_getD, List.getElem?_eq_getElem (show i < ys.length by omega)]; rfl)
        have ap : atI (zs.map V.int) ((0 : Int) + i) = some (.int (zs.getD i 0)) := by rw [Int.zero_add]; exact atI_nat (at_int (by omega))
        have aq : atI (ys.map V.int) ((0 : Int) + i) = some (.int (ys.getD i 0)) := by rw [Int.zero_add]; exact atI_nat (at_int (by omega))
        refine ⟨rfl, yes ⟨_, rfl, rl, _, _, _, rfl, rfl, SqL.of rG.r, atI_nat (j := 0) rfl, _, rfl, R, _, _, _, rfl, rfl, SqL.of rG.a, ap, _, rfl, rl, _, _, _, rfl, rfl, SqL.of rG.r, atI_nat (j := 1) rfl, _, rfl, R2, _, _, _, rfl, rfl, SqL.of rG.c, aq, _, _, rfl, _, hd, ?_, Same.newer sg hD2, ?_⟩⟩
        · rw [List.length_map, List.length_take]; exact line_lt (by omega)
        · rw [upd_same, show (V.int (if ys.getD i 0 > zs.getD i 0 then ys.getD i 0 else zs.getD i 0)) = V.int (mx2 (zs.getD i 0) (ys.getD i 0)) from rfl, snocI z1]
      rintro G10 ⟨s10, hd10⟩
      have e10 : (List.zipWith mx2 zs ys).take n = List.zipWith mx2 zs ys := List.take_of_length_le (by rw [List.length_zipWith]; omega)
      rw [e10] at hd10
      have r10 := r9.on (Nx.of s10)
      refine ⟨by show 2 ≤ sizeLine; decide, fun rl2 hrl2 => hM _ _ ⟨rl2, D, D2, List.zipWith mn2 zs ys, List.zipWith mx2 zs ys, _, rfl, ?_, ?_, by rw [List.length_zipWith]; omega⟩⟩
      · have s11 := Same.new (o := .lst [.ref D, .ref D2]) hrl2
        exact ⟨r10.bg.same s11, upd_same, s11 _ _ (s10 _ _ hd9), s11 _ _ hd10, r10.bg.ne hrl2, r8.bg.ne hD, r9.bg.ne hD2⟩
      · exact ⟨by rw [List.length_zipWith, List.length_zipWith], by rw [List.length_zipWith]; omega, by rw [List.length_zipWith]; omega, zw_in (fun a b h g => mn2_in h g) ok7.lo0 ok7.hi0, zw_in (fun a b h g => mx2_in h g) ok7.lo0 ok7.hi0⟩
    rintro σ G8 ⟨rl, la, lb, lo, hi, v5, rfl, r8, ok, ln⟩
    refine ⟨_, rfl, rl, _, _, _, rfl, rfl, SqL.of r8.r, atI_nat (j := 0) rfl, la, _, rfl, .inl ⟨SqL.of r8.a, fun ta hta => ?_⟩⟩
    have s9 := Same.new (o := .tup (lo.map V.int)) hta
    have r9 := r8.on (Nx.of s9)
    refine ⟨_, rfl, rl, _, _, _, rfl, rfl, SqL.of r9.r, atI_nat (j := 1) rfl, lb, _, rfl, .inl ⟨SqL.of r9.c, fun tb htb => ⟨by show 2 ≤ sizeLine; decide, fun hd hhd => ?_⟩⟩⟩
    have s10 := Same.new (o := .tup (hi.map V.int)) htb
    have s11 := Same.new (o := .lst [.ref ta, .ref tb]) hhd
    have n40' := ok.n40
    have m40' := ok.m40
    have r11 := r9.on (Nx.of (s10.trans s11))
    have rowA : RowA K _ (some (lo.map V.int)) (.ref ta) := row_ints ((s10.trans s11) _ _ (upd_same (H := G8) (a := ta) (o := .tup (lo.map V.int)))) (by omega)
    have rowB : RowA K _ (some (hi.map V.int)) (.ref tb) := row_ints (s11 _ _ (upd_same (H := upd G8 ta (.tup (lo.map V.int))) (a := tb) (o := .tup (hi.map V.int)))) (by omega)
    have k11 := upd_same (H := upd (upd G8 ta (.tup (lo.map V.int))) tb (.tup (hi.map V.int))) (a := hd) (o := .lst [.ref ta, .ref tb])
    have hdb : hd ≠ b := (r9.on (Nx.of s10)).bg.ne hhd
    generalize upd (upd (upd G8 ta (.tup (lo.map V.int))) tb (.tup (hi.map V.int))) hd (.lst [.ref ta, .ref tb]) = G11 at r11 rowA rowB k11
    dsimp only [gName]
    refine seq_mid (fun σ G => ∃ hd u v o1 o2, σ = [some (.ref a), some (.ref b), some (.int n), some (.ref rl), none, v5, some (.ref hd), none, none] ∧ R18 K G b rl la lb lo hi ∧ G hd = some (.lst [u, v]) ∧ RowA K G o1 u ∧ RowA K G o2 v) (fun M hM => ?_) ?_
    · refine ⟨_, rfl, b, _, rfl, r11.bg, by decide, by decide, fun d12 G12 _ _ y12 => ⟨rfl, _, rfl, ite2 (fun _ => ?_) (fun _ => hM _ _ ⟨hd, .ref ta, .ref tb, _, _, rfl, r11.on y12, y12.1 _ _ k11 hdb, y12.row r11.bg rowA, y12.row r11.bg rowB⟩)⟩⟩
      have r12 := r11.on y12
      have l1 := ok.n1
      have l2 := ok.m1
      refine ⟨_, rfl, _, rfl, rl, _, _, _, rfl, rfl, SqL.of r12.r, atI_nat (j := 0) rfl, b, la, lo, rfl, r12.bg, r12.ab, r12.a, l1, n40', fun u o1 G13 y13 ro1 => ?_⟩
      have r13 := r12.on y13
      refine ⟨_, rfl, _, rfl, rl, _, _, _, rfl, rfl, SqL.of r13.r, atI_nat (j := 1) rfl, b, lb, hi, rfl, r13.bg, r13.cb, r13.c, l2, m40', fun v o2 G14 y14 ro2 => ⟨by show 2 ≤ sizeLine; decide, fun h2 hh2 => ?_⟩⟩
      have r14 := r13.on y14
      have s15 := Same.new (o := .lst [u, v]) hh2
      exact hM _ _ ⟨h2, u, v, o1, o2, rfl, r14.on (Nx.of s15), upd_same, (y14.row r13.bg ro1).same s15, ro2.same s15⟩
    rintro σ G12 ⟨hd, u, v, o1, o2, rfl, r12, k12, ro1, ro2⟩
    refine seq_mid (fun σ G => ∃ r, σ = [some (.ref a), some (.ref b), some (.int n), some (.ref rl), none, v5, some (.ref hd), some (.ref r), none] ∧ Same G12 G ∧ ((∃ p, faultO o1 o2 = some p ∧ G r = some (.tup (tno 1 p))) ∨ (∃ bx, faultO o1 o2 = none ∧ BoxV G bx BX u v ∧ G r = some (.tup (tok bx))))) (fun M hM => ?_) ?_
    · refine ⟨_, rfl, hd, _, _, _, rfl, rfl, SqL.of k12, atI_nat (j := 0) rfl, _, rfl, hd, _, _, _, rfl, rfl, SqL.of k12, atI_nat (j := 1) rfl, u, v, o1, o2, rfl, ro1, ro2, fun f0 r bx G s bv hr2 => hM _ _ ⟨r, rfl, s, .inr ⟨bx, f0, bv, hr2⟩⟩, fun p f0 r G s hr2 => hM _ _ ⟨r, rfl, s, .inl ⟨p, f0, hr2⟩⟩⟩
    rintro σ G13 ⟨r, rfl, s13, td⟩
    have k13 := s13 _ _ k12
    have rp1 := ro1.same s13
    have rp2 := ro2.same s13
    refine seq_mid (fun σ G => σ = [some (.ref a), some (.ref b), some (.int n), some (.ref rl), none, v5, some (.ref hd), some (.ref r), none] ∧ Same G13 G) (fun M hM => ?_) ?_
    · refine ⟨_, rfl, _, rfl, hd, _, _, _, rfl, rfl, SqL.of k13, atI_nat (j := 0) rfl, _, rfl, hd, _, _, _, rfl, rfl, SqL.of k13, atI_nat (j := 1) rfl, u, v, o1, o2, rfl, rp1, rp2, fun ft G14 s14 hft => ?_⟩
      have k14 := s14 _ _ k13
      refine ⟨_, rfl, hd, _, _, _, rfl, rfl, SqL.of k14, atI_nat (j := 0) rfl, _, rfl, hd, _, _, _, rfl, rfl, SqL.of k14, atI_nat (j := 1) rfl, r, ft, u, v, rfl, fun G15 s15 => ⟨_, rfl, iteF (hM _ _ ⟨rfl, s14.trans s15⟩)⟩, ?_⟩
      rcases td with ⟨p, fp, ht⟩ | ⟨bx, fn, bv, ht⟩
      · exact .inl ⟨p, by rw [hft, fp]; rfl, s14 _ _ ht, leaf_eq (fault_leaf fp)⟩
      · obtain ⟨lo', hi', e1, e2, ok'⟩ := fault_none fn
        subst e1 e2
        obtain ⟨⟨a1, rfl, ha1⟩, _⟩ := rp1
        obtain ⟨⟨a2, rfl, ha2⟩, _⟩ := rp2
        obtain ⟨dx, bv⟩ := bv
        have q1 := s14 _ _ ha1
        have q2 := s14 _ _ ha2
        exact .inr ⟨bx, lo', hi', by rw [hft, fn]; rfl, s14 _ _ ht, ⟨a1, a2, ⟨dx, s14 _ _ bv⟩, q1, q2⟩, ⟨a1, rfl, .inl q1⟩, ⟨a2, rfl, .inl q2⟩, ok'⟩
    rintro σ G14 ⟨rfl, s14⟩
    have r14 := r12.on (Nx.of (s13.trans s14))
    refine ⟨_, rfl, rl, _, _, _, rfl, rfl, SqL.of r14.r, atI_nat (j := 0) rfl, la, _, rfl, .inl ⟨SqL.of r14.a, fun ua hua => ?_⟩⟩
    have s15 := Same.new (o := .tup (lo.map V.int)) hua
    have r15 := r14.on (Nx.of s15)
    refine ⟨_, rfl, rl, _, _, _, rfl, rfl, SqL.of r15.r, atI_nat (j := 1) rfl, lb, _, rfl, .inl ⟨SqL.of r15.c, fun ub hub => ?_⟩⟩
    have s16 := Same.new (o := .tup (hi.map V.int)) hub
    have qa := s16 _ _ (upd_same (H := G14) (a := ua) (o := .tup (lo.map V.int)))
    have qb := upd_same (H := upd G14 ua (.tup (lo.map V.int))) (a := ub) (o := .tup (hi.map V.int))
    refine ⟨.ref ua, .ref ub, _, _, rfl, row_ints qa (by omega), row_ints qb (by omega), fun _ r2 x G17 s17 bv hr2 => ?_, fun p f0 => by rw [fault_ok ok] at f0; cases f0⟩
    have r17 := r15.on (Nx.of (s16.trans s17))
    have bx17 : BoxR G17 x BX lo hi := ⟨ua, ub, bv, s17 _ _ qa, s17 _ _ qb⟩
    refine ⟨_, rfl, r2, _, _, _, rfl, rfl, SqT.of hr2, atI_nat (j := 0) rfl, rfl, _, rfl, iteF ?_⟩
    refine ⟨_, rfl, r2, _, _, _, rfl, rfl, SqT.of hr2, atI_nat (j := 1) rfl, _, rfl, rl, _, _, _, rfl, rfl, SqL.of r17.r, atI_nat (j := 0) rfl, _, rfl, rl, _, _, _, rfl, rfl, SqL.of r17.r, atI_nat (j := 1) rfl, x, .ref la, .ref lb, lo, hi, rfl, bx17, ⟨la, rfl, .inr r17.a⟩, ⟨lb, rfl, .inr r17.c⟩, ok, fun G18 s18 => ⟨_, rfl, iteF ?_⟩⟩
    have r18 := r17.on (Nx.of s18)
    have bx18 := bx17.same s18
    refine ⟨_, rfl, r2, _, _, _, rfl, rfl, SqT.of (s18 _ _ hr2), atI_nat (j := 1) rfl, ?_⟩
    dsimp only [gName]
    refine ⟨_, rfl, _, rfl, b, n, rfl, r18.bg, n1, n40, fun G19 y19 => ⟨_, rfl, iteF ?_⟩⟩
    have w18 : W18 G18 b x la lb BX lo hi := ⟨r18.bg, bx18, r18.a, r18.c, r18.ab, r18.cb⟩
    have r19 := r18.on y19
    have w19 := w18.on y19
    refine ⟨_, rfl, _, rfl, _, rfl, rl, _, _, _, rfl, rfl, SqL.of r19.r, atI_nat (j := 0) rfl, _, rfl, rl, _, _, _, rfl, rfl, SqL.of r19.r, atI_nat (j := 1) rfl, b, x, la, lb, lo, hi, rfl, w19, ok, fun G20 y20 => ⟨_, rfl, iteF ?_⟩⟩
    have r20 := r19.on y20
    have w20 := w19.on y20
    refine ⟨_, rfl, _, rfl, _, rfl, rl, _, _, _, rfl, rfl, SqL.of r20.r, atI_nat (j := 0) rfl, _, rfl, rl, _, _, _, rfl, rfl, SqL.of r20.r, atI_nat (j := 1) rfl, b, x, la, lb, lo, hi, rfl, w20, ok, fun G21 y21 => ⟨_, rfl, iteF ?_⟩⟩
    have r21 := r20.on y21
    have w21 := w20.on y21
    refine ⟨_, rfl, _, rfl, _, rfl, rl, _, _, _, rfl, rfl, SqL.of r21.r, atI_nat (j := 0) rfl, _, rfl, rl, _, _, _, rfl, rfl, SqL.of r21.r, atI_nat (j := 1) rfl, b, x, la, lb, lo, hi, rfl, w21, ok, fun G22 y22 => ⟨_, rfl, iteF ?_⟩⟩
    have r22 := r21.on y22
    have w22 := w21.on y22
    refine ⟨_, rfl, _, rfl, _, rfl, rl, _, _, _, rfl, rfl, SqL.of r22.r, atI_nat (j := 0) rfl, _, rfl, rl, _, _, _, rfl, rfl, SqL.of r22.r, atI_nat (j := 1) rfl, b, x, la, lb, lo, hi, rfl, w22, ok, fun G23 y23 => ⟨_, rfl, iteT ?_⟩⟩
    have r23 := r22.on y23
    have w23 := w22.on y23
    exact ⟨_, rfl, _, rfl, rl, _, _, _, rfl, rfl, SqL.of r23.r, atI_nat (j := 0) rfl, _, rfl, rl, _, _, _, rfl, rfl, SqL.of r23.r, atI_nat (j := 1) rfl, x, .ref la, .ref lb, lo, hi, rfl, w23.bx, ⟨la, rfl, .inr r23.a⟩, ⟨lb, rfl, .inr r23.c⟩, ok, fun G24 _ => fin G24⟩
end
end WC

set_option maxHeartbeats 8000000
namespace WC
open PySem PySem.Spec PyProof.Rows L2
/-! narrowed with its keyword-only defaults -/
abbrev kwN : List (Str × V) := [(("low" : Str), .int 0), (("high" : Str), .int 999)]
abbrev psN : List Str := ["self", "stage", "low", "high"]
section
variable {P : Program} {w : World} {K : PySem.W.Frag} {mg : Str → Option Value} {base : Heap} {BX CB CN q : Addr} {fd : FuncData}
theorem nar_D (F : FunD K "narrowed" "Box.narrowed" (defArgs s_Box_narrowed) (defBody s_Box_narrowed) (defScope s_Box_narrowed) [] kwN q fd) (c : Cls K BX) (m : Meth K BX "narrowed" q) (ok : FnOk P w K mg base (L2.CX P w) 6 q fd psN (spNar K BX CB CN)) : MetD P w K mg base BX "narrowed" 6 [.int 0, .int 999] (spNar K BX CB CN) := by
  obtain ⟨ds, r, hb⟩ := F.binds0 (ps := psN) 2 (by simp) rfl fun D doc pm an cdv ct us ks h1 h2 => by
    match us, ks, h1, h2 with
    | [a, b], [u, v], _, _ => exact ⟨_, _, _, _, _, _, rfl, rfl, _, _, _, _, _, _, rfl, rfl, rfl⟩
  exact ⟨q, fd, psN, ds, c, m, r, hb, ok⟩
theorem nar_1 (F : FunD K "narrowed" "Box.narrowed" (defArgs s_Box_narrowed) (defBody s_Box_narrowed) (defScope s_Box_narrowed) [] kwN q fd) (c : Cls K BX) (m : Meth K BX "narrowed" q) (ok : FnOk P w K mg base (L2.CX P w) 6 q fd psN (spNar K BX CB CN)) : MetK P w K mg base BX "narrowed" 6 2 ["low"] g1 (spNar K BX CB CN) := by
  obtain ⟨mv, hb⟩ := F.kbinds0 (ps := psN) 2 ["low"] [(("high" : Str), .int 999)] (fun us mv ws => us ++ (ws ++ mv)) (by simp) (by simp) (fun a b c => a.append (c.append b)) fun D doc pm an cdv ct us mv ws h1 h2 h3 => by
    match us, mv, ws, h1, h2, h3 with
    | [a, b], [u], [v], _, _, _ => exact ⟨_, _, _, _, _, _, rfl, rfl, rfl⟩
  exact ⟨q, fd, psN, _, c, m, hb, ok⟩
theorem nar_2 (F : FunD K "narrowed" "Box.narrowed" (defArgs s_Box_narrowed) (defBody s_Box_narrowed) (defScope s_Box_narrowed) [] kwN q fd) (c : Cls K BX) (m : Meth K BX "narrowed" q) (ok : FnOk P w K mg base (L2.CX P w) 6 q fd psN (spNar K BX CB CN)) : MetK P w K mg base BX "narrowed" 6 2 ["high"] g2 (spNar K BX CB CN) := by
  obtain ⟨mv, hb⟩ := F.kbinds0 (ps := psN) 2 ["high"] [(("low" : Str), .int 0)] (fun us mv ws => us ++ (mv ++ ws)) (by simp) (by simp) (fun a b c => a.append (b.append c)) fun D doc pm an cdv ct us mv ws h1 h2 h3 => by
    match us, mv, ws, h1, h2, h3 with
    | [a, b], [u], [v], _, _, _ => exact ⟨_, _, _, _, _, _, rfl, rfl, rfl⟩
  exact ⟨q, fd, psN, _, c, m, hb, ok⟩
theorem vals_rev {xs : List V} {us : List Value} (r : Vals xs us) : Vals xs.reverse us.reverse := by
  induction r with
  | nil => exact .nil
  | cons a _ ih =>
    rw [List.reverse_cons, List.reverse_cons]
    exact ih.append (.cons a .nil)
theorem nar_3 (F : FunD K "narrowed" "Box.narrowed" (defArgs s_Box_narrowed) (defBody s_Box_narrowed) (defScope s_Box_narrowed) [] kwN q fd) (c : Cls K BX) (m : Meth K BX "narrowed" q) (ok : FnOk P w K mg base (L2.CX P w) 6 q fd psN (spNar K BX CB CN)) : MetK P w K mg base BX "narrowed" 6 2 ["high", "low"] g3 (spNar K BX CB CN) := by
  obtain ⟨mv, hb⟩ := F.kbinds0 (ps := psN) 2 ["high", "low"] [] (fun us mv ws => us ++ ws.reverse) (by simp) (by simp) (fun a b c => a.append (vals_rev c)) fun D doc pm an cdv ct us mv ws h1 h2 h3 => by
    match us, mv, ws, h1, h2, h3 with
    | [a, b], [], [u, v], _, _, _ => exact rfl
  exact ⟨q, fd, psN, _, c, m, hb, ok⟩
theorem nar_F {oc : Value} {od : Option Addr} {Dn : Addr} {dc pm : Value} {an : Option Addr} {cd ct : Value} {sl : Array (Option Value)} {t0 t1 : Tok} (l : K.lookup q = some ⟨oc, od, .func (PySem.W.fnOf "narrowed" "Box.narrowed" (defArgs s_Box_narrowed) (defBody s_Box_narrowed) (defScope s_Box_narrowed) .none (.ref Dn) dc pm an cd ct), sl⟩) (c : PySem.W.codeIn K cd "Box.narrowed" = true) (k : PySem.W.keepIn K (.ref q) = true)
    (d0 : PySem.W.nsIn K Dn "low" = some (some (.int 0 t0))) (d1 : PySem.W.nsIn K Dn "high" = some (some (.int 999 t1))) : FunD K "narrowed" "Box.narrowed" (defArgs s_Box_narrowed) (defBody s_Box_narrowed) (defScope s_Box_narrowed) [] kwN q (PySem.W.fnOf "narrowed" "Box.narrowed" (defArgs s_Box_narrowed) (defBody s_Box_narrowed) (defScope s_Box_narrowed) .none (.ref Dn) dc pm an cd ct) :=
  ⟨⟨_, _, _, _, _, _, _, _, _, _, rfl, l, c, .inl ⟨rfl, rfl⟩, .inr ⟨Dn, rfl, fun p hp => by
    rcases List.mem_cons.mp hp with e | hp
    · rw [e]; exact ⟨_, d0, t0, rfl⟩
    · rw [List.mem_singleton.mp hp]; exact ⟨_, d1, t1, rfl⟩⟩⟩, k⟩
end
end WC

set_option maxHeartbeats 16000000
namespace WC
open PySem PySem.Spec PyProof.Rows L2
theorem raw0 {P : Program} {w : World} {K : PySem.W.Frag} {mg : Str → Option Value} {base : Heap} {CX : CXT} {k : Nat} {f : Addr} {fd : FuncData} {ps : List Str} {sp : Sp} (F : FnOk P w K mg base CX k f fd ps sp) (hb : Binds K fd ps []) : FnR P w K mg base CX k f sp :=
  (F.raw hb .nil).imp fun vs H Q E h => by
    rw [List.append_nil]
    exact h
abbrev PK : Program := PySem.Challenge.pw_withincall_k18_boxes
theorem all_k18 {w : World} {K : PySem.W.Frag} {h : Heap} {mg : Str → Option Value} {fa : Addr} (X : K.In h) (G : h.Ns mainGlobals mg) (hfa : mg "law" = some (.ref fa))
    {fbtw : Addr}
    {ocbtw kVbtw dcbtw pmbtw cdbtw ctbtw : Value} {odbtw anbtw : Option Addr} {slbtw : Array (Option Value)}
    {fchk : Addr}
    {occhk kVchk dcchk pmchk cdchk ctchk : Value} {odchk anchk : Option Addr} {slchk : Array (Option Value)}
    {fnat : Addr}
    {ocnat kVnat dcnat pmnat cdnat ctnat : Value} {odnat annat : Option Addr} {slnat : Array (Option Value)}
    {fjoi : Addr}
    {ocjoi kVjoi dcjoi pmjoi cdjoi ctjoi : Value} {odjoi anjoi : Option Addr} {sljoi : Array (Option Value)}
    {fcir : Addr}
    {occir kVcir dccir pmcir cdcir ctcir : Value} {odcir ancir : Option Addr} {slcir : Array (Option Value)}
    {fcch : Addr}
    {occch kVcch dccch pmcch cdcch ctcch : Value} {odcch ancch : Option Addr} {slcch : Array (Option Value)}
    {fwic : Addr}
    {ocwic kVwic dcwic pmwic cdwic ctwic : Value} {odwic anwic : Option Addr} {slwic : Array (Option Value)}
    {fisc : Addr}
    {ocisc kVisc dcisc pmisc cdisc ctisc : Value} {odisc anisc : Option Addr} {slisc : Array (Option Value)}
    {fisr : Addr}
    {ocisr kVisr dcisr pmisr cdisr ctisr : Value} {odisr anisr : Option Addr} {slisr : Array (Option Value)}
    {fcwi : Addr}
    {occwi kVcwi dccwi pmcwi cdcwi ctcwi : Value} {odcwi ancwi : Option Addr} {slcwi : Array (Option Value)}
    {fbag : Addr}
    {ocbag kVbag dcbag pmbag cdbag ctbag : Value} {odbag anbag : Option Addr} {slbag : Array (Option Value)}
    {ftak : Addr}
    {octak kVtak dctak pmtak cdtak cttak : Value} {odtak antak : Option Addr} {sltak : Array (Option Value)}
    {fwho : Addr}
    {ocwho kVwho dcwho pmwho cdwho ctwho : Value} {odwho anwho : Option Addr} {slwho : Array (Option Value)}
    {fsam : Addr}
    {ocsam kVsam dcsam pmsam cdsam ctsam : Value} {odsam ansam : Option Addr} {slsam : Array (Option Value)}
    {fctr : Addr}
    {occtr kVctr dcctr pmctr cdctr ctctr : Value} {odctr anctr : Option Addr} {slctr : Array (Option Value)}
    {fodd : Addr}
    {ocodd kVodd dcodd pmodd cdodd ctodd : Value} {ododd anodd : Option Addr} {slodd : Array (Option Value)}
    {fgoo : Addr}
    {ocgoo kVgoo dcgoo pmgoo cdgoo ctgoo : Value} {odgoo angoo : Option Addr} {slgoo : Array (Option Value)}
    {fflt : Addr}
    {ocflt kVflt dcflt pmflt cdflt ctflt : Value} {odflt anflt : Option Addr} {slflt : Array (Option Value)}
    {fspo : Addr}
    {ocspo kVspo dcspo pmspo cdspo ctspo : Value} {odspo anspo : Option Addr} {slspo : Array (Option Value)}
    {fbui : Addr}
    {ocbui kVbui dcbui pmbui cdbui ctbui : Value} {odbui anbui : Option Addr} {slbui : Array (Option Value)}
    {fmad : Addr}
    {ocmad kVmad dcmad pmmad cdmad ctmad : Value} {odmad anmad : Option Addr} {slmad : Array (Option Value)}
    {fcut : Addr}
    {occut kVcut dccut pmcut cdcut ctcut : Value} {odcut ancut : Option Addr} {slcut : Array (Option Value)}
    {fhas : Addr}
    {ochas kVhas dchas pmhas cdhas cthas : Value} {odhas anhas : Option Addr} {slhas : Array (Option Value)}
    {fdue : Addr}
    {ocdue kVdue dcdue pmdue cddue ctdue : Value} {oddue andue : Option Addr} {sldue : Array (Option Value)}
    {fmks : Addr}
    {ocmks kVmks dcmks pmmks cdmks ctmks : Value} {odmks anmks : Option Addr} {slmks : Array (Option Value)}
    {fcts : Addr}
    {occts kVcts dccts pmcts cdcts ctcts : Value} {odcts ancts : Option Addr} {slcts : Array (Option Value)}
    {fins : Addr}
    {ocins kVins dcins pmins cdins ctins : Value} {odins anins : Option Addr} {slins : Array (Option Value)}
    {fpro : Addr}
    {ocpro kVpro dcpro pmpro cdpro ctpro : Value} {odpro anpro : Option Addr} {slpro : Array (Option Value)}
    {fcom : Addr}
    {occom kVcom dccom pmcom cdcom ctcom : Value} {odcom ancom : Option Addr} {slcom : Array (Option Value)}
    {fprs : Addr}
    {ocprs kVprs dcprs pmprs cdprs ctprs : Value} {odprs anprs : Option Addr} {slprs : Array (Option Value)}
    {foth : Addr}
    {ocoth kVoth dcoth pmoth cdoth ctoth : Value} {odoth anoth : Option Addr} {sloth : Array (Option Value)}
    {flaw : Addr}
    {oclaw kVlaw dclaw pmlaw cdlaw ctlaw : Value} {odlaw anlaw : Option Addr} {sllaw : Array (Option Value)}
    {CN fxN NNN : Addr} {nmN qnN : Str} {bsN bmN subN : List Value} {snN : List Str} {abN : Bool} {coN : Option Bool} {ddN : Option Addr} {m0N m1N m2N m3N m5N : Option Value}
    {ocxN kVxN dcxN pmxN cdxN ctxN : Value} {odxN anxN : Option Addr} {slxN : Array (Option Value)}
    {CI fxI NNI : Addr} {nmI qnI : Str} {bsI bmI subI : List Value} {snI : List Str} {abI : Bool} {coI : Option Bool} {ddI : Option Addr} {m0I m1I m2I m3I m5I : Option Value}
    {ocxI kVxI dcxI pmxI cdxI ctxI : Value} {odxI anxI : Option Addr} {slxI : Array (Option Value)}
    {CB fxB NNB : Addr} {nmB qnB : Str} {bsB bmB subB : List Value} {snB : List Str} {abB : Bool} {coB : Option Bool} {ddB : Option Addr} {m0B m1B m2B m3B m5B : Option Value}
    {ocxB kVxB dcxB pmxB cdxB ctxB : Value} {odxB anxB : Option Addr} {slxB : Array (Option Value)}
    {CX : Addr}
    {CW : Addr}
    {N pIC gIC : Addr} {restIC : List Value} {t1 t2 t3 t4 : Tok}
    {ocIC kVIC dcIC pmIC cdIC ctIC : Value} {odIC anIC : Option Addr} {slIC : Array (Option Value)}
    {fNI : Addr}
    {CP iniP ccP cdaP : Addr}
    {Dk : Addr} {tD : Tok}
    {oSP dSP pSP tSP kc_P o1P : Value} {qSP nSP_ dc_P o2P : Option Addr} {sSP lc_P o3P : Array (Option Value)} {vsP : Array Value} {fileP : Str} {tkP : Tok}
    {ocNI kVNI dcNI pmNI cdNI ctNI : Value} {odNI anNI : Option Addr} {slNI : Array (Option Value)}
    {BX pFu gFu pEx gEx iniB Dn : Addr} {rFu rEx : List Value} {tb1 tb2 tn1 tn2 : Tok}
    {ocBi kVBi dcBi pmBi cdBi ctBi : Value} {odBi anBi : Option Addr} {slBi : Array (Option Value)}
    {ocFu kVFu dcFu pmFu cdFu ctFu : Value} {odFu anFu : Option Addr} {slFu : Array (Option Value)}
    {ocEx kVEx dcEx pmEx cdEx ctEx : Value} {odEx anEx : Option Addr} {slEx : Array (Option Value)}
    {qna : Addr} {ocn dcn pmn cdn ctn : Value} {odn ann : Option Addr} {sln : Array (Option Value)}
    {qco : Addr}
    {ocMco kVMco dcMco pmMco cdMco ctMco : Value} {odMco anMco : Option Addr} {slMco : Array (Option Value)}
    {qan : Addr}
    {ocMan kVMan dcMan pmMan cdMan ctMan : Value} {odMan anMan : Option Addr} {slMan : Array (Option Value)}
    {qeq : Addr}
    {ocMeq kVMeq dcMeq pmMeq cdMeq ctMeq : Value} {odMeq anMeq : Option Addr} {slMeq : Array (Option Value)}
    {qbo : Addr}
    {ocMbo kVMbo dcMbo pmMbo cdMbo ctMbo : Value} {odMbo anMbo : Option Addr} {slMbo : Array (Option Value)}
    {qne : Addr}
    {ocMne kVMne dcMne pmMne cdMne ctMne : Value} {odMne anMne : Option Addr} {slMne : Array (Option Value)}
    (z_isi : PySem.W.nsIn K mainGlobals "isinstance" = some none)
    (z_int : PySem.W.nsIn K mainGlobals "int" = some none)
    (z_bool : PySem.W.nsIn K mainGlobals "bool" = some none)
    (z_tuple : PySem.W.nsIn K mainGlobals "tuple" = some none)
    (z_list : PySem.W.nsIn K mainGlobals "list" = some none)
    (z_str : PySem.W.nsIn K mainGlobals "str" = some none)
    (z_len : PySem.W.nsIn K mainGlobals "len" = some none)
    (z_range : PySem.W.nsIn K mainGlobals "range" = some none)
    (z_sorted : PySem.W.nsIn K mainGlobals "sorted" = some none)
    (z_enum : PySem.W.nsIn K mainGlobals "enumerate" = some none)
    (z_sum : PySem.W.nsIn K mainGlobals "sum" = some none)
    (z_all : PySem.W.nsIn K mainGlobals "all" = some none)
    (z_max : PySem.W.nsIn K mainGlobals "max" = some none)
    (z_min : PySem.W.nsIn K mainGlobals "min" = some none)
    (z_verr : PySem.W.nsIn K mainGlobals "ValueError" = some none)
    (z_sup : PySem.W.nsIn K mainGlobals "super" = some none)
    (z_zip : PySem.W.nsIn K mainGlobals "zip" = some none)
    (z_rev : PySem.W.nsIn K mainGlobals "reversed" = some none)
    (z_abs : PySem.W.nsIn K mainGlobals "abs" = some none)
    (abtw : PySem.W.nsIn K mainGlobals "is_between" = some (some (.ref fbtw)))
    (lbtw : K.lookup fbtw = some ⟨ocbtw, odbtw, .func (PySem.W.fnOf "is_between" "is_between" (defArgs s_is_between) (defBody s_is_between) (defScope s_is_between) .none kVbtw dcbtw pmbtw anbtw cdbtw ctbtw), slbtw⟩)
    (cbtw : PySem.W.codeIn K cdbtw "is_between" = true)
    (kbtw : PySem.W.keepIn K (.ref fbtw) = true)
    (achk : PySem.W.nsIn K mainGlobals "check_number" = some (some (.ref fchk)))
    (lchk : K.lookup fchk = some ⟨occhk, odchk, .func (PySem.W.fnOf "check_number" "check_number" (defArgs s_check_number) (defBody s_check_number) (defScope s_check_number) .none kVchk dcchk pmchk anchk cdchk ctchk), slchk⟩)
    (cchk : PySem.W.codeIn K cdchk "check_number" = true)
    (kchk : PySem.W.keepIn K (.ref fchk) = true)
    (anat : PySem.W.nsIn K mainGlobals "_numbers_at" = some (some (.ref fnat)))
    (lnat : K.lookup fnat = some ⟨ocnat, odnat, .func (PySem.W.fnOf "_numbers_at" "_numbers_at" (defArgs s_numbers_at) (defBody s_numbers_at) (defScope s_numbers_at) .none kVnat dcnat pmnat annat cdnat ctnat), slnat⟩)
    (cnat : PySem.W.codeIn K cdnat "_numbers_at" = true)
    (knat : PySem.W.keepIn K (.ref fnat) = true)
    (ajoi : PySem.W.nsIn K mainGlobals "_joins_two_stages" = some (some (.ref fjoi)))
    (ljoi : K.lookup fjoi = some ⟨ocjoi, odjoi, .func (PySem.W.fnOf "_joins_two_stages" "_joins_two_stages" (defArgs s_joins_two_stages) (defBody s_joins_two_stages) (defScope s_joins_two_stages) .none kVjoi dcjoi pmjoi anjoi cdjoi ctjoi), sljoi⟩)
    (cjoi : PySem.W.codeIn K cdjoi "_joins_two_stages" = true)
    (kjoi : PySem.W.keepIn K (.ref fjoi) = true)
    (acir : PySem.W.nsIn K mainGlobals "has_circle" = some (some (.ref fcir)))
    (lcir : K.lookup fcir = some ⟨occir, odcir, .func (PySem.W.fnOf "has_circle" "has_circle" (defArgs s_has_circle) (defBody s_has_circle) (defScope s_has_circle) .none kVcir dccir pmcir ancir cdcir ctcir), slcir⟩)
    (ccir : PySem.W.codeIn K cdcir "has_circle" = true)
    (kcir : PySem.W.keepIn K (.ref fcir) = true)
    (acch : PySem.W.nsIn K mainGlobals "_check_channels" = some (some (.ref fcch)))
    (lcch : K.lookup fcch = some ⟨occch, odcch, .func (PySem.W.fnOf "_check_channels" "_check_channels" (defArgs s_check_channels) (defBody s_check_channels) (defScope s_check_channels) .none kVcch dccch pmcch ancch cdcch ctcch), slcch⟩)
    (ccch : PySem.W.codeIn K cdcch "_check_channels" = true)
    (kcch : PySem.W.keepIn K (.ref fcch) = true)
    (awic : PySem.W.nsIn K mainGlobals "_with_capacity" = some (some (.ref fwic)))
    (lwic : K.lookup fwic = some ⟨ocwic, odwic, .func (PySem.W.fnOf "_with_capacity" "_with_capacity" (defArgs s_with_capacity) (defBody s_with_capacity) (defScope s_with_capacity) .none kVwic dcwic pmwic anwic cdwic ctwic), slwic⟩)
    (cwic : PySem.W.codeIn K cdwic "_with_capacity" = true)
    (kwic : PySem.W.keepIn K (.ref fwic) = true)
    (aisc : PySem.W.nsIn K mainGlobals "_is_counter" = some (some (.ref fisc)))
    (lisc : K.lookup fisc = some ⟨ocisc, odisc, .func (PySem.W.fnOf "_is_counter" "_is_counter" (defArgs s_is_counter) (defBody s_is_counter) (defScope s_is_counter) .none kVisc dcisc pmisc anisc cdisc ctisc), slisc⟩)
    (cisc : PySem.W.codeIn K cdisc "_is_counter" = true)
    (kisc : PySem.W.keepIn K (.ref fisc) = true)
    (aisr : PySem.W.nsIn K mainGlobals "_is_row" = some (some (.ref fisr)))
    (lisr : K.lookup fisr = some ⟨ocisr, odisr, .func (PySem.W.fnOf "_is_row" "_is_row" (defArgs s_is_row) (defBody s_is_row) (defScope s_is_row) .none kVisr dcisr pmisr anisr cdisr ctisr), slisr⟩)
    (cisr : PySem.W.codeIn K cdisr "_is_row" = true)
    (kisr : PySem.W.keepIn K (.ref fisr) = true)
    (acwi : PySem.W.nsIn K mainGlobals "_check_windows" = some (some (.ref fcwi)))
    (lcwi : K.lookup fcwi = some ⟨occwi, odcwi, .func (PySem.W.fnOf "_check_windows" "_check_windows" (defArgs s_check_windows) (defBody s_check_windows) (defScope s_check_windows) .none kVcwi dccwi pmcwi ancwi cdcwi ctcwi), slcwi⟩)
    (ccwi : PySem.W.codeIn K cdcwi "_check_windows" = true)
    (kcwi : PySem.W.keepIn K (.ref fcwi) = true)
    (abag : PySem.W.nsIn K mainGlobals "_law_bag" = some (some (.ref fbag)))
    (lbag : K.lookup fbag = some ⟨ocbag, odbag, .func (PySem.W.fnOf "_law_bag" "_law_bag" (defArgs s_law_bag) (defBody s_law_bag) (defScope s_law_bag) .none kVbag dcbag pmbag anbag cdbag ctbag), slbag⟩)
    (cbag : PySem.W.codeIn K cdbag "_law_bag" = true)
    (kbag : PySem.W.keepIn K (.ref fbag) = true)
    (atak : PySem.W.nsIn K mainGlobals "_law_take" = some (some (.ref ftak)))
    (ltak : K.lookup ftak = some ⟨octak, odtak, .func (PySem.W.fnOf "_law_take" "_law_take" (defArgs s_law_take) (defBody s_law_take) (defScope s_law_take) .none kVtak dctak pmtak antak cdtak cttak), sltak⟩)
    (ctak : PySem.W.codeIn K cdtak "_law_take" = true)
    (ktak : PySem.W.keepIn K (.ref ftak) = true)
    (awho : PySem.W.nsIn K mainGlobals "_law_whole" = some (some (.ref fwho)))
    (lwho : K.lookup fwho = some ⟨ocwho, odwho, .func (PySem.W.fnOf "_law_whole" "_law_whole" (defArgs s_law_whole) (defBody s_law_whole) (defScope s_law_whole) .none kVwho dcwho pmwho anwho cdwho ctwho), slwho⟩)
    (cwho : PySem.W.codeIn K cdwho "_law_whole" = true)
    (kwho : PySem.W.keepIn K (.ref fwho) = true)
    (asam : PySem.W.nsIn K mainGlobals "_law_same" = some (some (.ref fsam)))
    (lsam : K.lookup fsam = some ⟨ocsam, odsam, .func (PySem.W.fnOf "_law_same" "_law_same" (defArgs s_law_same) (defBody s_law_same) (defScope s_law_same) .none kVsam dcsam pmsam ansam cdsam ctsam), slsam⟩)
    (csam : PySem.W.codeIn K cdsam "_law_same" = true)
    (ksam : PySem.W.keepIn K (.ref fsam) = true)
    (actr : PySem.W.nsIn K mainGlobals "_law_counter" = some (some (.ref fctr)))
    (lctr : K.lookup fctr = some ⟨occtr, odctr, .func (PySem.W.fnOf "_law_counter" "_law_counter" (defArgs s_law_counter) (defBody s_law_counter) (defScope s_law_counter) .none kVctr dcctr pmctr anctr cdctr ctctr), slctr⟩)
    (cctr : PySem.W.codeIn K cdctr "_law_counter" = true)
    (kctr : PySem.W.keepIn K (.ref fctr) = true)
    (aodd : PySem.W.nsIn K mainGlobals "_law_odd" = some (some (.ref fodd)))
    (lodd : K.lookup fodd = some ⟨ocodd, ododd, .func (PySem.W.fnOf "_law_odd" "_law_odd" (defArgs s_law_odd) (defBody s_law_odd) (defScope s_law_odd) .none kVodd dcodd pmodd anodd cdodd ctodd), slodd⟩)
    (codd : PySem.W.codeIn K cdodd "_law_odd" = true)
    (kodd : PySem.W.keepIn K (.ref fodd) = true)
    (agoo : PySem.W.nsIn K mainGlobals "_law_good" = some (some (.ref fgoo)))
    (lgoo : K.lookup fgoo = some ⟨ocgoo, odgoo, .func (PySem.W.fnOf "_law_good" "_law_good" (defArgs s_law_good) (defBody s_law_good) (defScope s_law_good) .none kVgoo dcgoo pmgoo angoo cdgoo ctgoo), slgoo⟩)
    (cgoo : PySem.W.codeIn K cdgoo "_law_good" = true)
    (kgoo : PySem.W.keepIn K (.ref fgoo) = true)
    (aflt : PySem.W.nsIn K mainGlobals "_law_fault" = some (some (.ref fflt)))
    (lflt : K.lookup fflt = some ⟨ocflt, odflt, .func (PySem.W.fnOf "_law_fault" "_law_fault" (defArgs s_law_fault) (defBody s_law_fault) (defScope s_law_fault) .none kVflt dcflt pmflt anflt cdflt ctflt), slflt⟩)
    (cflt : PySem.W.codeIn K cdflt "_law_fault" = true)
    (kflt : PySem.W.keepIn K (.ref fflt) = true)
    (aspo : PySem.W.nsIn K mainGlobals "_law_spoilt" = some (some (.ref fspo)))
    (lspo : K.lookup fspo = some ⟨ocspo, odspo, .func (PySem.W.fnOf "_law_spoilt" "_law_spoilt" (defArgs s_law_spoilt) (defBody s_law_spoilt) (defScope s_law_spoilt) .none kVspo dcspo pmspo anspo cdspo ctspo), slspo⟩)
    (cspo : PySem.W.codeIn K cdspo "_law_spoilt" = true)
    (kspo : PySem.W.keepIn K (.ref fspo) = true)
    (abui : PySem.W.nsIn K mainGlobals "_law_built" = some (some (.ref fbui)))
    (lbui : K.lookup fbui = some ⟨ocbui, odbui, .func (PySem.W.fnOf "_law_built" "_law_built" (defArgs s_law_built) (defBody s_law_built) (defScope s_law_built) .none kVbui dcbui pmbui anbui cdbui ctbui), slbui⟩)
    (cbui : PySem.W.codeIn K cdbui "_law_built" = true)
    (kbui : PySem.W.keepIn K (.ref fbui) = true)
    (amad : PySem.W.nsIn K mainGlobals "_law_made" = some (some (.ref fmad)))
    (lmad : K.lookup fmad = some ⟨ocmad, odmad, .func (PySem.W.fnOf "_law_made" "_law_made" (defArgs s_law_made) (defBody s_law_made) (defScope s_law_made) .none kVmad dcmad pmmad anmad cdmad ctmad), slmad⟩)
    (cmad : PySem.W.codeIn K cdmad "_law_made" = true)
    (kmad : PySem.W.keepIn K (.ref fmad) = true)
    (acut : PySem.W.nsIn K mainGlobals "_law_cut" = some (some (.ref fcut)))
    (lcut : K.lookup fcut = some ⟨occut, odcut, .func (PySem.W.fnOf "_law_cut" "_law_cut" (defArgs s_law_cut) (defBody s_law_cut) (defScope s_law_cut) .none kVcut dccut pmcut ancut cdcut ctcut), slcut⟩)
    (ccut : PySem.W.codeIn K cdcut "_law_cut" = true)
    (kcut : PySem.W.keepIn K (.ref fcut) = true)
    (ahas : PySem.W.nsIn K mainGlobals "_law_has" = some (some (.ref fhas)))
    (lhas : K.lookup fhas = some ⟨ochas, odhas, .func (PySem.W.fnOf "_law_has" "_law_has" (defArgs s_law_has) (defBody s_law_has) (defScope s_law_has) .none kVhas dchas pmhas anhas cdhas cthas), slhas⟩)
    (chas : PySem.W.codeIn K cdhas "_law_has" = true)
    (khas : PySem.W.keepIn K (.ref fhas) = true)
    (adue : PySem.W.nsIn K mainGlobals "_law_due" = some (some (.ref fdue)))
    (ldue : K.lookup fdue = some ⟨ocdue, oddue, .func (PySem.W.fnOf "_law_due" "_law_due" (defArgs s_law_due) (defBody s_law_due) (defScope s_law_due) .none kVdue dcdue pmdue andue cddue ctdue), sldue⟩)
    (cdue : PySem.W.codeIn K cddue "_law_due" = true)
    (kdue : PySem.W.keepIn K (.ref fdue) = true)
    (amks : PySem.W.nsIn K mainGlobals "_law_makers" = some (some (.ref fmks)))
    (lmks : K.lookup fmks = some ⟨ocmks, odmks, .func (PySem.W.fnOf "_law_makers" "_law_makers" (defArgs s_law_makers) (defBody s_law_makers) (defScope s_law_makers) .none kVmks dcmks pmmks anmks cdmks ctmks), slmks⟩)
    (cmks : PySem.W.codeIn K cdmks "_law_makers" = true)
    (kmks : PySem.W.keepIn K (.ref fmks) = true)
    (acts : PySem.W.nsIn K mainGlobals "_law_cuts" = some (some (.ref fcts)))
    (lcts : K.lookup fcts = some ⟨occts, odcts, .func (PySem.W.fnOf "_law_cuts" "_law_cuts" (defArgs s_law_cuts) (defBody s_law_cuts) (defScope s_law_cuts) .none kVcts dccts pmcts ancts cdcts ctcts), slcts⟩)
    (ccts : PySem.W.codeIn K cdcts "_law_cuts" = true)
    (kcts : PySem.W.keepIn K (.ref fcts) = true)
    (ains : PySem.W.nsIn K mainGlobals "_law_inside" = some (some (.ref fins)))
    (lins : K.lookup fins = some ⟨ocins, odins, .func (PySem.W.fnOf "_law_inside" "_law_inside" (defArgs s_law_inside) (defBody s_law_inside) (defScope s_law_inside) .none kVins dcins pmins anins cdins ctins), slins⟩)
    (cins : PySem.W.codeIn K cdins "_law_inside" = true)
    (kins : PySem.W.keepIn K (.ref fins) = true)
    (apro : PySem.W.nsIn K mainGlobals "_law_probes" = some (some (.ref fpro)))
    (lpro : K.lookup fpro = some ⟨ocpro, odpro, .func (PySem.W.fnOf "_law_probes" "_law_probes" (defArgs s_law_probes) (defBody s_law_probes) (defScope s_law_probes) .none kVpro dcpro pmpro anpro cdpro ctpro), slpro⟩)
    (cpro : PySem.W.codeIn K cdpro "_law_probes" = true)
    (kpro : PySem.W.keepIn K (.ref fpro) = true)
    (acom : PySem.W.nsIn K mainGlobals "_law_common" = some (some (.ref fcom)))
    (lcom : K.lookup fcom = some ⟨occom, odcom, .func (PySem.W.fnOf "_law_common" "_law_common" (defArgs s_law_common) (defBody s_law_common) (defScope s_law_common) .none kVcom dccom pmcom ancom cdcom ctcom), slcom⟩)
    (ccom : PySem.W.codeIn K cdcom "_law_common" = true)
    (kcom : PySem.W.keepIn K (.ref fcom) = true)
    (aprs : PySem.W.nsIn K mainGlobals "_law_pairs" = some (some (.ref fprs)))
    (lprs : K.lookup fprs = some ⟨ocprs, odprs, .func (PySem.W.fnOf "_law_pairs" "_law_pairs" (defArgs s_law_pairs) (defBody s_law_pairs) (defScope s_law_pairs) .none kVprs dcprs pmprs anprs cdprs ctprs), slprs⟩)
    (cprs : PySem.W.codeIn K cdprs "_law_pairs" = true)
    (kprs : PySem.W.keepIn K (.ref fprs) = true)
    (aoth : PySem.W.nsIn K mainGlobals "_law_others" = some (some (.ref foth)))
    (loth : K.lookup foth = some ⟨ocoth, odoth, .func (PySem.W.fnOf "_law_others" "_law_others" (defArgs s_law_others) (defBody s_law_others) (defScope s_law_others) .none kVoth dcoth pmoth anoth cdoth ctoth), sloth⟩)
    (coth : PySem.W.codeIn K cdoth "_law_others" = true)
    (koth : PySem.W.keepIn K (.ref foth) = true)
    (alaw : PySem.W.nsIn K mainGlobals "law" = some (some (.ref flaw)))
    (llaw : K.lookup flaw = some ⟨oclaw, odlaw, .func (PySem.W.fnOf "law" "law" (defArgs s_law) (defBody s_law) (defScope s_law) .none kVlaw dclaw pmlaw anlaw cdlaw ctlaw), sllaw⟩)
    (claw : PySem.W.codeIn K cdlaw "law" = true)
    (klaw : PySem.W.keepIn K (.ref flaw) = true)
    (aN : PySem.W.nsIn K mainGlobals "NotFound" = some (some (.ref CN)))
    (xN : K.lookup CN = some (excClassObj nmN qnN CN NNN bsN bmN true snN subN abN coN ddN m0N m1N m2N m3N m5N "ValueError.__new__"))
    (rbN : PySem.HandSPX.refsVE bmN = true)
    (saN : PySem.W.findIn K (.ref CN) "__setattr__" = some (some (.builtin "object.__setattr__")))
    (ebN : PySem.W.subIn K (.ref CN) (.type "BaseException") = some true)
    (tyN : PySem.W.typeIn K (.ref CN) = some (.type "type"))
    (kcN : PySem.W.keepIn K (.ref CN) = true)
    (inN : PySem.W.findIn K (.ref CN) "__init__" = some (some (.ref fxN)))
    (tfN : PySem.W.typeIn K (.ref fxN) = some (.type "function"))
    (lxN : K.lookup fxN = some ⟨ocxN, odxN, .func (PySem.W.fnOf "__init__" "NotFound.__init__" (defArgs s_NotFound_init) (defBody s_NotFound_init) (defScope s_NotFound_init) .none kVxN dcxN pmxN anxN cdxN ctxN), slxN⟩)
    (cxN : PySem.W.codeIn K cdxN "NotFound.__init__" = true)
    (kxN : PySem.W.keepIn K (.ref fxN) = true)
    (noN_number : PySem.W.findIn K (.ref CN) "number" = some none)
    (aI : PySem.W.nsIn K mainGlobals "InvalidNet" = some (some (.ref CI)))
    (xI : K.lookup CI = some (excClassObj nmI qnI CI NNI bsI bmI true snI subI abI coI ddI m0I m1I m2I m3I m5I "ValueError.__new__"))
    (rbI : PySem.HandSPX.refsVE bmI = true)
    (saI : PySem.W.findIn K (.ref CI) "__setattr__" = some (some (.builtin "object.__setattr__")))
    (ebI : PySem.W.subIn K (.ref CI) (.type "BaseException") = some true)
    (tyI : PySem.W.typeIn K (.ref CI) = some (.type "type"))
    (kcI : PySem.W.keepIn K (.ref CI) = true)
    (inI : PySem.W.findIn K (.ref CI) "__init__" = some (some (.ref fxI)))
    (tfI : PySem.W.typeIn K (.ref fxI) = some (.type "function"))
    (lxI : K.lookup fxI = some ⟨ocxI, odxI, .func (PySem.W.fnOf "__init__" "InvalidNet.__init__" (defArgs s_InvalidNet_init) (defBody s_InvalidNet_init) (defScope s_InvalidNet_init) .none kVxI dcxI pmxI anxI cdxI ctxI), slxI⟩)
    (cxI : PySem.W.codeIn K cdxI "InvalidNet.__init__" = true)
    (kxI : PySem.W.keepIn K (.ref fxI) = true)
    (noI_reason : PySem.W.findIn K (.ref CI) "reason" = some none)
    (noI_position : PySem.W.findIn K (.ref CI) "position" = some none)
    (aB : PySem.W.nsIn K mainGlobals "InvalidBox" = some (some (.ref CB)))
    (xB : K.lookup CB = some (excClassObj nmB qnB CB NNB bsB bmB true snB subB abB coB ddB m0B m1B m2B m3B m5B "ValueError.__new__"))
    (rbB : PySem.HandSPX.refsVE bmB = true)
    (saB : PySem.W.findIn K (.ref CB) "__setattr__" = some (some (.builtin "object.__setattr__")))
    (ebB : PySem.W.subIn K (.ref CB) (.type "BaseException") = some true)
    (tyB : PySem.W.typeIn K (.ref CB) = some (.type "type"))
    (kcB : PySem.W.keepIn K (.ref CB) = true)
    (inB : PySem.W.findIn K (.ref CB) "__init__" = some (some (.ref fxB)))
    (tfB : PySem.W.typeIn K (.ref fxB) = some (.type "function"))
    (lxB : K.lookup fxB = some ⟨ocxB, odxB, .func (PySem.W.fnOf "__init__" "InvalidBox.__init__" (defArgs s_InvalidBox_init) (defBody s_InvalidBox_init) (defScope s_InvalidBox_init) .none kVxB dcxB pmxB anxB cdxB ctxB), slxB⟩)
    (cxB : PySem.W.codeIn K cdxB "InvalidBox.__init__" = true)
    (kxB : PySem.W.keepIn K (.ref fxB) = true)
    (noB_position : PySem.W.findIn K (.ref CB) "position" = some none)
    (aX : PySem.W.nsIn K mainGlobals "InvalidState" = some (some (.ref CX)))
    (aW : PySem.W.nsIn K mainGlobals "WithinCallError" = some (some (.ref CW)))
    (e_hn : PySem.W.specialIn K (.builtin "object.__class__") "__get__" = some (some (.builtin "getset_descriptor.__get__")))
    (e_ht : PySem.W.takesIn K (.builtin "object.__class__") = some true)
    (e_hgB : PySem.W.findIn K (.ref CB) "__getattribute__" = some (some (.builtin "BaseException.__getattribute__")))
    (e_hkB : PySem.W.findIn K (.ref CB) "__getattr__" = some none)
    (e_hdB : PySem.W.hasDictIn K CB = true)
    (e_haB : PySem.W.findIn K (.ref CB) "__class__" = some (some (.builtin "object.__class__")))
    (e_hmB : PySem.W.mroIn K CB (.type "object") = some true)
    (e_hgN : PySem.W.findIn K (.ref CN) "__getattribute__" = some (some (.builtin "BaseException.__getattribute__")))
    (e_hkN : PySem.W.findIn K (.ref CN) "__getattr__" = some none)
    (e_hdN : PySem.W.hasDictIn K CN = true)
    (e_haN : PySem.W.findIn K (.ref CN) "__class__" = some (some (.builtin "object.__class__")))
    (e_hmN : PySem.W.mroIn K CN (.type "object") = some true)
    (exm_BB : PySem.W.exmOne K (.ref CB) (.ref CB) = some true)
    (exm_BN : PySem.W.exmOne K (.ref CB) (.ref CN) = some false)
    (exm_NN : PySem.W.exmOne K (.ref CN) (.ref CN) = some true)
    (kit_BW : PySem.W.kitOne K (.ref CB) (.ref CW) = some true)
    (kit_BX : PySem.W.kitOne K (.ref CB) (.ref CX) = some false)
    (kit_NW : PySem.W.kitOne K (.ref CN) (.ref CW) = some true)
    (kit_BV : PySem.W.kitOne K (.ref CB) (.type "ValueError") = some true)
    (kit_NV : PySem.W.kitOne K (.ref CN) (.type "ValueError") = some true)
    (aNet : PySem.W.nsIn K mainGlobals "Net" = some (some (.ref N)))
    (rdN : PySem.W.readsIn K N (.type "type") = true)
    (gaN : PySem.W.specialIn K (.ref N) "__getattribute__" = some (some (.builtin "type.__getattribute__")))
    (cv1 : PySem.W.findCls K (.ref N) (.type "type") "MOST_STAGES" = some (.val (.int 40 t1)))
    (cv2 : PySem.W.findCls K (.ref N) (.type "type") "MOST_CHANNELS" = some (.val (.int 120 t2)))
    (cv3 : PySem.W.findCls K (.ref N) (.type "type") "MOST_CAPACITY" = some (.val (.int 999 t3)))
    (cv4 : PySem.W.findCls K (.ref N) (.type "type") "MOST_COUNTER" = some (.val (.int 999 t4)))
    (fIC : PySem.W.findCls K (.ref N) (.type "type") "is_capacity" = some (.get (.builtin "staticmethod.__get__") (.ref pIC) .none (.ref N)))
    (rIC : PySem.W.recIn K pIC "staticmethod" = some (.ref gIC :: restIC))
    (lIC : K.lookup gIC = some ⟨ocIC, odIC, .func (PySem.W.fnOf "is_capacity" "Net.is_capacity" (defArgs s_Net_is_capacity) (defBody s_Net_is_capacity) (defScope s_Net_is_capacity) .none kVIC dcIC pmIC anIC cdIC ctIC), slIC⟩)
    (cIC : PySem.W.codeIn K cdIC "Net.is_capacity" = true)
    (kIC : PySem.W.keepIn K (.ref gIC) = true)
    (aP : PySem.W.nsIn K mainGlobals "Pipeline" = some (some (.ref CP)))
    (pgP : PySem.W.plainGet K CP Str.empty = true)
    (hdP : PySem.W.hasDictIn K CP = true)
    (poP : PySem.W.plainOver K CP = true)
    (stP : PySem.W.findIn K (.ref CP) "__setattr__" = some (some (.builtin "object.__setattr__")))
    (nSP : PySem.W.findIn K (.ref CP) "stages" = some none)
    (nCP : PySem.W.findIn K (.ref CP) "channels" = some none)
    (nJP : PySem.W.findIn K (.ref CP) "_incoming" = some none)
    (nOP : PySem.W.findIn K (.ref CP) "_outgoing" = some none)
    (mkP : PySem.W.makesIn K CP = true)
    (keP : PySem.W.keepIn K (.ref CP) = true)
    (itP : PySem.W.findIn K (.ref CP) "__init__" = some (some (.ref iniP)))
    (ifP : PySem.W.isFn K (.ref iniP) = true)
    (sl_P : K.lookup iniP = some ⟨oSP, qSP, .func (PySem.W.fnX "__init__" "Pipeline.__init__" (defArgs s_Pipeline_init) (defBody s_Pipeline_init) (defScope s_Pipeline_init) [(cls_, ccP)] .none (.ref Dk) dSP pSP nSP_ (.ref cdaP) tSP), sSP⟩)
    (sc_P : PySem.W.codeIn K (.ref cdaP) "Pipeline.__init__" = true)
    (ce_P : K.lookup ccP = some ⟨kc_P, dc_P, .cell (some (.ref CP)), lc_P⟩)
    (co_P : K.lookup cdaP = some ⟨o1P, o2P, .fields vsP, o3P⟩)
    (fi_P : vsP[2]? = some (.str fileP tkP))
    (fe_P : ((PySem.Challenge.pw_withincall_k18_boxes.main.file : Str) == fileP) = true)
    (di_P : (PySem.W.clsIn K CP).isSome = true)
    (mr_P : PySem.W.mroIn K CP (.ref CP) = some true)
    (ks_P : PySem.W.ks_superIn K CP CP "__init__" = some (some (.ref fNI)))
    (opq : PySem.W.nsIn K cStatics "thirdparty.any" = some none)
    (tyNI : PySem.W.typeIn K (.ref fNI) = some (.type "function"))
    (fnNI : PySem.W.fnIn K fNI = true)
    (lNI : K.lookup fNI = some ⟨ocNI, odNI, .func (PySem.W.fnOf "__init__" "Net.__init__" (defArgs s_Net_init) (defBody s_Net_init) (defScope s_Net_init) .none kVNI dcNI pmNI anNI cdNI ctNI), slNI⟩)
    (cNI : PySem.W.codeIn K cdNI "Net.__init__" = true)
    (kNI : PySem.W.keepIn K (.ref fNI) = true)
    (capD : PySem.W.nsIn K Dk "capacity" = some (some (.int 1 tD)))
    (aBx : PySem.W.nsIn K mainGlobals "Box" = some (some (.ref BX)))
    (rdB : PySem.W.readsIn K BX (.type "type") = true)
    (gaB : PySem.W.specialIn K (.ref BX) "__getattribute__" = some (some (.builtin "type.__getattribute__")))
    (cb1 : PySem.W.findCls K (.ref BX) (.type "type") "LOWEST" = some (.val (.int 0 tb1)))
    (cb2 : PySem.W.findCls K (.ref BX) (.type "type") "HIGHEST" = some (.val (.int 999 tb2)))
    (pgB : PySem.W.plainGet K BX Str.empty = true)
    (hdB : PySem.W.hasDictIn K BX = true)
    (poB : PySem.W.plainOver K BX = true)
    (stB : PySem.W.findIn K (.ref BX) "__setattr__" = some (some (.builtin "object.__setattr__")))
    (nlB : PySem.W.findIn K (.ref BX) "lows" = some none)
    (nhB : PySem.W.findIn K (.ref BX) "highs" = some none)
    (mkB : PySem.W.makesIn K BX = true)
    (keB : PySem.W.keepIn K (.ref BX) = true)
    (itB : PySem.W.findIn K (.ref BX) "__init__" = some (some (.ref iniB)))
    (ifB : PySem.W.isFn K (.ref iniB) = true)
    (lBi : K.lookup iniB = some ⟨ocBi, odBi, .func (PySem.W.fnOf "__init__" "Box.__init__" (defArgs s_Box_init) (defBody s_Box_init) (defScope s_Box_init) .none kVBi dcBi pmBi anBi cdBi ctBi), slBi⟩)
    (cBi : PySem.W.codeIn K cdBi "Box.__init__" = true)
    (kBi : PySem.W.keepIn K (.ref iniB) = true)
    (fFu_ : PySem.W.findCls K (.ref BX) (.type "type") "full" = some (.get (.builtin "staticmethod.__get__") (.ref pFu) .none (.ref BX)))
    (rFu_ : PySem.W.recIn K pFu "staticmethod" = some (.ref gFu :: rFu))
    (lFu : K.lookup gFu = some ⟨ocFu, odFu, .func (PySem.W.fnOf "full" "Box.full" (defArgs s_Box_full) (defBody s_Box_full) (defScope s_Box_full) .none kVFu dcFu pmFu anFu cdFu ctFu), slFu⟩)
    (cFu : PySem.W.codeIn K cdFu "Box.full" = true)
    (kFu : PySem.W.keepIn K (.ref gFu) = true)
    (fEx_ : PySem.W.findCls K (.ref BX) (.type "type") "exactly" = some (.get (.builtin "staticmethod.__get__") (.ref pEx) .none (.ref BX)))
    (rEx_ : PySem.W.recIn K pEx "staticmethod" = some (.ref gEx :: rEx))
    (lEx : K.lookup gEx = some ⟨ocEx, odEx, .func (PySem.W.fnOf "exactly" "Box.exactly" (defArgs s_Box_exactly) (defBody s_Box_exactly) (defScope s_Box_exactly) .none kVEx dcEx pmEx anEx cdEx ctEx), slEx⟩)
    (cEx : PySem.W.codeIn K cdEx "Box.exactly" = true)
    (kEx : PySem.W.keepIn K (.ref gEx) = true)
    (p_na : PySem.W.findIn K (.ref BX) "narrowed" = some (some (.ref qna)))
    (i_na : PySem.W.isFn K (.ref qna) = true)
    (lna : K.lookup qna = some ⟨ocn, odn, .func (PySem.W.fnOf "narrowed" "Box.narrowed" (defArgs s_Box_narrowed) (defBody s_Box_narrowed) (defScope s_Box_narrowed) .none (.ref Dn) dcn pmn ann cdn ctn), sln⟩)
    (cna : PySem.W.codeIn K cdn "Box.narrowed" = true)
    (kna : PySem.W.keepIn K (.ref qna) = true)
    (dn0 : PySem.W.nsIn K Dn "low" = some (some (.int 0 tn1)))
    (dn1 : PySem.W.nsIn K Dn "high" = some (some (.int 999 tn2)))
    (p_co : PySem.W.findIn K (.ref BX) "__contains__" = some (some (.ref qco)))
    (i_co : PySem.W.isFn K (.ref qco) = true)
    (lMco : K.lookup qco = some ⟨ocMco, odMco, .func (PySem.W.fnOf "__contains__" "Box.__contains__" (defArgs s_Box_contains) (defBody s_Box_contains) (defScope s_Box_contains) .none kVMco dcMco pmMco anMco cdMco ctMco), slMco⟩)
    (cMco : PySem.W.codeIn K cdMco "Box.__contains__" = true)
    (kMco : PySem.W.keepIn K (.ref qco) = true)
    (p_an : PySem.W.findIn K (.ref BX) "__and__" = some (some (.ref qan)))
    (i_an : PySem.W.isFn K (.ref qan) = true)
    (lMan : K.lookup qan = some ⟨ocMan, odMan, .func (PySem.W.fnOf "__and__" "Box.__and__" (defArgs s_Box_and) (defBody s_Box_and) (defScope s_Box_and) .none kVMan dcMan pmMan anMan cdMan ctMan), slMan⟩)
    (cMan : PySem.W.codeIn K cdMan "Box.__and__" = true)
    (kMan : PySem.W.keepIn K (.ref qan) = true)
    (p_eq : PySem.W.findIn K (.ref BX) "__eq__" = some (some (.ref qeq)))
    (i_eq : PySem.W.isFn K (.ref qeq) = true)
    (lMeq : K.lookup qeq = some ⟨ocMeq, odMeq, .func (PySem.W.fnOf "__eq__" "Box.__eq__" (defArgs s_Box_eq) (defBody s_Box_eq) (defScope s_Box_eq) .none kVMeq dcMeq pmMeq anMeq cdMeq ctMeq), slMeq⟩)
    (cMeq : PySem.W.codeIn K cdMeq "Box.__eq__" = true)
    (kMeq : PySem.W.keepIn K (.ref qeq) = true)
    (p_bo : PySem.W.findIn K (.ref BX) "__bool__" = some (some (.ref qbo)))
    (i_bo : PySem.W.isFn K (.ref qbo) = true)
    (lMbo : K.lookup qbo = some ⟨ocMbo, odMbo, .func (PySem.W.fnOf "__bool__" "Box.__bool__" (defArgs s_Box_bool) (defBody s_Box_bool) (defScope s_Box_bool) .none kVMbo dcMbo pmMbo anMbo cdMbo ctMbo), slMbo⟩)
    (cMbo : PySem.W.codeIn K cdMbo "Box.__bool__" = true)
    (kMbo : PySem.W.keepIn K (.ref qbo) = true)
    (sfB : PySem.W.selfFirst K BX = true)
    (nfBB : PySem.W.notFirst K BX (.ref BX) = true)
    (neBx : PySem.W.findIn K (.ref BX) "__ne__" = some (some (.builtin "object.__ne__")))
    (hmBx : PySem.W.mroIn K BX (.type "object") = some true)
    (nfBxint : PySem.W.notFirst K BX (.type "int") = true)
    (nfBxbool : PySem.W.notFirst K BX (.type "bool") = true)
    (nfBxNoneType : PySem.W.notFirst K BX (.type "NoneType") = true)
    (nfBxstr : PySem.W.notFirst K BX (.type "str") = true)
    (nfBxtuple : PySem.W.notFirst K BX (.type "tuple") = true)
    (nfBxlist : PySem.W.notFirst K BX (.type "list") = true)
    (mrBxint : PySem.W.mroIn K BX (.type "int") = some false)
    (mrBxNoneType : PySem.W.mroIn K BX (.type "NoneType") = some false)
    (mrBxstr : PySem.W.mroIn K BX (.type "str") = some false)
    (mrBxtuple : PySem.W.mroIn K BX (.type "tuple") = some false)
    (mrBxlist : PySem.W.mroIn K BX (.type "list") = some false)
    (haB : PySem.W.findIn K (.ref BX) "__class__" = some (some (.builtin "object.__class__")))
    (kBB : PySem.W.kitOne K (.ref BX) (.ref BX) = some true)
    (kBtu : PySem.W.kitOne K (.ref BX) (.type "tuple") = some false)
    (kBNoneType : PySem.W.kitOne K (.type "NoneType") (.ref BX) = some false)
    (kBint : PySem.W.kitOne K (.type "int") (.ref BX) = some false)
    (kBbool : PySem.W.kitOne K (.type "bool") (.ref BX) = some false)
    (kBstr : PySem.W.kitOne K (.type "str") (.ref BX) = some false)
    (kBtuple : PySem.W.kitOne K (.type "tuple") (.ref BX) = some false)
    (kBlist : PySem.W.kitOne K (.type "list") (.ref BX) = some false)
    (p_ne : PySem.W.findIn K (.ref CP) "__eq__" = some (some (.ref qne)))
    (i_ne : PySem.W.isFn K (.ref qne) = true)
    (lMne : K.lookup qne = some ⟨ocMne, odMne, .func (PySem.W.fnOf "__eq__" "Net.__eq__" (defArgs s_Net_eq) (defBody s_Net_eq) (defScope s_Net_eq) .none kVMne dcMne pmMne anMne cdMne ctMne), slMne⟩)
    (cMne : PySem.W.codeIn K cdMne "Net.__eq__" = true)
    (kMne : PySem.W.keepIn K (.ref qne) = true)
    (nePp : PySem.W.findIn K (.ref CP) "__ne__" = some (some (.builtin "object.__ne__")))
    (hmPp : PySem.W.mroIn K CP (.type "object") = some true)
    (nfPpint : PySem.W.notFirst K CP (.type "int") = true)
    (nfPpbool : PySem.W.notFirst K CP (.type "bool") = true)
    (nfPpNoneType : PySem.W.notFirst K CP (.type "NoneType") = true)
    (nfPpstr : PySem.W.notFirst K CP (.type "str") = true)
    (nfPptuple : PySem.W.notFirst K CP (.type "tuple") = true)
    (nfPplist : PySem.W.notFirst K CP (.type "list") = true)
    (mrPpint : PySem.W.mroIn K CP (.type "int") = some false)
    (mrPpNoneType : PySem.W.mroIn K CP (.type "NoneType") = some false)
    (mrPpstr : PySem.W.mroIn K CP (.type "str") = some false)
    (mrPptuple : PySem.W.mroIn K CP (.type "tuple") = some false)
    (mrPplist : PySem.W.mroIn K CP (.type "list") = some false)
    (haP : PySem.W.findIn K (.ref CP) "__class__" = some (some (.builtin "object.__class__")))
    (kPB : PySem.W.kitOne K (.ref CP) (.ref BX) = some false)
    (kBN : PySem.W.kitOne K (.ref BX) (.ref N) = some false)
    (nfBP : PySem.W.notFirst K BX (.ref CP) = true)
    (nfPB : PySem.W.notFirst K CP (.ref BX) = true) :
    ∃ fd : FuncData, (∀ (s : Shared) (v : Value), BindsTo s fd ⟨[v], []⟩ [("script", v)]) ∧ ∀ base : Heap, K.In base → base.Ns mainGlobals mg → FnOk PK w K mg base (L2.CX PK w) 9 fa fd ["script"] (spLaw K) := by
  have e := hfa.symm.trans (PySem.W.mg_of X G alaw)
  cases e
  refine ⟨PySem.W.fnOf "law" "law" (defArgs s_law) (defBody s_law) (defScope s_law) .none kVlaw dclaw pmlaw anlaw cdlaw ctlaw, fun s v => .of_eq rfl, fun base _ _ => ?_⟩
  have m1 : ∀ {x : Str} {v : Value}, PySem.W.nsIn K mainGlobals x = some (some v) → mg x = some v := fun {x v} e => PySem.W.mg_of X G e
  have m0 : ∀ {x : Str}, PySem.W.nsIn K mainGlobals x = some none → mg x = none := fun {x} e => PySem.W.mg_none_of X G e
  have B : Blt mg := ⟨m0 z_isi, m0 z_int, m0 z_bool, m0 z_tuple, m0 z_list, m0 z_str, m0 z_len, m0 z_range, m0 z_sorted, m0 z_enum, m0 z_sum, m0 z_all, m0 z_max, m0 z_min, m0 z_verr⟩
  have Fbtw := fun_mk (st := s_is_between) lbtw cbtw kbtw
  have bbtw := Fbtw.binds (ps := ["value", "low", "high"]) fun _ _ _ _ _ _ us hl => match us, hl with | [_, _, _], _ => rfl
  have Fchk := fun_mk (st := s_check_number) lchk cchk kchk
  have bchk := Fchk.binds (ps := ["value", "many"]) fun _ _ _ _ _ _ us hl => match us, hl with | [_, _], _ => rfl
  have Fnat := fun_mk (st := s_numbers_at) lnat cnat knat
  have bnat := Fnat.binds (ps := ["stages", "ends"]) fun _ _ _ _ _ _ us hl => match us, hl with | [_, _], _ => rfl
  have Fjoi := fun_mk (st := s_joins_two_stages) ljoi cjoi kjoi
  have bjoi := Fjoi.binds (ps := ["stages", "channel"]) fun _ _ _ _ _ _ us hl => match us, hl with | [_, _], _ => rfl
  have Fcir := fun_mk (st := s_has_circle) lcir ccir kcir
  have bcir := Fcir.binds (ps := ["channels"]) fun _ _ _ _ _ _ us hl => match us, hl with | [_], _ => rfl
  have Fcch := fun_mk (st := s_check_channels) lcch ccch kcch
  have bcch := Fcch.binds (ps := ["stages", "channels"]) fun _ _ _ _ _ _ us hl => match us, hl with | [_, _], _ => rfl
  have Fwic := fun_mk (st := s_with_capacity) lwic cwic kwic
  have bwic := Fwic.binds (ps := ["channel", "capacity"]) fun _ _ _ _ _ _ us hl => match us, hl with | [_, _], _ => rfl
  have Fisc := fun_mk (st := s_is_counter) lisc cisc kisc
  have bisc := Fisc.binds (ps := ["value"]) fun _ _ _ _ _ _ us hl => match us, hl with | [_], _ => rfl
  have Fisr := fun_mk (st := s_is_row) lisr cisr kisr
  have bisr := Fisr.binds (ps := ["value"]) fun _ _ _ _ _ _ us hl => match us, hl with | [_], _ => rfl
  have Fcwi := fun_mk (st := s_check_windows) lcwi ccwi kcwi
  have bcwi := Fcwi.binds (ps := ["lows", "highs"]) fun _ _ _ _ _ _ us hl => match us, hl with | [_, _], _ => rfl
  have Fbag := fun_mk (st := s_law_bag) lbag cbag kbag
  have bbag := Fbag.binds (ps := ["script"]) fun _ _ _ _ _ _ us hl => match us, hl with | [_], _ => rfl
  have Ftak := fun_mk (st := s_law_take) ltak ctak ktak
  have btak := Ftak.binds (ps := ["bag", "size"]) fun _ _ _ _ _ _ us hl => match us, hl with | [_, _], _ => rfl
  have Fwho := fun_mk (st := s_law_whole) lwho cwho kwho
  have bwho := Fwho.binds (ps := ["one"]) fun _ _ _ _ _ _ us hl => match us, hl with | [_], _ => rfl
  have Fsam := fun_mk (st := s_law_same) lsam csam ksam
  have bsam := Fsam.binds (ps := ["told", "due"]) fun _ _ _ _ _ _ us hl => match us, hl with | [_, _], _ => rfl
  have Fctr := fun_mk (st := s_law_counter) lctr cctr kctr
  have bctr := Fctr.binds (ps := ["bag"]) fun _ _ _ _ _ _ us hl => match us, hl with | [_], _ => rfl
  have Fodd := fun_mk (st := s_law_odd) lodd codd kodd
  have bodd := Fodd.binds (ps := ["bag"]) fun _ _ _ _ _ _ us hl => match us, hl with | [_], _ => rfl
  have Fgoo := fun_mk (st := s_law_good) lgoo cgoo kgoo
  have bgoo := Fgoo.binds (ps := ["one"]) fun _ _ _ _ _ _ us hl => match us, hl with | [_], _ => rfl
  have Fflt := fun_mk (st := s_law_fault) lflt cflt kflt
  have bflt := Fflt.binds (ps := ["bottoms", "roofs"]) fun _ _ _ _ _ _ us hl => match us, hl with | [_, _], _ => rfl
  have Fspo := fun_mk (st := s_law_spoilt) lspo cspo kspo
  have bspo := Fspo.binds (ps := ["bag", "row"]) fun _ _ _ _ _ _ us hl => match us, hl with | [_, _], _ => rfl
  have Fbui := fun_mk (st := s_law_built) lbui cbui kbui
  have bbui := Fbui.binds (ps := ["bottoms", "roofs"]) fun _ _ _ _ _ _ us hl => match us, hl with | [_, _], _ => rfl
  have Fmad := fun_mk (st := s_law_made) lmad cmad kmad
  have bmad := Fmad.binds (ps := ["way", "one"]) fun _ _ _ _ _ _ us hl => match us, hl with | [_, _], _ => rfl
  have Fcut := fun_mk (st := s_law_cut) lcut ccut kcut
  have bcut := Fcut.binds (ps := ["box", "stage", "way", "one", "two"]) fun _ _ _ _ _ _ us hl => match us, hl with | [_, _, _, _, _], _ => rfl
  have Fhas := fun_mk (st := s_law_has) lhas chas khas
  have bhas := Fhas.binds (ps := ["box", "bottoms", "roofs"]) fun _ _ _ _ _ _ us hl => match us, hl with | [_, _, _], _ => rfl
  have Fdue := fun_mk (st := s_law_due) ldue cdue kdue
  have bdue := Fdue.binds (ps := ["told", "fault", "bottoms", "roofs"]) fun _ _ _ _ _ _ us hl => match us, hl with | [_, _, _, _], _ => rfl
  have Fmks := fun_mk (st := s_law_makers) lmks cmks kmks
  have bmks := Fmks.binds (ps := ["bag", "many"]) fun _ _ _ _ _ _ us hl => match us, hl with | [_, _], _ => rfl
  have Fcts := fun_mk (st := s_law_cuts) lcts ccts kcts
  have bcts := Fcts.binds (ps := ["bag", "box", "bottoms", "roofs"]) fun _ _ _ _ _ _ us hl => match us, hl with | [_, _, _, _], _ => rfl
  have Fins := fun_mk (st := s_law_inside) lins cins kins
  have bins := Fins.binds (ps := ["probe", "bottoms", "roofs"]) fun _ _ _ _ _ _ us hl => match us, hl with | [_, _, _], _ => rfl
  have Fpro := fun_mk (st := s_law_probes) lpro cpro kpro
  have bpro := Fpro.binds (ps := ["bag", "box", "bottoms", "roofs"]) fun _ _ _ _ _ _ us hl => match us, hl with | [_, _, _, _], _ => rfl
  have Fcom := fun_mk (st := s_law_common) lcom ccom kcom
  have bcom := Fcom.binds (ps := ["one", "two"]) fun _ _ _ _ _ _ us hl => match us, hl with | [_, _], _ => rfl
  have Fprs := fun_mk (st := s_law_pairs) lprs cprs kprs
  have bprs := Fprs.binds (ps := ["bag", "box", "bottoms", "roofs"]) fun _ _ _ _ _ _ us hl => match us, hl with | [_, _, _, _], _ => rfl
  have Foth := fun_mk (st := s_law_others) loth coth koth
  have both := Foth.binds (ps := ["bag", "box", "bottoms", "roofs"]) fun _ _ _ _ _ _ us hl => match us, hl with | [_, _, _, _], _ => rfl
  have Flaw := fun_mk (st := s_law) llaw claw klaw
  have blaw := Flaw.binds (ps := ["script"]) fun _ _ _ _ _ _ us hl => match us, hl with | [_], _ => rfl
  have B2 : Blt2 mg := ⟨m0 z_zip, m0 z_rev⟩
  have B3 : Blt3 mg := ⟨m0 z_abs⟩
  have Dbtw : DefR PK w K mg base "is_between" 1 (spBtw K) := ⟨fbtw, m1 abtw, kbtw, raw0 (ok_is_between Fbtw B) bbtw⟩
  have TN : OexC K CN := ⟨⟨nmN, qnN, NNN, bsN, bmN, snN, subN, abN, coN, ddN, m0N, m1N, m2N, m3N, m5N, xN, rbN⟩, saN, ebN, tyN, kcN⟩
  have FxN := fun_mk (st := s_NotFound_init) lxN cxN kxN
  have bxN := FxN.binds (ps := ["self", "number"]) fun _ _ _ _ _ _ us hl => match us, hl with | [_, _], _ => rfl
  have EN : ExcR PK w K mg base "NotFound" CN 1 1 flN := ⟨TN, m1 aN, fxN, _, ["self", "number"], inN, tfN, bxN, ok_NotFound_init FxN TN noN_number⟩
  have TI : OexC K CI := ⟨⟨nmI, qnI, NNI, bsI, bmI, snI, subI, abI, coI, ddI, m0I, m1I, m2I, m3I, m5I, xI, rbI⟩, saI, ebI, tyI, kcI⟩
  have FxI := fun_mk (st := s_InvalidNet_init) lxI cxI kxI
  have bxI := FxI.binds (ps := ["self", "reason", "position"]) fun _ _ _ _ _ _ us hl => match us, hl with | [_, _, _], _ => rfl
  have EI : ExcR PK w K mg base "InvalidNet" CI 1 2 flI := ⟨TI, m1 aI, fxI, _, ["self", "reason", "position"], inI, tfI, bxI, ok_InvalidNet_init FxI TI noI_reason noI_position⟩
  have TB : OexC K CB := ⟨⟨nmB, qnB, NNB, bsB, bmB, snB, subB, abB, coB, ddB, m0B, m1B, m2B, m3B, m5B, xB, rbB⟩, saB, ebB, tyB, kcB⟩
  have FxB := fun_mk (st := s_InvalidBox_init) lxB cxB kxB
  have bxB := FxB.binds (ps := ["self", "position"]) fun _ _ _ _ _ _ us hl => match us, hl with | [_, _], _ => rfl
  have EB : ExcR PK w K mg base "InvalidBox" CB 1 1 flP := ⟨TB, m1 aB, fxB, _, ["self", "position"], inB, tfB, bxB, ok_InvalidBox_init FxB TB noB_position⟩
  have XCB : ExcC K CB := ⟨e_hgB, e_hkB, ebB, e_hdB, e_haB, e_hn, e_ht, e_hmB⟩
  have XFB : XfC K CB := ⟨e_hgB, e_hkB, ebB, e_hdB⟩
  have XCN : ExcC K CN := ⟨e_hgN, e_hkN, ebN, e_hdN, e_haN, e_hn, e_ht, e_hmN⟩
  have XFN : XfC K CN := ⟨e_hgN, e_hkN, ebN, e_hdN⟩
  have RB : RefB K mg CW CB CX CN := ⟨m1 aB, m1 aW, m1 aX, m1 aN, exm_BB, exm_BN, exm_NN, XCB, XFB, XCN, XFN, kit_BW, kit_BX, kit_BV, kit_NW, kit_NV, noB_position, noN_number⟩
  have Dchk : DefR PK w K mg base "check_number" 3 (spCheckNumber K CN) := ⟨fchk, m1 achk, kchk, raw0 (ok_check_number (k := 0) Fchk Dbtw EN) bchk⟩
  have Dnat : DefR PK w K mg base "_numbers_at" 1 spNums := ⟨fnat, m1 anat, knat, raw0 (ok_numbers_at Fnat B) bnat⟩
  have Z : NetK K mg N := ⟨m1 aNet, .type "type", ⟨rdN, gaN⟩, ⟨_, cv1, _, rfl⟩, ⟨_, cv2, _, rfl⟩, ⟨_, cv3, _, rfl⟩, ⟨_, cv4, _, rfl⟩⟩
  have FIC := fun_mk (st := s_Net_is_capacity) lIC cIC kIC
  have bIC := FIC.binds (ps := ["value"]) fun _ _ _ _ _ _ us hl => match us, hl with | [_], _ => rfl
  have SIC : StaR PK w K mg base N "is_capacity" 2 (spCap K) := ⟨.type "type", pIC, gIC, ⟨rdN, gaN, fIC, ⟨_, rIC⟩, kIC⟩, raw0 (ok_is_capacity FIC Z Dbtw) bIC⟩
  have Djoi : DefR PK w K mg base "_joins_two_stages" 2 (spJoins K) := ⟨fjoi, m1 ajoi, kjoi, raw0 (ok_joins Fjoi B Dbtw) bjoi⟩
  have Dcir : DefR PK w K mg base "has_circle" 1 spNoCircle := ⟨fcir, m1 acir, kcir, raw0 (ok_has_circle Fcir B) bcir⟩
  have Dwic : DefR PK w K mg base "_with_capacity" 1 spWith := ⟨fwic, m1 awic, kwic, raw0 (ok_with_capacity Fwic B) bwic⟩
  have Dcch : DefR PK w K mg base "_check_channels" 3 spCheckCh := ⟨fcch, m1 acch, kcch, raw0 (ok_check_channels Fcch B Z Djoi SIC EI) bcch⟩
  have NCP : NetCls K CP := ⟨⟨pgP, hdP, poP, stP⟩, nSP, nCP, nJP, nOP⟩
  have FNI := fun_mk (st := s_Net_init) lNI cNI kNI
  have bNI := FNI.binds (ps := ["self", "stages", "channels"]) fun _ _ _ _ _ _ us hl => match us, hl with | [_, _, _], _ => rfl
  have RNIP : FnR PK w K mg base (L2.CX PK w) 2 fNI (spNetInit CP) := raw0 (ok_Net_init FNI B NCP Dnat) bNI
  have SUP : SupTxt PK K mg CP CP fNI "__init__" := ⟨Option.isSome_iff_exists.mp di_P, mr_P, m0 z_sup, by decide +kernel, by decide +kernel, opq, ks_P, tyNI, fnNI⟩
  have SFP : SFun PK K "__init__" "Pipeline.__init__" s_Pipeline_init iniP ccP CP (.ref Dk) := ⟨⟨_, _, _, _, _, _, _, _, _, _, _, _, _, _, _, _, _, sl_P, sc_P, ce_P, co_P, fi_P, fe_P⟩⟩
  have MkP : Mk K CP iniP := ⟨mkP, itP, ifP, keP⟩
  have DP : ClsR PK w K mg base CP 4 (spPipe CP) := ⟨iniP, MkP, ok_Pipeline_init SFP capD ⟨_, rfl⟩ B Z Dbtw Dcch SIC Dwic Dcir EI SUP RNIP⟩
  have ZB : BoxK K mg BX := ⟨m1 aBx, .type "type", ⟨rdB, gaB⟩, ⟨_, cb1, _, rfl⟩, ⟨_, cb2, _, rfl⟩⟩
  have TBX : BoxC K BX := ⟨⟨pgB, hdB, poB, stB⟩, nlB, nhB⟩
  have Disc : DefR PK w K mg base "_is_counter" 2 (spIC K) := ⟨fisc, m1 aisc, kisc, raw0 (ok_is_counter Fisc ZB Dbtw) bisc⟩
  have Disr : DefR PK w K mg base "_is_row" 1 (spIR K) := ⟨fisr, m1 aisr, kisr, raw0 (ok_is_row Fisr B Z) bisr⟩
  have Dcwi : DefR PK w K mg base "_check_windows" 3 (spCW K CB) := ⟨fcwi, m1 acwi, kcwi, raw0 (ok_check_windows Fcwi B B2 Disr Disc EB) bcwi⟩
  have FBi := fun_mk (st := s_Box_init) lBi cBi kBi
  have bBi := FBi.binds (ps := ["self", "lows", "highs"]) fun _ _ _ _ _ _ us hl => match us, hl with | [_, _, _], _ => rfl
  have DB : ClsR PK w K mg base BX 4 (spBoxI K BX CB) := ⟨iniB, ⟨mkB, itB, ifB, keB⟩, raw0 (ok_Box_init FBi TBX Dcwi) bBi⟩
  have FFu := fun_mk (st := s_Box_full) lFu cFu kFu
  have bFu := FFu.binds (ps := ["stages"]) fun _ _ _ _ _ _ us hl => match us, hl with | [_], _ => rfl
  have SFu : StaR PK w K mg base BX "full" 6 (spFull K BX CB) := ⟨.type "type", pFu, gFu, ⟨rdB, gaB, fFu_, ⟨_, rFu_⟩, kFu⟩, raw0 (ok_Box_full FFu Z ZB Dbtw EB DB) bFu⟩
  have FEx := fun_mk (st := s_Box_exactly) lEx cEx kEx
  have bEx := FEx.binds (ps := ["state"]) fun _ _ _ _ _ _ us hl => match us, hl with | [_], _ => rfl
  have SEx : StaR PK w K mg base BX "exactly" 6 (spExact K BX CB) := ⟨.type "type", pEx, gEx, ⟨rdB, gaB, fEx_, ⟨_, rEx_⟩, kEx⟩, raw0 (ok_Box_exactly FEx ZB DB) bEx⟩
  have Fna := fun_mk (st := s_Box_narrowed) lna cna kna
  have okN := ok_Box_narrowed (P := PK) (w := w) (base := base) Fna B ZB TBX Dchk Disc EB DB
  have FD := nar_F lna cna kna dn0 dn1
  have MN : Meth K BX "narrowed" qna := ⟨p_na, i_na, kna⟩
  have M0 := nar_D FD TBX.cl MN okN
  have M1 := nar_1 FD TBX.cl MN okN
  have M2 := nar_2 FD TBX.cl MN okN
  have M3 := nar_3 FD TBX.cl MN okN
  have FMco := fun_mk (st := s_Box_contains) lMco cMco kMco
  have bMco := FMco.binds (ps := ["self", "state"]) fun _ _ _ _ _ _ us hl => match us, hl with | [_, _], _ => rfl
  have Oco : OwnM K BX "__contains__" qco := ⟨p_co, i_co⟩
  have FMan := fun_mk (st := s_Box_and) lMan cMan kMan
  have bMan := FMan.binds (ps := ["self", "other"]) fun _ _ _ _ _ _ us hl => match us, hl with | [_, _], _ => rfl
  have Oan : OwnM K BX "__and__" qan := ⟨p_an, i_an⟩
  have FMeq := fun_mk (st := s_Box_eq) lMeq cMeq kMeq
  have bMeq := FMeq.binds (ps := ["self", "other"]) fun _ _ _ _ _ _ us hl => match us, hl with | [_, _], _ => rfl
  have Oeq : OwnM K BX "__eq__" qeq := ⟨p_eq, i_eq⟩
  have FMbo := fun_mk (st := s_Box_bool) lMbo cMbo kMbo
  have bMbo := FMbo.binds (ps := ["self"]) fun _ _ _ _ _ _ us hl => match us, hl with | [_], _ => rfl
  have Obo : OwnM K BX "__bool__" qbo := ⟨p_bo, i_bo⟩
  have TEb : EqO K BX qeq := ⟨Oeq, neBx, hmBx, nfBxint, nfBxbool, nfBxNoneType, nfBxstr, nfBxtuple, nfBxlist, mrBxint, mrBxNoneType, mrBxstr, mrBxtuple, mrBxlist⟩
  have TI : BoxI K BX := ⟨haB, e_hn, e_ht, hmBx, kBB, kBtu, kBNoneType, kBint, kBbool, kBstr, kBtuple, kBlist⟩
  have FMne := fun_mk (st := s_Net_eq) lMne cMne kMne
  have bMne := FMne.binds (ps := ["self", "other"]) fun _ _ _ _ _ _ us hl => match us, hl with | [_, _], _ => rfl
  have One : OwnM K CP "__eq__" qne := ⟨p_ne, i_ne⟩
  have TEp : EqO K CP qne := ⟨One, nePp, hmPp, nfPpint, nfPpbool, nfPpNoneType, nfPpstr, nfPptuple, nfPplist, mrPpint, mrPpNoneType, mrPpstr, mrPptuple, mrPplist⟩
  have PF : PipeF K CP BX N := ⟨NCP.cl, haP, hmPp, kPB, kBN, nfBP, nfPB⟩
  have Dbag : DefR PK w K mg base "_law_bag" 1 (spBagI K) := ⟨fbag, m1 abag, kbag, raw0 (ok_bag18 Fbag B) bbag⟩
  have Dtak : DefR PK w K mg base "_law_take" 1 spTk := ⟨ftak, m1 atak, ktak, raw0 (ok_take18 Ftak B B3) btak⟩
  have Dwho : DefR PK w K mg base "_law_whole" 1 (spWh K) := ⟨fwho, m1 awho, kwho, raw0 (ok_whole18 Fwho B) bwho⟩
  have Dgoo : DefR PK w K mg base "_law_good" 2 (spGd K) := ⟨fgoo, m1 agoo, kgoo, raw0 (ok_good18 Fgoo Dwho) bgoo⟩
  have Dsam0 : DefR PK w K mg base "_law_same" 1 spNever := ⟨fsam, m1 asam, ksam, raw0 (same_never Fsam) bsam⟩
  have Dsam1 : DefR PK w K mg base "_law_same" 2 (spSm 0) := ⟨fsam, m1 asam, ksam, raw0 (ok_same18 (d := 0) Fsam B Dwho Dsam0 (fun e h => by cases h)) bsam⟩
  have Dsam2 : DefR PK w K mg base "_law_same" 3 (spSm 1) := ⟨fsam, m1 asam, ksam, raw0 (ok_same18 (d := 1) Fsam B Dwho Dsam1 (fun e h => by cases h; rfl)) bsam⟩
  have Dsam : DefR PK w K mg base "_law_same" 4 (spSm 2) := ⟨fsam, m1 asam, ksam, raw0 (ok_same18 (d := 2) Fsam B Dwho Dsam2 (fun e h => by cases h; rfl)) bsam⟩
  have Dctr : DefR PK w K mg base "_law_counter" 2 spCtr := ⟨fctr, m1 actr, kctr, raw0 (ok_counter18 Fctr Dtak) bctr⟩
  have Dodd : DefR PK w K mg base "_law_odd" 2 (spOdd K) := ⟨fodd, m1 aodd, kodd, raw0 (ok_odd18 Fodd Dtak) bodd⟩
  have Dflt : DefR PK w K mg base "_law_fault" 3 (spFlt K) := ⟨fflt, m1 aflt, kflt, raw0 (ok_fault18 Fflt B Dgoo) bflt⟩
  have Dspo : DefR PK w K mg base "_law_spoilt" 3 (spSpo K) := ⟨fspo, m1 aspo, kspo, raw0 (ok_spoilt18 Fspo B Dtak Dctr Dodd) bspo⟩
  have Dbui : DefR PK w K mg base "_law_built" 6 (spBuilt K BX) := ⟨fbui, m1 abui, kbui, raw0 (ok_built18 Fbui B ZB RB DB) bbui⟩
  have Dmad : DefR PK w K mg base "_law_made" 7 (spMade K BX) := ⟨fmad, m1 amad, kmad, raw0 (ok_made18 Fmad B ZB RB SFu SEx) bmad⟩
  have Dcom : DefR PK w K mg base "_law_common" 7 (spComm BX) := ⟨fcom, m1 acom, kcom, raw0 (ok_common18 Fcom B RB Oan sfB (ok_Box_and FMan B B2 ZB TBX EB DB) bMan) bcom⟩
  have Dcut : DefR PK w K mg base "_law_cut" 7 (spCut K BX) := ⟨fcut, m1 acut, kcut, raw0 (ok_cut18 Fcut B RB M0 M1 M2 M3) bcut⟩
  have Dhas : DefR PK w K mg base "_law_has" 5 (spHas BX) := ⟨fhas, m1 ahas, khas, raw0 (ok_has18 Fhas B ZB TBX TI Dsam) bhas⟩
  have Ddue : DefR PK w K mg base "_law_due" 6 (spDue BX) := ⟨fdue, m1 adue, kdue, raw0 (ok_due18 Fdue B Dsam Dhas) bdue⟩
  have Dins : DefR PK w K mg base "_law_inside" 3 (spIns K) := ⟨fins, m1 ains, kins, raw0 (ok_inside18 Fins B Dgoo) bins⟩
  have Dmks : DefR PK w K mg base "_law_makers" 8 spMk := ⟨fmks, m1 amks, kmks, raw0 (ok_makers18 Fmks B Dtak Dctr Dspo Dwho Ddue Dmad Dflt) bmks⟩
  have Dcts : DefR PK w K mg base "_law_cuts" 8 (spW K BX) := ⟨fcts, m1 acts, kcts, raw0 (ok_cuts18 Fcts B Dtak Dctr Dodd Dwho Dgoo Dsam Dhas Dcut) bcts⟩
  have Dpro : DefR PK w K mg base "_law_probes" 4 (spW K BX) := ⟨fpro, m1 apro, kpro, raw0 (ok_probes18 Fpro B TBX TI Oco (ok_Box_contains FMco B B2 TBX Dbtw) bMco Dtak Dctr Dodd Dins) bpro⟩
  have Dprs : DefR PK w K mg base "_law_pairs" 8 (spW K BX) := ⟨fprs, m1 aprs, kprs, raw0 (ok_pairs18 Fprs B ZB TBX TI TEb nfBB (ok_Box_eq FMeq B ZB TBX TI) bMeq DB Dtak Dctr Dsam Dhas Dcom) bprs⟩
  have Doth : DefR PK w K mg base "_law_others" 6 (spW K BX) := ⟨foth, m1 aoth, koth, raw0 (ok_others18 Foth B ZB TBX TI PF TEb (ok_Box_eq FMeq B ZB TBX TI) bMeq TEp (ok_Net_eqNo FMne B Z) bMne Obo (ok_Box_bool FMbo B B2 TBX) bMbo (m1 aP) DP Dtak Dsam) both⟩
  exact ok_law18 Flaw B Dbag Dtak Dctr Dspo Dbui Ddue Dflt Dhas Dmks Dcts Dpro Dprs Doth
end WC

namespace WC
open PySem PySem.Spec PyProof.Rows L2
theorem walk_k18 {l : PySem.W.OpenLaw} {q : Program} {loose : List Str} {XP : (Str → Option Value) → Heap → Prop} {YP : World → Heap → Prop} {d : DefRec} {K : Params → PySem.W.Frag} (hl : l.prog = PK) (hn : l.most = some 63) (hdf : d.params.defaults = [])
    (hY : ∀ (w : World) (h : Heap), YP w h → (K w.params).In h)
    (F : ∀ (w : World) (mg : Str → Option Value) (fa : Addr) (h : Heap), (K w.params).In h → h.Ns mainGlobals mg → mg d.name = some (.ref fa) →
      ∃ fd : FuncData, (∀ (s : Shared) (u : Value), BindsTo s fd ⟨[u], []⟩ [("script", u)]) ∧ ∀ base : Heap, (K w.params).In base → base.Ns mainGlobals mg → FnOk PK w (K w.params) mg base (L2.CX PK w) 9 fa fd ["script"] (spLaw (K w.params))) :
    PySem.W.WalkO q loose XP YP l.row.toRowW d [] (fun f vs => PySem.call f vs) := by
  refine L2.walk_of (n := 63) (k := 9) (x := "script") (CX := fun w => L2.CX PK w) (sp := fun w => spLaw (K w.params)) hn (by decide) hdf ⟨rfl, by decide, by decide⟩ hY ?_ (fun _ _ a ns hl2 _ hS => ⟨a, ns, rfl, hS, hl2, fun _ => rfl⟩) (fun _ _ _ _ _ z => ?_)
  · rw [hl]
    exact F
  · obtain ⟨_, _, _, _, _, _, _, _, _, _, _, _, y⟩ := z
    exact y.elim
end WC
open PySem PySem.W PyProof.Rows
set_option maxRecDepth 100000 in
set_option maxHeartbeats 0 in
theorem PySem.Challenge.cw_withincall_k18_boxes_holds : PySem.Challenge.rw_withincall_k18_boxes.Holds := by
  w_on; o_law; k_head; (case hw => w_witness2)
  k_fill
  refine WC.walk_k18 (l := PySem.Challenge.rw_withincall_k18_boxes) rfl rfl rfl (fun w h Y => PySem.W.kIn_of Y) ?F
  case F =>
    intro w mg fa h KX G hmg
    refine' WC.all_k18 KX G hmg ?z_isi ?z_int ?z_bool ?z_tuple ?z_list ?z_str ?z_len ?z_range ?z_sorted ?z_enum ?z_sum ?z_all ?z_max ?z_min ?z_verr ?z_sup ?z_zip ?z_rev ?z_abs ?abtw ?lbtw ?cbtw ?kbtw ?achk ?lchk ?cchk ?kchk ?anat ?lnat ?cnat ?knat ?ajoi ?ljoi ?cjoi ?kjoi ?acir ?lcir ?ccir ?kcir ?acch ?lcch ?ccch ?kcch ?awic ?lwic ?cwic ?kwic ?aisc ?lisc ?cisc ?kisc ?aisr ?lisr ?cisr ?kisr ?acwi ?lcwi ?ccwi ?kcwi ?abag ?lbag ?cbag ?kbag ?atak ?ltak ?ctak ?ktak ?awho ?lwho ?cwho ?kwho ?asam ?lsam ?csam ?ksam ?actr ?lctr ?cctr ?kctr ?aodd ?lodd ?codd ?kodd ?agoo ?lgoo ?cgoo ?kgoo ?aflt ?lflt ?cflt ?kflt ?aspo ?lspo ?cspo ?kspo ?abui ?lbui ?cbui ?kbui ?amad ?lmad ?cmad ?kmad ?acut ?lcut ?ccut ?kcut ?ahas ?lhas ?chas ?khas ?adue ?ldue ?cdue ?kdue ?amks ?lmks ?cmks ?kmks ?acts ?lcts ?ccts ?kcts ?ains ?lins ?cins ?kins ?apro ?lpro ?cpro ?kpro ?acom ?lcom ?ccom ?kcom ?aprs ?lprs ?cprs ?kprs ?aoth ?loth ?coth ?koth ?alaw ?llaw ?claw ?klaw ?aN ?xN ?rbN ?saN ?ebN ?tyN ?kcN ?inN ?tfN ?lxN ?cxN ?kxN ?noN_number ?aI ?xI ?rbI ?saI ?ebI ?tyI ?kcI ?inI ?tfI ?lxI ?cxI ?kxI ?noI_reason ?noI_position ?aB ?xB ?rbB ?saB ?ebB ?tyB ?kcB ?inB ?tfB ?lxB ?cxB ?kxB ?noB_position ?aX ?aW ?e_hn ?e_ht ?e_hgB ?e_hkB ?e_hdB ?e_haB ?e_hmB ?e_hgN ?e_hkN ?e_hdN ?e_haN ?e_hmN ?exm_BB ?exm_BN ?exm_NN ?kit_BW ?kit_BX ?kit_NW ?kit_BV ?kit_NV ?aNet ?rdN ?gaN ?cv1 ?cv2 ?cv3 ?cv4 ?fIC ?rIC ?lIC ?cIC ?kIC ?aP ?pgP ?hdP ?poP ?stP ?nSP ?nCP ?nJP ?nOP ?mkP ?keP ?itP ?ifP ?sl_P ?sc_P ?ce_P ?co_P ?fi_P ?fe_P ?di_P ?mr_P ?ks_P ?opq ?tyNI ?fnNI ?lNI ?cNI ?kNI ?capD ?aBx ?rdB ?gaB ?cb1 ?cb2 ?pgB ?hdB ?poB ?stB ?nlB ?nhB ?mkB ?keB ?itB ?ifB ?lBi ?cBi ?kBi ?fFu_ ?rFu_ ?lFu ?cFu ?kFu ?fEx_ ?rEx_ ?lEx ?cEx ?kEx ?p_na ?i_na ?lna ?cna ?kna ?dn0 ?dn1 ?p_co ?i_co ?lMco ?cMco ?kMco ?p_an ?i_an ?lMan ?cMan ?kMan ?p_eq ?i_eq ?lMeq ?cMeq ?kMeq ?p_bo ?i_bo ?lMbo ?cMbo ?kMbo ?sfB ?nfBB ?neBx ?hmBx ?nfBxint ?nfBxbool ?nfBxNoneType ?nfBxstr ?nfBxtuple ?nfBxlist ?mrBxint ?mrBxNoneType ?mrBxstr ?mrBxtuple ?mrBxlist ?haB ?kBB ?kBtu ?kBNoneType ?kBint ?kBbool ?kBstr ?kBtuple ?kBlist ?p_ne ?i_ne ?lMne ?cMne ?kMne ?nePp ?hmPp ?nfPpint ?nfPpbool ?nfPpNoneType ?nfPpstr ?nfPptuple ?nfPplist ?mrPpint ?mrPpNoneType ?mrPpstr ?mrPptuple ?mrPplist ?haP ?kPB ?kBN ?nfBP ?nfPB
    (case z_isi => first | k_is | rfl | (decide +kernel))
    (case z_int => first | k_is | rfl | (decide +kernel))
    (case z_bool => first | k_is | rfl | (decide +kernel))
    (case z_tuple => first | k_is | rfl | (decide +kernel))
    (case z_list => first | k_is | rfl | (decide +kernel))
    (case z_str => first | k_is | rfl | (decide +kernel))
    (case z_len => first | k_is | rfl | (decide +kernel))
    (case z_range => first | k_is | rfl | (decide +kernel))
    (case z_sorted => first | k_is | rfl | (decide +kernel))
    (case z_enum => first | k_is | rfl | (decide +kernel))
    (case z_sum => first | k_is | rfl | (decide +kernel))
    (case z_all => first | k_is | rfl | (decide +kernel))
    (case z_max => first | k_is | rfl | (decide +kernel))
    (case z_min => first | k_is | rfl | (decide +kernel))
    (case z_verr => first | k_is | rfl | (decide +kernel))
    (case z_sup => first | k_is | rfl | (decide +kernel))
    (case z_zip => first | k_is | rfl | (decide +kernel))
    (case z_rev => first | k_is | rfl | (decide +kernel))
    (case z_abs => first | k_is | rfl | (decide +kernel))
    (case abtw => first | k_is | rfl | (decide +kernel))
    (case lbtw => first | k_is | rfl | (decide +kernel))
    (case cbtw => first | k_is | rfl | (decide +kernel))
    (case kbtw => first | k_is | rfl | (decide +kernel))
    (case achk => first | k_is | rfl | (decide +kernel))
    (case lchk => first | k_is | rfl | (decide +kernel))
    (case cchk => first | k_is | rfl | (decide +kernel))
    (case kchk => first | k_is | rfl | (decide +kernel))
    (case anat => first | k_is | rfl | (decide +kernel))
    (case lnat => first | k_is | rfl | (decide +kernel))
    (case cnat => first | k_is | rfl | (decide +kernel))
    (case knat => first | k_is | rfl | (decide +kernel))
    (case ajoi => first | k_is | rfl | (decide +kernel))
    (case ljoi => first | k_is | rfl | (decide +kernel))
    (case cjoi => first | k_is | rfl | (decide +kernel))
    (case kjoi => first | k_is | rfl | (decide +kernel))
    (case acir => first | k_is | rfl | (decide +kernel))
    (case lcir => first | k_is | rfl | (decide +kernel))
    (case ccir => first | k_is | rfl | (decide +kernel))
    (case kcir => first | k_is | rfl | (decide +kernel))
    (case acch => first | k_is | rfl | (decide +kernel))
    (case lcch => first | k_is | rfl | (decide +kernel))
    (case ccch => first | k_is | rfl | (decide +kernel))
    (case kcch => first | k_is | rfl | (decide +kernel))
    (case awic => first | k_is | rfl | (decide +kernel))
    (case lwic => first | k_is | rfl | (decide +kernel))
    (case cwic => first | k_is | rfl | (decide +kernel))
    (case kwic => first | k_is | rfl | (decide +kernel))
    (case aisc => first | k_is | rfl | (decide +kernel))
    (case lisc => first | k_is | rfl | (decide +kernel))
    (case cisc => first | k_is | rfl | (decide +kernel))
    (case kisc => first | k_is | rfl | (decide +kernel))
    (case aisr => first | k_is | rfl | (decide +kernel))
    (case lisr => first | k_is | rfl | (decide +kernel))
    (case cisr => first | k_is | rfl | (decide +kernel))
    (case kisr => first | k_is | rfl | (decide +kernel))
    (case acwi => first | k_is | rfl | (decide +kernel))
    (case lcwi => first | k_is | rfl | (decide +kernel))
    (case ccwi => first | k_is | rfl | (decide +kernel))
    (case kcwi => first | k_is | rfl | (decide +kernel))
    (case abag => first | k_is | rfl | (decide +kernel))
    (case lbag => first | k_is | rfl | (decide +kernel))
    (case cbag => first | k_is | rfl | (decide +kernel))
    (case kbag => first | k_is | rfl | (decide +kernel))
    (case atak => first | k_is | rfl | (decide +kernel))
    (case ltak => first | k_is | rfl | (decide +kernel))
    (case ctak => first | k_is | rfl | (decide +kernel))
    (case ktak => first | k_is | rfl | (decide +kernel))
    (case awho => first | k_is | rfl | (decide +kernel))
    (case lwho => first | k_is | rfl | (decide +kernel))
    (case cwho => first | k_is | rfl | (decide +kernel))
    (case kwho => first | k_is | rfl | (decide +kernel))
    (case asam => first | k_is | rfl | (decide +kernel))
    (case lsam => first | k_is | rfl | (decide +kernel))
    (case csam => first | k_is | rfl | (decide +kernel))
    (case ksam => first | k_is | rfl | (decide +kernel))
    (case actr => first | k_is | rfl | (decide +kernel))
    (case lctr => first | k_is | rfl | (decide +kernel))
    (case cctr => first | k_is | rfl | (decide +kernel))
    (case kctr => first | k_is | rfl | (decide +kernel))
    (case aodd => first | k_is | rfl | (decide +kernel))
    (case lodd => first | k_is | rfl | (decide +kernel))
    (case codd => first | k_is | rfl | (decide +kernel))
    (case kodd => first | k_is | rfl | (decide +kernel))
    (case agoo => first | k_is | rfl | (decide +kernel))
    (case lgoo => first | k_is | rfl | (decide +kernel))
    (case cgoo => first | k_is | rfl | (decide +kernel))
    (case kgoo => first | k_is | rfl | (decide +kernel))
    (case aflt => first | k_is | rfl | (decide +kernel))
    (case lflt => first | k_is | rfl | (decide +kernel))
    (case cflt => first | k_is | rfl | (decide +kernel))
    (case kflt => first | k_is | rfl | (decide +kernel))
    (case aspo => first | k_is | rfl | (decide +kernel))
    (case lspo => first | k_is | rfl | (decide +kernel))
    (case cspo => first | k_is | rfl | (decide +kernel))
    (case kspo => first | k_is | rfl | (decide +kernel))
    (case abui => first | k_is | rfl | (decide +kernel))
    (case lbui => first | k_is | rfl | (decide +kernel))
    (case cbui => first | k_is | rfl | (decide +kernel))
    (case kbui => first | k_is | rfl | (decide +kernel))
    (case amad => first | k_is | rfl | (decide +kernel))
    (case lmad => first | k_is | rfl | (decide +kernel))
    (case cmad => first | k_is | rfl | (decide +kernel))
    (case kmad => first | k_is | rfl | (decide +kernel))
    (case acut => first | k_is | rfl | (decide +kernel))
    (case lcut => first | k_is | rfl | (decide +kernel))
    (case ccut => first | k_is | rfl | (decide +kernel))
    (case kcut => first | k_is | rfl | (decide +kernel))
    (case ahas => first | k_is | rfl | (decide +kernel))
    (case lhas => first | k_is | rfl | (decide +kernel))
    (case chas => first | k_is | rfl | (decide +kernel))
    (case khas => first | k_is | rfl | (decide +kernel))
    (case adue => first | k_is | rfl | (decide +kernel))
    (case ldue => first | k_is | rfl | (decide +kernel))
    (case cdue => first | k_is | rfl | (decide +kernel))
    (case kdue => first | k_is | rfl | (decide +kernel))
    (case amks => first | k_is | rfl | (decide +kernel))
    (case lmks => first | k_is | rfl | (decide +kernel))
    (case cmks => first | k_is | rfl | (decide +kernel))
    (case kmks => first | k_is | rfl | (decide +kernel))
    (case acts => first | k_is | rfl | (decide +kernel))
    (case lcts => first | k_is | rfl | (decide +kernel))
    (case ccts => first | k_is | rfl | (decide +kernel))
    (case kcts => first | k_is | rfl | (decide +kernel))
    (case ains => first | k_is | rfl | (decide +kernel))
    (case lins => first | k_is | rfl | (decide +kernel))
    (case cins => first | k_is | rfl | (decide +kernel))
    (case kins => first | k_is | rfl | (decide +kernel))
    (case apro => first | k_is | rfl | (decide +kernel))
    (case lpro => first | k_is | rfl | (decide +kernel))
    (case cpro => first | k_is | rfl | (decide +kernel))
    (case kpro => first | k_is | rfl | (decide +kernel))
    (case acom => first | k_is | rfl | (decide +kernel))
    (case lcom => first | k_is | rfl | (decide +kernel))
    (case ccom => first | k_is | rfl | (decide +kernel))
    (case kcom => first | k_is | rfl | (decide +kernel))
    (case aprs => first | k_is | rfl | (decide +kernel))
    (case lprs => first | k_is | rfl | (decide +kernel))
    (case cprs => first | k_is | rfl | (decide +kernel))
    (case kprs => first | k_is | rfl | (decide +kernel))
    (case aoth => first | k_is | rfl | (decide +kernel))
    (case loth => first | k_is | rfl | (decide +kernel))
    (case coth => first | k_is | rfl | (decide +kernel))
    (case koth => first | k_is | rfl | (decide +kernel))
    (case alaw => first | k_is | rfl | (decide +kernel))
    (case llaw => first | k_is | rfl | (decide +kernel))
    (case claw => first | k_is | rfl | (decide +kernel))
    (case klaw => first | k_is | rfl | (decide +kernel))
    (case aN => first | k_is | rfl | (decide +kernel))
    (case xN => first | k_is | rfl | (decide +kernel))
    (case rbN => first | k_is | rfl | (decide +kernel))
    (case saN => first | k_is | rfl | (decide +kernel))
    (case ebN => first | k_is | rfl | (decide +kernel))
    (case tyN => first | k_is | rfl | (decide +kernel))
    (case kcN => first | k_is | rfl | (decide +kernel))
    (case inN => first | k_is | rfl | (decide +kernel))
    (case tfN => first | k_is | rfl | (decide +kernel))
    (case lxN => first | k_is | rfl | (decide +kernel))
    (case cxN => first | k_is | rfl | (decide +kernel))
    (case kxN => first | k_is | rfl | (decide +kernel))
    (case noN_number => first | k_is | rfl | (decide +kernel))
    (case aI => first | k_is | rfl | (decide +kernel))
    (case xI => first | k_is | rfl | (decide +kernel))
    (case rbI => first | k_is | rfl | (decide +kernel))
    (case saI => first | k_is | rfl | (decide +kernel))
    (case ebI => first | k_is | rfl | (decide +kernel))
    (case tyI => first | k_is | rfl | (decide +kernel))
    (case kcI => first | k_is | rfl | (decide +kernel))
    (case inI => first | k_is | rfl | (decide +kernel))
    (case tfI => first | k_is | rfl | (decide +kernel))
    (case lxI => first | k_is | rfl | (decide +kernel))
    (case cxI => first | k_is | rfl | (decide +kernel))
    (case kxI => first | k_is | rfl | (decide +kernel))
    (case noI_reason => first | k_is | rfl | (decide +kernel))
    (case noI_position => first | k_is | rfl | (decide +kernel))
    (case aB => first | k_is | rfl | (decide +kernel))
    (case xB => first | k_is | rfl | (decide +kernel))
    (case rbB => first | k_is | rfl | (decide +kernel))
    (case saB => first | k_is | rfl | (decide +kernel))
    (case ebB => first | k_is | rfl | (decide +kernel))
    (case tyB => first | k_is | rfl | (decide +kernel))
    (case kcB => first | k_is | rfl | (decide +kernel))
    (case inB => first | k_is | rfl | (decide +kernel))
    (case tfB => first | k_is | rfl | (decide +kernel))
    (case lxB => first | k_is | rfl | (decide +kernel))
    (case cxB => first | k_is | rfl | (decide +kernel))
    (case kxB => first | k_is | rfl | (decide +kernel))
    (case noB_position => first | k_is | rfl | (decide +kernel))
    (case aX => first | k_is | rfl | (decide +kernel))
    (case aW => first | k_is | rfl | (decide +kernel))
    (case e_hn => first | k_is | rfl | (decide +kernel))
    (case e_ht => first | k_is | rfl | (decide +kernel))
    (case e_hgB => first | k_is | rfl | (decide +kernel))
    (case e_hkB => first | k_is | rfl | (decide +kernel))
    (case e_hdB => first | k_is | rfl | (decide +kernel))
    (case e_haB => first | k_is | rfl | (decide +kernel))
    (case e_hmB => first | k_is | rfl | (decide +kernel))
    (case e_hgN => first | k_is | rfl | (decide +kernel))
    (case e_hkN => first | k_is | rfl | (decide +kernel))
    (case e_hdN => first | k_is | rfl | (decide +kernel))
    (case e_haN => first | k_is | rfl | (decide +kernel))
    (case e_hmN => first | k_is | rfl | (decide +kernel))
    (case exm_BB => first | k_is | rfl | (decide +kernel))
    (case exm_BN => first | k_is | rfl | (decide +kernel))
    (case exm_NN => first | k_is | rfl | (decide +kernel))
    (case kit_BW => first | k_is | rfl | (decide +kernel))
    (case kit_BX => first | k_is | rfl | (decide +kernel))
    (case kit_NW => first | k_is | rfl | (decide +kernel))
    (case kit_BV => first | k_is | rfl | (decide +kernel))
    (case kit_NV => first | k_is | rfl | (decide +kernel))
    (case aNet => first | k_is | rfl | (decide +kernel))
    (case rdN => first | k_is | rfl | (decide +kernel))
    (case gaN => first | k_is | rfl | (decide +kernel))
    (case cv1 => first | k_is | rfl | (decide +kernel))
    (case cv2 => first | k_is | rfl | (decide +kernel))
    (case cv3 => first | k_is | rfl | (decide +kernel))
    (case cv4 => first | k_is | rfl | (decide +kernel))
    (case fIC => first | k_is | rfl | (decide +kernel))
    (case rIC => first | k_is | rfl | (decide +kernel))
    (case lIC => first | k_is | rfl | (decide +kernel))
    (case cIC => first | k_is | rfl | (decide +kernel))
    (case kIC => first | k_is | rfl | (decide +kernel))
    (case aP => first | k_is | rfl | (decide +kernel))
    (case pgP => first | k_is | rfl | (decide +kernel))
    (case hdP => first | k_is | rfl | (decide +kernel))
    (case poP => first | k_is | rfl | (decide +kernel))
    (case stP => first | k_is | rfl | (decide +kernel))
    (case nSP => first | k_is | rfl | (decide +kernel))
    (case nCP => first | k_is | rfl | (decide +kernel))
    (case nJP => first | k_is | rfl | (decide +kernel))
    (case nOP => first | k_is | rfl | (decide +kernel))
    (case mkP => first | k_is | rfl | (decide +kernel))
    (case keP => first | k_is | rfl | (decide +kernel))
    (case itP => first | k_is | rfl | (decide +kernel))
    (case ifP => first | k_is | rfl | (decide +kernel))
    (case sl_P => first | k_is | rfl | (decide +kernel))
    (case sc_P => first | k_is | rfl | (decide +kernel))
    (case ce_P => first | k_is | rfl | (decide +kernel))
    (case co_P => first | k_is | rfl | (decide +kernel))
    (case fi_P => first | k_is | rfl | (decide +kernel))
    (case fe_P => first | k_is | rfl | (decide +kernel))
    (case di_P => first | k_is | rfl | (decide +kernel))
    (case mr_P => first | k_is | rfl | (decide +kernel))
    (case ks_P => first | k_is | rfl | (decide +kernel))
    (case opq => first | k_is | rfl | (decide +kernel))
    (case tyNI => first | k_is | rfl | (decide +kernel))
    (case fnNI => first | k_is | rfl | (decide +kernel))
    (case lNI => first | k_is | rfl | (decide +kernel))
    (case cNI => first | k_is | rfl | (decide +kernel))
    (case kNI => first | k_is | rfl | (decide +kernel))
    (case capD => first | k_is | rfl | (decide +kernel))
    (case aBx => first | k_is | rfl | (decide +kernel))
    (case rdB => first | k_is | rfl | (decide +kernel))
    (case gaB => first | k_is | rfl | (decide +kernel))
    (case cb1 => first | k_is | rfl | (decide +kernel))
    (case cb2 => first | k_is | rfl | (decide +kernel))
    (case pgB => first | k_is | rfl | (decide +kernel))
    (case hdB => first | k_is | rfl | (decide +kernel))
    (case poB => first | k_is | rfl | (decide +kernel))
    (case stB => first | k_is | rfl | (decide +kernel))
    (case nlB => first | k_is | rfl | (decide +kernel))
    (case nhB => first | k_is | rfl | (decide +kernel))
    (case mkB => first | k_is | rfl | (decide +kernel))
    (case keB => first | k_is | rfl | (decide +kernel))
    (case itB => first | k_is | rfl | (decide +kernel))
    (case ifB => first | k_is | rfl | (decide +kernel))
    (case lBi => first | k_is | rfl | (decide +kernel))
    (case cBi => first | k_is | rfl | (decide +kernel))
    (case kBi => first | k_is | rfl | (decide +kernel))
    (case fFu_ => first | k_is | rfl | (decide +kernel))
    (case rFu_ => first | k_is | rfl | (decide +kernel))
    (case lFu => first | k_is | rfl | (decide +kernel))
    (case cFu => first | k_is | rfl | (decide +kernel))
    (case kFu => first | k_is | rfl | (decide +kernel))
    (case fEx_ => first | k_is | rfl | (decide +kernel))
    (case rEx_ => first | k_is | rfl | (decide +kernel))
    (case lEx => first | k_is | rfl | (decide +kernel))
    (case cEx => first | k_is | rfl | (decide +kernel))
    (case kEx => first | k_is | rfl | (decide +kernel))
    (case p_na => first | k_is | rfl | (decide +kernel))
    (case i_na => first | k_is | rfl | (decide +kernel))
    (case lna => first | k_is | rfl | (decide +kernel))
    (case cna => first | k_is | rfl | (decide +kernel))
    (case kna => first | k_is | rfl | (decide +kernel))
    (case dn0 => first | k_is | rfl | (decide +kernel))
    (case dn1 => first | k_is | rfl | (decide +kernel))
    (case p_co => first | k_is | rfl | (decide +kernel))
    (case i_co => first | k_is | rfl | (decide +kernel))
    (case lMco => first | k_is | rfl | (decide +kernel))
    (case cMco => first | k_is | rfl | (decide +kernel))
    (case kMco => first | k_is | rfl | (decide +kernel))
    (case p_an => first | k_is | rfl | (decide +kernel))
    (case i_an => first | k_is | rfl | (decide +kernel))
    (case lMan => first | k_is | rfl | (decide +kernel))
    (case cMan => first | k_is | rfl | (decide +kernel))
    (case kMan => first | k_is | rfl | (decide +kernel))
    (case p_eq => first | k_is | rfl | (decide +kernel))
    (case i_eq => first | k_is | rfl | (decide +kernel))
    (case lMeq => first | k_is | rfl | (decide +kernel))
    (case cMeq => first | k_is | rfl | (decide +kernel))
    (case kMeq => first | k_is | rfl | (decide +kernel))
    (case p_bo => first | k_is | rfl | (decide +kernel))
    (case i_bo => first | k_is | rfl | (decide +kernel))
    (case lMbo => first | k_is | rfl | (decide +kernel))
    (case cMbo => first | k_is | rfl | (decide +kernel))
    (case kMbo => first | k_is | rfl | (decide +kernel))
    (case sfB => first | k_is | rfl | (decide +kernel))
    (case nfBB => first | k_is | rfl | (decide +kernel))
    (case neBx => first | k_is | rfl | (decide +kernel))
    (case hmBx => first | k_is | rfl | (decide +kernel))
    (case nfBxint => first | k_is | rfl | (decide +kernel))
    (case nfBxbool => first | k_is | rfl | (decide +kernel))
    (case nfBxNoneType => first | k_is | rfl | (decide +kernel))
    (case nfBxstr => first | k_is | rfl | (decide +kernel))
    (case nfBxtuple => first | k_is | rfl | (decide +kernel))
    (case nfBxlist => first | k_is | rfl | (decide +kernel))
    (case mrBxint => first | k_is | rfl | (decide +kernel))
    (case mrBxNoneType => first | k_is | rfl | (decide +kernel))
    (case mrBxstr => first | k_is | rfl | (decide +kernel))
    (case mrBxtuple => first | k_is | rfl | (decide +kernel))
    (case mrBxlist => first | k_is | rfl | (decide +kernel))
    (case haB => first | k_is | rfl | (decide +kernel))
    (case kBB => first | k_is | rfl | (decide +kernel))
    (case kBtu => first | k_is | rfl | (decide +kernel))
    (case kBNoneType => first | k_is | rfl | (decide +kernel))
    (case kBint => first | k_is | rfl | (decide +kernel))
    (case kBbool => first | k_is | rfl | (decide +kernel))
    (case kBstr => first | k_is | rfl | (decide +kernel))
    (case kBtuple => first | k_is | rfl | (decide +kernel))
    (case kBlist => first | k_is | rfl | (decide +kernel))
    (case p_ne => first | k_is | rfl | (decide +kernel))
    (case i_ne => first | k_is | rfl | (decide +kernel))
    (case lMne => first | k_is | rfl | (decide +kernel))
    (case cMne => first | k_is | rfl | (decide +kernel))
    (case kMne => first | k_is | rfl | (decide +kernel))
    (case nePp => first | k_is | rfl | (decide +kernel))
    (case hmPp => first | k_is | rfl | (decide +kernel))
    (case nfPpint => first | k_is | rfl | (decide +kernel))
    (case nfPpbool => first | k_is | rfl | (decide +kernel))
    (case nfPpNoneType => first | k_is | rfl | (decide +kernel))
    (case nfPpstr => first | k_is | rfl | (decide +kernel))
    (case nfPptuple => first | k_is | rfl | (decide +kernel))
    (case nfPplist => first | k_is | rfl | (decide +kernel))
    (case mrPpint => first | k_is | rfl | (decide +kernel))
    (case mrPpNoneType => first | k_is | rfl | (decide +kernel))
    (case mrPpstr => first | k_is | rfl | (decide +kernel))
    (case mrPptuple => first | k_is | rfl | (decide +kernel))
    (case mrPplist => first | k_is | rfl | (decide +kernel))
    (case haP => first | k_is | rfl | (decide +kernel))
    (case kPB => first | k_is | rfl | (decide +kernel))
    (case kBN => first | k_is | rfl | (decide +kernel))
    (case nfBP => first | k_is | rfl | (decide +kernel))
    (case nfPB => first | k_is | rfl | (decide +kernel))

