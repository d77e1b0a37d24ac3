import PyProof.Rows.All
import Wide.All
import OpenK.AllK
import Wide.FinOn
import HandS.Base
import HandS.Call
import HandS.List
import HandS.Comp
import HandS.Ends
import HandS.Iter
import HandS.Words
import HandS.WordsList
import HandS.ExcInit
import HandS.ExcIs
import HandS.IsInst
import HandS.ExcValue
import HandS.Defaults
import HandS.Evl
import KE.KExcInit
import HandS.Walk
import HandS.Zip
import PySem.Challenge.RW_forthback_k48_refusals_made_by_hand
set_option Elab.async false
set_option linter.all false
set_option maxRecDepth 100000
set_option maxHeartbeats 8000000
/-! Exceptions of one's own as values: made by place, by name, with nothing; their fields; isinstance of them. -/
namespace PySem
namespace XvL
open Builtin Builtin.ObjectAttr
variable {P : Program} {w : World} {A : Around} {E : Value → Shared → Prop} {R : Result → Shared → Prop}
variable {m : Heap} {gn : Array GenState} {dr : Drawn} {tn : Nat} {sy : OsState}

/-- object.__setattr__ at an exception that has no dict as yet -/
theorem osa_first {K : PySem.W.Frag} {nm : Str} {tk : Tok} {v : Value} {x C : Addr} {fv : Array Value} {cd : ClassData}
    (X : K.In m) (hx : m.get? x = some { cls := .ref C, data := .fields fv }) (hcd : PySem.W.clsIn K C = some cd)
    (hne : cd.mro.isEmpty = false) (hob : cd.mro.contains (.type "object") = true)
    (hps : ∀ self, refuseLoop self "__setattr__" cd.mro = pure ()) (hh : cd.hasDict = true)
    (hno : PySem.W.findIn K (.ref C) nm = some none)
    (fin : ∀ m' tk' dx, (∀ b o, b ≠ x → m.get? b = some o → m'.get? b = some o) → m.objs.size ≤ dx → dx ≠ x →
      m'.get? x = some { cls := .ref C, dict := some dx, data := .fields fv } →
      m'.Ns1 dx (fun y => if y = nm then some v else none) → R (.ok (.ret .none)) ⟨m', gn, dr, tk', sy⟩) :
    codeAny (model P w) A (.call (.builtin "object.__setattr__") ⟨[.ref x, .str nm tk, v], []⟩) R ⟨m, gn, dr, tn, sy⟩ := by
  have J : PySem.W.InstAt m x { cls := .ref C, data := .fields fv } C none := ⟨hx, rfl, rfl, trivial⟩
  have S0 := PySem.F.store_object
  have nx : x ≠ m.objs.size := Nat.ne_of_lt (Heap.lt_size hx)
  have isObj : PySem.W.Looks (model P w) m (isInstance (.ref x) (.type "object")) true :=
    J.type.andThen (PySem.W.looks_mroIn X (by unfold PySem.W.mroIn; rw [hcd, Option.bind_some, if_neg (by rw [hne]; decide), hob]))
  refine codeAny_call_builtin S0.slot.plain S0.entry (@PySem.W.check_slot (model P w) _ _ ⟨m, gn, dr, tn, sy⟩
    "object.__setattr__" "object" "__setattr__" (.ref x) [.str nm tk, v] [] _ S0.kind S0.split isObj (S0.args (.ref x) (.str nm tk) v) ?_)
  have mroL : PySem.W.Looks (model P w) m (mroOf (.ref C)) cd.mro := (PySem.W.looks_clsIn X hcd).andThen .now
  have takeL : PySem.W.Looks (model P w) m (storeTaker? none) none := .now
  have clsL : PySem.W.Looks (model P w) m (classData C) cd := PySem.W.looks_clsIn X hcd
  rw [PySem.W.osa_eq, refuse_eq]
  refine wpAny_bind (wpAny_bind (J.type.at (wpAny_bind (mroL.at ?_))))
  rw [hps]
  refine wpAny_pure (wpAny_bind (J.type.at (wpAny_bind ((PySem.W.looks_findIn X hno).at (wpAny_bind (takeL.at ?_))))))
  show wpAny _ _ (storeInOwnDict (.ref x) (.ref C) (.str nm tk) nm v false) _ _ _
  obtain ⟨cn, bs, mro, ns, qn, hd, sn, sb, ab, col, del⟩ := cd
  dsimp only at hh
  subst hh
  unfold storeInOwnDict ownDictForStores
  repeat (first
    | with_reducible refine PySem.HandSPX.store_in_new ?_ ?_
    | with_reducible refine wpAny_loadPart_at hx ?_
    | with_reducible refine clsL.at ?_
    | wp_step)
  · exact ⟨_, #[], _, (Heap.get?_update_ne _ _ _ _ nx.symm).trans (Heap.get?_push_at rfl rfl), rfl, fun z hz => absurd hz (by simp), fun _ => rfl⟩
  · intro m' tk' ns' same
    have hx1 : (m.push { cls := .type "dict", data := .dict #[] }).get? x = some { cls := .ref C, data := .fields fv } := Heap.get?_push_of_some _ hx
    refine fin m' tk' m.objs.size (fun b o nb ob => ?_) (Nat.le_refl _) nx.symm ?_ ns'
    · exact (same.2 b (Nat.ne_of_lt (Heap.lt_size ob))).trans ((Heap.get?_update_ne _ _ _ _ nb).trans (Heap.get?_push_of_some _ ob))
    · exact (same.2 x nx).trans (Heap.get?_update_self _ hx1 rfl)

/-! C(.., k = v): type.__call__, BaseException.__new__, then the own __init__, with keywords -/
variable {nm qn : Str} {C N : Addr} {bs bm bmB : List Value} {hdct : Bool} {sn : List Str} {sub : List Value} {ab : Bool} {col : Option Bool} {dd : Option Addr}
variable {k0 k1 k2 k3 k5 : Option Value} {B newId initId : String}

theorem chk_new {M : Model} (F : ExcBaseFacts B newId initId bmB) (hT : ∀ Y : String, bm.contains (.type Y) = bmB.contains (.type Y))
    {us : List Value} {kw : List (Str × Value)} {Q : Unit → Shared → Prop}
    (hC : m.get? C = some (excClassObj nm qn C N bs bm hdct sn sub ab col dd k0 k1 k2 k3 k5 newId)) (fin : Q () ⟨m, gn, dr, tn, sy⟩) :
    wpAny M A (checkBuiltinCall newId ⟨.ref C :: us, kw⟩) Q E ⟨m, gn, dr, tn, sy⟩ := by
  have inB : (Value.ref C :: bm).contains (.type B) = true := by rw [List.contains_cons, hT, F.hasB, Bool.or_true]
  have ns := F.noStar
  simp only [checkBuiltinCall, F.newKind, F.newSplit, F.newRow]
  repeat (first
    | refine wpAny_loadPart_at hC ?_
    | (refine wpAny_isSubtype_exc hC ?_; rw [inB])
    | refine wpAny_staticBase_exc hC ?_
    | refine wpAny_madeBy_exc hC ?_
    | simp only [bne_self_eq_false, Bool.false_eq_true, if_false]
    | wp_step)
  exact fin

theorem new_kw (F : ExcBaseFacts B newId initId bmB) (hT : ∀ Y : String, bm.contains (.type Y) = bmB.contains (.type Y))
    {us : List Value} {kw : List (Str × Value)}
    (hC : m.get? C = some (excClassObj nm qn C N bs bm hdct sn sub ab col dd k0 k1 k2 k3 k5 newId))
    (fin : R (.ok (.ret (.ref (m.objs.size + 1)))) ⟨(m.push (PySem.W.kdv_tup us)).push (PySem.HandSPX.excO C m.objs.size), gn, dr, tn, sy⟩) (hus : us.length ≤ sizeLine) :
    codeAny (model P w) A (.builtin newId ⟨.ref C :: us, kw⟩) R ⟨m, gn, dr, tn, sy⟩ := by
  have he := F.ends
  have inB : (Value.ref C :: bm).contains (.type B) = true := by rw [List.contains_cons, hT, F.hasB, Bool.or_true]
  have inA : (Value.ref C :: bm).contains (.type "AttributeError") = false := by rw [List.contains_cons, hT, F.noAttr]; rfl
  have inN : (Value.ref C :: bm).contains (.type "NameError") = false := by rw [List.contains_cons, hT, F.noName]; rfl
  refine codeAny_builtinAt F.entry ?_
  unfold Builtin.«BaseException.__new__»
  refine wpAt_bind ?_
  show wpAt _ _ _ (stack >>= _) _ _ _
  refine wpAt_bind (wpAt_stack fun p below => wpAt_of_wpAny ?_)
  wp_walk
  refine wpAt_of_wpAny ?_
  rw [F.owner]
  repeat (first
    | with_reducible refine wpAny_madeHere_exc F.canon hC ?_
    | with_reducible refine wpAny_loadPart_at hC ?_
    | (with_reducible refine wpAny_isSubtype_exc hC ?_; first | rw [inB] | rw [inA] | rw [inN])
    | wp_step)
  show R _ _
  rw [Heap.size_push]
  exact fin

theorem tcall_kw (F : ExcBaseFacts B newId initId bmB) (hT : ∀ Y : String, bm.contains (.type Y) = bmB.contains (.type Y))
    {us : List Value} {kw : List (Str × Value)} {fI : Addr} {Q : Fin → Shared → Prop}
    (hC : m.get? C = some (excClassObj nm qn C N bs bm hdct sn sub ab col dd k0 k1 k2 k3 k5 newId))
    (hi : PySem.W.Looks (model P w) m (typeLookup (.ref C) "__init__") (some (.ref fI)))
    (hb : ∀ self, PySem.W.Looks (model P w) m (bindSpecial (.ref fI) self) (.ref fI, [self])) (hus : us.length ≤ sizeLine)
    (go : codeAny (model P w) A (.call (.ref fI) ⟨.ref (m.objs.size + 1) :: us, kw⟩)
      (fun r s' => match r with
        | .ok (.ret v) => v = .none ∧ Q (.done (.ret (.ref (m.objs.size + 1)))) s'
        | .ok _ => False
        | .error e => E e s')
      ⟨(m.push (PySem.W.kdv_tup us)).push (PySem.HandSPX.excO C m.objs.size), gn, dr, tn, sy⟩) :
    wpAny (model P w) A (Builtin.«type.__call__» ⟨.ref C :: us, kw⟩) Q E ⟨m, gn, dr, tn, sy⟩ := by
  repeat (first | with_reducible refine wpAny_loadPart_at hC ?_ | with_reducible refine wpAny_madeBy_exc hC ?_ | wp_step)
  refine codeAny_call_builtin_code (Code.quiet_builtin _ F.quiet) (chk_new F hT hC ?_)
  refine new_kw F hT hC ?_ hus
  show wpAny _ _ _ _ _ _
  have keep : ∀ b o, m.get? b = some o → ((m.push (PySem.W.kdv_tup us)).push (PySem.HandSPX.excO C m.objs.size)).get? b = some o :=
    fun b o e => Heap.get?_push_of_some _ (Heap.get?_push_of_some _ e)
  have hC1 := keep _ _ hC
  have hnew : ((m.push (PySem.W.kdv_tup us)).push (PySem.HandSPX.excO C m.objs.size)).get? (m.objs.size + 1) = some (PySem.HandSPX.excO C m.objs.size) := by heap_get
  have inC : (Value.ref C :: bm).contains (.ref C) = true := by simp
  have i1 := hi.keeps keep
  have b1 := (hb (.ref (m.objs.size + 1))).keeps keep
  unfold isInstance
  repeat (first
    | with_reducible refine wpAny_loadPart_at hnew ?_
    | (with_reducible refine wpAny_isSubtype_exc hC1 ?_; rw [inC])
    | wp_step)
  show wpAny _ _ (typeLookup (.ref C) _) _ _ _
  refine i1.at ?_
  refine wpAny_holding (wpAny_bind (b1.at ?_))
  refine wpAny_bind (wpAny_call (codeAny_mono go fun r s' z => ?_))
  rcases r with e | (v | _ | _ | _) <;> first | exact z | exact z.elim | skip
  obtain ⟨rfl, z⟩ := z
  first
    | exact wpAny_pure (wpAny_pure z)
    | (wp_walk; exact z)

theorem chk_tcall {M : Model} {us : List Value} {kw : List (Str × Value)} {Q : Unit → Shared → Prop}
    (hC : m.get? C = some (excClassObj nm qn C N bs bm hdct sn sub ab col dd k0 k1 k2 k3 k5 newId)) (fin : Q () ⟨m, gn, dr, tn, sy⟩) :
    wpAny M A (checkBuiltinCall "type.__call__" ⟨.ref C :: us, kw⟩) Q E ⟨m, gn, dr, tn, sy⟩ := by
  have f3 := tc_sub
  have hty : (⟨m, gn, dr, tn, sy⟩ : Shared).TypeIs (.ref C) "type" := ⟨_, hC, rfl⟩
  simp only [checkBuiltinCall, tc_kind, tc_split]
  repeat (any_goals (first
    | assumption
    | with_reducible refine wpAny_loadPart_at hC ?_
    | with_reducible refine wpAny_onRaise ?_
    | with_reducible refine wpAny_map ?_
    | wp_step))

/-- the call of the class itself -/
theorem call_kw (F : ExcBaseFacts B newId initId bmB) (hT : ∀ Y : String, bm.contains (.type Y) = bmB.contains (.type Y))
    {us : List Value} {kw : List (Str × Value)} {fI : Addr}
    (hC : m.get? C = some (excClassObj nm qn C N bs bm hdct sn sub ab col dd k0 k1 k2 k3 k5 newId))
    (hi : PySem.W.Looks (model P w) m (typeLookup (.ref C) "__init__") (some (.ref fI)))
    (hb : ∀ self, PySem.W.Looks (model P w) m (bindSpecial (.ref fI) self) (.ref fI, [self])) (hus : us.length ≤ sizeLine)
    (go : codeAny (model P w) (A.under (.builtin "type.__call__" ⟨.ref C :: us, kw⟩)) (.call (.ref fI) ⟨.ref (m.objs.size + 1) :: us, kw⟩)
      (PySem.W.InitBack (m.objs.size + 1) R) ⟨(m.push (PySem.W.kdv_tup us)).push (PySem.HandSPX.excO C m.objs.size), gn, dr, tn, sy⟩) :
    codeAny (model P w) A (.call (.ref C) ⟨us, kw⟩) R ⟨m, gn, dr, tn, sy⟩ := by
  have f1 := tc_lookup
  have f2 := tc_bind (.ref C)
  have hty : (⟨m, gn, dr, tn, sy⟩ : Shared).TypeIs (.ref C) "type" := ⟨_, hC, rfl⟩
  refine codeAny_of_tree ?_
  show wpAny _ _ (callAny (.ref C) _) _ _ _
  repeat (any_goals (first | assumption | with_reducible refine wpAny_loadPart_at hC ?_ | wp_step))
  refine ⟨rfl, ?_⟩
  refine codeAny_call_builtin_at (Code.quiet_builtin _ (by decide +kernel)) entry_typeCall (chk_tcall hC (tcall_kw F hT hC hi hb hus ?_))
  refine codeAny_mono go fun r s' z => ?_
  rcases r with e | (v | _ | _ | _) <;> exact z
end XvL
end PySem
namespace Xv
open PySem PySem.Spec PyProof.Rows L2

/-- what the written part says of the class at C, straight under the built-in B -/
structure XC (K : PySem.W.Frag) (C : Addr) (newId : String) (bmB : List Value) : Prop where
  cls : ∃ nm qn N bs sn sub ab col dd k0 k1 k2 k3 k5,
    K.lookup C = some (excClassObj nm qn C N bs bmB true sn sub ab col dd k0 k1 k2 k3 k5 newId)
  sa : PySem.W.findIn K (.ref C) "__setattr__" = some (some (.builtin "object.__setattr__"))
  kC : PySem.W.keepIn K (.ref C) = true
  is : ExcC K C

/-- the four built-in classes in one row of facts -/
structure BF (B newId initId : String) (bmB : List Value) : Prop where
  ex : ExcBaseFacts B newId initId bmB
  st : StoreFacts B bmB "object.__setattr__" "object"
  ob : bmB.contains (.type "object") = true
  stub : Manifest.isStub B = false
  typ : typeOf (.type B) = pure (.type "type")
  hand : PySem.W.handedIn (.builtin initId) = true
theorem bfV : BF "ValueError" "ValueError.__new__" "ValueError.__init__" [.type "ValueError", .type "Exception", .type "BaseException", .type "object"] :=
  ⟨PySem.F.excBase_ValueError, PySem.F.store_ValueError, by decide +kernel, by decide +kernel, by kernel_rfl, by decide +kernel⟩
theorem bfL : BF "LookupError" "LookupError.__new__" "LookupError.__init__" [.type "LookupError", .type "Exception", .type "BaseException", .type "object"] :=
  ⟨PySem.F.excBase_LookupError, PySem.F.store_LookupError, by decide +kernel, by decide +kernel, by kernel_rfl, by decide +kernel⟩
theorem bfO : BF "OverflowError" "OverflowError.__new__" "OverflowError.__init__" [.type "OverflowError", .type "ArithmeticError", .type "Exception", .type "BaseException", .type "object"] :=
  ⟨PySem.F.excBase_OverflowError, PySem.F.store_OverflowError, by decide +kernel, by decide +kernel, by kernel_rfl, by decide +kernel⟩
theorem bfR : BF "RuntimeError" "RuntimeError.__new__" "RuntimeError.__init__" [.type "RuntimeError", .type "Exception", .type "BaseException", .type "object"] :=
  ⟨PySem.F.excBase_RuntimeError, PySem.F.store_RuntimeError, by decide +kernel, by decide +kernel, by kernel_rfl, by decide +kernel⟩

end Xv
namespace Xv
open PySem PySem.Spec PyProof.Rows L2

section
variable {X : Cx} {pins : List (Addr × Obj)} {σ : L2.St} {H : Hp} {s : Shared} {a C dx : Addr} {f : Str} {y : V} {u : Value}
variable {newId initId B : String} {bmB : List Value} {A : Around} {E : Value → Shared → Prop}

theorem XC.data {K : PySem.W.Frag} (T : XC K C newId bmB) : ∃ cd : ClassData, PySem.W.clsIn K C = some cd ∧ cd.mro = .ref C :: bmB ∧ cd.hasDict = true := by
  obtain ⟨nm, qn, N, bs, sn, sub, ab, col, dd, k0, k1, k2, k3, k5, hC⟩ := T.cls
  refine ⟨_, by unfold PySem.W.clsIn; rw [hC] <;> rfl, rfl, rfl⟩

/-- self.f = y, the first field -/
theorem put_first {Q : Unit → Shared → Prop} (T : XC X.K C newId bmB) (F : BF B newId initId bmB) (I : Inv X pins σ H s) (ea : H a = some (exo a C none))
    (hno : PySem.W.findIn X.K (.ref C) f = some none) (ry : RelV y u)
    (k : ∀ dx s', H dx = none → dx ≠ a → Inv X pins σ (upd (upd H dx (exd dx [(f, y)])) a (exo a C (some dx))) s' → Q () s') :
    wpAny (model X.prog X.w) A (setAttr (.ref a) f u) Q E s := by
  obtain ⟨cd, hcd, hmro, hdi⟩ := T.data
  obtain ⟨t1, ho⟩ := exo_at I.hok ea
  obtain ⟨m, gn, dr, tn, sy⟩ := s
  have hne : cd.mro.isEmpty = false := by rw [hmro]; rfl
  have hob : cd.mro.contains (.type "object") = true := by rw [hmro, List.contains_cons, F.ob, Bool.or_true]
  have hps : ∀ self, refuseLoop self "__setattr__" cd.mro = pure () := fun self => by rw [hmro, refuseLoop_ref]; exact F.st.passes self
  refine PySem.W.set_plain I.kIn (ox := { cls := .ref C, dict := none, data := .fields #[.ref t1, .none, .none, .none, .bool false, .none] })
    (od := none) ⟨ho, rfl, rfl, trivial⟩ T.sa ?_
  refine PySem.XvL.osa_first I.kIn ho hcd hne hob hps hdi hno (fun m' tk' dx keep dn dne hx hn => ?_)
  have nH : H dx = none := I.hok.fresh dn
  have old : ∀ {b : Addr} {o : Obj}, m.get? b = some o → b ≠ dx := fun {b o} q => Nat.ne_of_lt (Nat.lt_of_lt_of_le (Heap.lt_size q) dn)
  have nota : ∀ {b : Addr}, H b = none → b ≠ a := fun {b} n z => by
    rw [z, ea] at n
    cases n
  have W : Un X.fs [] H (upd (upd H dx (exd dx [(f, y)])) a (exo a C (some dx))) m m' := {
    keep := fun b o q n _ _ => keep b o (nota n) q
    slot := fun b o q n _ _ => ⟨o.slots, keep b o (nota n) q⟩
    free := fun b o q n _ => by
      rw [upd_ne (nota n), upd_ne (old q)]
      exact n
    there := fun b o q _ => by
      by_cases hb : b = a
      · subst hb
        exact ⟨_, hx⟩
      · exact ⟨o, keep b o hb q⟩
    tups := fun b xs q => by
      rw [upd_ne (at_ne ea q exo_tup), upd_ne (ne_of_none q nH)]
      exact q
    frzs := fun b o v q => by
      rw [upd_ne (at_ne ea q exo_frz), upd_ne (ne_of_none q nH)]
      exact q
    tbls := fun b ps q => ⟨#[], by
      rw [upd_ne (at_ne ea q exo_tbl), upd_ne (ne_of_none q nH), q]
      simp⟩ }
  refine k dx _ nH dne (I.un (t' := tk') W fun b o q => ?_)
  by_cases hb : b = a
  · subst hb
    rw [upd_same] at q
    cases q
    exact exo_ok hx
  · rw [upd_ne hb] at q
    by_cases hd : b = dx
    · subst hd
      rw [upd_same] at q
      cases q
      exact exd_ok hn (relO_put (fs := []) ry fun g => True.intro)
    · rw [upd_ne hd] at q
      refine (I.hok b o q).stay (fun c v hc z => keep c v ?_ z) (fun c hc => ?_) (fun c xs hc => ?_)
      · rcases hc with hc | hc
        · rw [hc]
          exact hb
        · exact at_ne ea hc exo_own
      · rw [upd_ne (at_ne ea hc exo_own), upd_ne (ne_of_none hc nH)]
        exact hc
      · rw [upd_ne (at_ne ea hc exo_tup), upd_ne (ne_of_none hc nH)]
        exact hc
/-- B.__init__(self, ..): nothing is told of it -/
theorem base_init {us : List Value} {Q : Value → Shared → Prop} (T : XC X.K C newId bmB) (F : BF B newId initId bmB) (I : Inv X pins σ H s)
    (ea : H a = some (exo a C none)) (hl : us.length ≤ sizeLine) (k : ∀ s', Inv X pins σ H s' → Q .none s') :
    wpAny (model X.prog X.w) A (call (.builtin initId) (.ref a :: us)) Q E s := by
  obtain ⟨nm, qn, N, bs, sn, sub, ab, col, dd, k0, k1, k2, k3, k5, hC⟩ := T.cls
  obtain ⟨t1, ho⟩ := exo_at I.hok ea
  obtain ⟨m, gn, dr, tn, sy⟩ := s
  refine wpAny_call (PySem.HandSPX.init_base F.ex (fun _ => rfl) (I.kIn _ _ hC) ho hl fun m' t2 keep hx => ?_)
  have J := I.write (t' := tn) (x := a) (e := a) (o := exo a C none) (by rw [ea]; exact True.intro) (.inl rfl) keep ⟨_, hx⟩ (exo_ok hx)
  have eu : upd H a (exo a C none) = H := by
    funext b
    by_cases hb : b = a
    · subst hb
      rw [upd_same, ea]
    · rw [upd_ne hb]
  rw [eu] at J
  exact k _ J
end

/-! the readings -/
/-- B.__init__(self, e, ..) -/
def tBI (K : PySem.W.Frag) (newId : String) (bmB : List Value) (ta : TA) : TE := fun σ H Q => ta σ H fun vs H1 =>
  ∃ (a C : Addr) (ws : List V), vs = .ref a :: ws ∧ ws.length ≤ 1000 ∧ XC K C newId bmB ∧ H1 a = some (exo a C none) ∧ Q .non H1
/-- self.f = e -/
def tPF (K : PySem.W.Frag) (newId : String) (bmB : List Value) (f : Str) (to te : TE) : TS := fun D σ H => te σ H fun y H1 => to σ H1 fun x H2 =>
  ∃ a C : Addr, x = .ref a ∧ XC K C newId bmB ∧ PySem.W.findIn K (.ref C) f = some none ∧ H2 a = some (exo a C none) ∧
    ∀ dx, H2 dx = none → dx ≠ a → D.nx σ (upd (upd H2 dx (exd dx [(f, y)])) a (exo a C (some dx)))
/-- C(e, ..) by its own __init__ -/
def tMk (C : Addr) (sp : Sp) (ta : TA) : TE := fun σ H Q => ta σ H fun vs H1 => vs.length ≤ 1000 ∧
  ∀ a, H1 a = none → sp (.ref a :: vs) (upd H1 a (exo a C none)) (fun v H2 => v = .non ∧ Q (.ref a) H2) E0
/-- C(k = e) by its own __init__ -/
def tMkK (C : Addr) (sp : Sp) (tk : TA) : TE := fun σ H Q => tk σ H fun zs H1 => zs.length = 1 ∧
  ∀ a, H1 a = none → sp (.ref a :: zs) (upd H1 a (exo a C none)) (fun v H2 => v = .non ∧ Q (.ref a) H2) E0

section
variable {X : Cx} {e o : Expr} {es : List Expr} {to te : TE} {ta : TA} {f B : Str} {p p' p1 p2 pos : Pos} {newId initId Bs : String} {bmB : List Value}
theorem pe_binit {pl : Sem Bool} (F : BF Bs newId initId bmB) (hg : Gl X B) (hm : X.mg B = none) (hbt : bootBuiltins B = some (.type Bs)) (hn1 : B ≠ "__name__") (hd1 : (B == ("__debug__" : Str)) = false)
    (vV : PySem.W.findCls X.K (.type Bs) (.type "type") "__init__" = some (.val (.builtin initId))) (ha : PA X (e :: es) ta)
    (hc : eval (.Call (.Attribute (.Name B p1) "__init__" p2) (e :: es) [] pos) X.env = (do
      let ov ← eval (.Name B p1) X.env
      standAt p2.atName
      let (f, first) ← holding [ov] (getMethod ov "__init__" pl)
      callWith pos f first (backTo pos (starEach (e :: es) X.env)) (backToKw pos (keywordEach [] X.env))) := by rfl)
    (he : starEach (e :: es) X.env = (false, eval e X.env) :: starEach es X.env := by rfl) (hpl : (backTo pos (starEach es X.env)).any (·.1) = false := by rfl) :
    PE X (.Call (.Attribute (.Name B p1) "__init__" p2) (e :: es) [] pos) (tBI X.K newId bmB ta) := by
  refine ⟨fun pins s σ H Q I h => ?_⟩
  refine PySem.W.methodCall_KW (ld_blt I hg hm hbt ?_ hn1 hd1) hc
  obtain ⟨m, fr⟩ := I.fr
  refine PySem.W.method_type fr I.ok.mod.kin F.typ F.stub vV F.hand ?_
  show wpAny _ _ (callWith pos (Value.builtin initId) [] (backTo pos (starEach (e :: es) X.env)) []) _ _ _
  refine PyProof.Rows.callWith_method1 (thn (ha.run pos pins _ σ H _ (I.tok _) h) fun us s1 hh => ?_) he hpl
  obtain ⟨vs, H1, I1, r1, a, C, ws, rfl, hl, T, ea, q⟩ := hh
  cases r1 with
  | @cons _ u0 _ ur ra rw' =>
    obtain rfl : u0 = Value.ref a := ra
    have hlen : ur.length ≤ sizeLine := by
      rw [← Paired.length rw', sizeLine_eq]
      omega
    exact base_init T F I1 ea hlen fun s' J => ⟨.non, H1, J, rfl, q⟩
theorem ps_put (F : BF Bs newId initId bmB) (ho : PE X o to) (he : PE X e te) (hs : swapsWith e (some (.Attribute o f p')) pos.line X.env = pure false := by rfl) :
    PS X (.Assign [.Attribute o f p'] e pos) (tPF X.K newId bmB f to te) := by
  refine ⟨fun pins s σ H D I h => ?_⟩
  refine plainObj_wpAny_Assign_Attribute (thn (he.run pins s σ H _ I h) fun v s1 ⟨y, H1, I1, r1, q1⟩ => thn (ho.run pins s1 σ H1 _ I1 q1) fun u s2 hh => ?_) hs
  obtain ⟨x, H2, I2, r2, a, C, rfl, T, hno, ea, q⟩ := hh
  obtain rfl : u = Value.ref a := r2
  exact put_first T F I2 ea hno r1 fun dx s' n ne J => ⟨σ, _, J, q dx n ne⟩
end
end Xv
namespace Xv
open PySem PySem.Spec PyProof.Rows L2

/-- how C(k = v) binds in __init__(self, k) -/
def KwB (K : PySem.W.Frag) (fd : FuncData) (ps : List Str) (k : Str) : Prop :=
  ∀ (s : Shared) (self v : Value), K.In s.heap → BindsTo s fd ⟨[self], [(k, v)]⟩ (ps.zip [self, v])

section
variable {X : Cx} {k : Nat} {C fI : Addr} {fd : FuncData} {ps : List Str} {sp : Sp} {x kn : Str} {p pos kpos : Pos} {e : Expr} {es : List Expr} {te : TE} {ta : TA}
variable {newId initId Bs : String} {bmB : List Value}

theorem run_mk {pins : List (Addr × Obj)} {σ : L2.St} {H : Hp} {s : Shared} {Q : VK} {us : List Value} {kw : List (Str × Value)} {vs : List V} {ws : List Value}
    (T : XC X.K C newId bmB) (F : BF Bs newId initId bmB) (iC : PySem.W.findIn X.K (.ref C) "__init__" = some (some (.ref fI)))
    (tI : PySem.W.typeIn X.K (.ref fI) = some (.type "function")) (G : FnOk X.prog X.w X.K X.mg X.base CX0 k fI fd ps sp) (hr : Room (k + 1) X.A)
    (I : Inv X pins σ H s) (hus : us.length ≤ sizeLine) (r : Vals vs ws)
    (hb : ∀ (s' : Shared) (self : Value), X.K.In s'.heap → BindsTo s' fd ⟨self :: us, kw⟩ (ps.zip (self :: ws)))
    (q : ∀ a, H a = none → sp (.ref a :: vs) (upd H a (exo a C none)) (fun v H2 => v = .non ∧ Q (.ref a) H2) E0) :
    wpAny (model X.prog X.w) X.A (call (.ref C) us kw) (EP X pins σ Q) X.xe s := by
  obtain ⟨nm, qn, N, bs, sn, sub, ab, col, dd, k0, k1, k2, k3, k5, hC⟩ := T.cls
  obtain ⟨m, gn, dr, tn, sy⟩ := s
  have big : m.objs.size ≤ m.objs.size + 1 := Nat.le_succ _
  have new : H (m.objs.size + 1) = none := I.hok.fresh big
  have keep : ∀ b o, m.get? b = some o → ((m.push (PySem.W.kdv_tup us)).push (PySem.HandSPX.excO C m.objs.size)).get? b = some o :=
    fun b o z => Heap.get?_push_of_some _ (Heap.get?_push_of_some _ z)
  have here : ((m.push (PySem.W.kdv_tup us)).push (PySem.HandSPX.excO C m.objs.size)).get? (m.objs.size + 1) = some (PySem.HandSPX.excO C m.objs.size) := by heap_get
  have I2 : Inv X pins σ (upd H (m.objs.size + 1) (exo (m.objs.size + 1) C none)) ⟨(m.push (PySem.W.kdv_tup us)).push (PySem.HandSPX.excO C m.objs.size), gn, dr, tn, sy⟩ :=
    I.laid (t' := tn) (a := m.objs.size + 1) (o := exo (m.objs.size + 1) C none) keep big (exo_ok here)
  have r2 : Vals (V.ref (m.objs.size + 1) :: vs) (Value.ref (m.objs.size + 1) :: ws) := .cons rfl r
  refine wpAny_call (PySem.XvL.call_kw F.ex (fun _ => rfl) (I.kIn _ _ hC) (PySem.W.looks_findIn I.kIn iC) (fun self => PySem.W.bind_fn I.kIn self tI) hus ?_)
  refine codeAny_mono (G.run _ X.stack _ _ ⟨Value.ref (m.objs.size + 1) :: us, kw⟩ (Value.ref (m.objs.size + 1) :: ws) _ _ E0 (hr.make C us kw)
    (I2.env0.make C us kw) (hb _ _ I2.kIn) r2 (q (m.objs.size + 1) new)) fun res s' hq => ?_
  cases res with
  | error er => exact hq.elim
  | ok fl =>
    cases fl with
    | ret u =>
      obtain ⟨v, H', I3, rv, ev, q3⟩ := I2.after hq
      subst ev
      exact ⟨rv, ⟨V.ref (m.objs.size + 1), H', I3, rfl, q3⟩⟩
    | next => exact False.elim hq
    | brk => exact False.elim hq
    | cont => exact False.elim hq

theorem pe_mk (T : XC X.K C newId bmB) (F : BF Bs newId initId bmB) (iC : PySem.W.findIn X.K (.ref C) "__init__" = some (some (.ref fI)))
    (tI : PySem.W.typeIn X.K (.ref fI) = some (.type "function")) (G : FnOk X.prog X.w X.K X.mg X.base CX0 k fI fd ps sp) (hr : Room (k + 1) X.A)
    (hb : Binds X.K fd ps []) (hg : Gl X x) (hm : X.mg x = some (.ref C)) (ha : PA X (e :: es) ta)
    (hdb : (x == ("__debug__" : Str)) = false := by decide) (he : starEach (e :: es) X.env = (false, eval e X.env) :: starEach es X.env := by rfl)
    (hpl : (backTo pos (starEach es X.env)).any (·.1) = false := by rfl) : PE X (.Call (.Name x p) (e :: es) [] pos) (tMk C sp ta) := by
  refine ⟨fun pins s σ H Q I h => ?_⟩
  refine wpAny_Call_Name_kw (ld_glob I hg hm ?_ hdb)
  refine PySem.W.callWith_K (h₀ := X.base) I.ok.mod.kin T.kC (thn (ha.run pos pins s σ H _ I h) fun us s1 ⟨vs, H1, I1, r1, hz, q1⟩ => ⟨I1.kIn, ?_⟩) he hpl
  have hus : us.length ≤ sizeLine := by
    rw [← Paired.length r1, sizeLine_eq]
    omega
  refine run_mk T F iC tI G hr I1 hus r1 (fun s' self X' => ?_) q1
  have z := hb s' (self :: us) X' (by
    rw [List.append_nil]
    have z1 := G.len _ _ _ _ (q1 _ (I1.hok.fresh (Nat.le_refl _)))
    rw [← z1, List.length_cons, List.length_cons, r1.length])
  rw [List.append_nil] at z
  exact z

theorem pe_mkK (T : XC X.K C newId bmB) (F : BF Bs newId initId bmB) (iC : PySem.W.findIn X.K (.ref C) "__init__" = some (some (.ref fI)))
    (tI : PySem.W.typeIn X.K (.ref fI) = some (.type "function")) (G : FnOk X.prog X.w X.K X.mg X.base CX0 k fI fd ps sp) (hr : Room (k + 1) X.A)
    (hb : KwB X.K fd ps kn) (hg : Gl X x) (hm : X.mg x = some (.ref C)) (ha : PE X e te) (hdb : (x == ("__debug__" : Str)) = false := by decide) :
    PE X (.Call (.Name x p) [] [⟨some kn, e, kpos⟩] pos) (tMkK C sp (tCons te tNil)) := by
  refine ⟨fun pins s σ H Q I h => ?_⟩
  refine wpAny_Call_Name_kw (ld_glob I hg hm ?_ hdb)
  have PKe : PK X [⟨some kn, e, kpos⟩] (tCons te tNil) := pk_cons ha pk_nil
  refine PySem.W.callWith_KW0 (h₀ := X.base) I.ok.mod.kin T.kC (by rfl) (thn (PKe.run pos pins s σ H _ I h) fun ws s1 ⟨zs, H1, I1, r1, hz, q1⟩ => ⟨I1.kIn, ?_⟩) (by rfl)
  obtain ⟨w1, rfl⟩ : ∃ w1, ws = [w1] := by
    have z := r1.length
    rw [hz] at z
    cases ws with
    | nil => cases z
    | cons w1 ws =>
      cases ws with
      | nil => exact ⟨w1, rfl⟩
      | cons w2 ws => cases z
  exact run_mk (us := []) (kw := [(kn, w1)]) T F iC tI G hr I1 (Nat.zero_le _) r1 (fun s' self X' => hb s' self w1 X') q1
end

/-- C(), no __init__ of its own -/
def tMk0 (C : Addr) : TE := fun σ H Q => ∀ a, H a = none → Q (.ref a) (upd H a (exo a C none))
theorem pe_mk0 {X : Cx} {C : Addr} {x : Str} {p pos : Pos} {newId initId Bs : String} {bmB : List Value} (F : BF Bs newId initId bmB) (q : PySem.W.excIn X.K C bmB newId = true)
    (hg : Gl X x) (hm : X.mg x = some (.ref C)) (kC : PySem.W.keepIn X.K (.ref C) = true) (hdb : (x == ("__debug__" : Str)) = false := by decide) :
    PE X (.Call (.Name x p) [] [] pos) (tMk0 C) := by
  refine ⟨fun pins s σ H Q I h => ?_⟩
  refine wpAny_Call_Name_kw (ld_glob I hg hm ?_ hdb)
  refine PySem.W.callWith_K0 I.kIn kC ?_
  show wpAny _ _ (call (.ref C) []) _ _ _
  obtain ⟨m, gn, dr, tn, sy⟩ := s
  obtain ⟨bm, N, nm, qn, bs, hdct, sn, sub, ab, col, dd, k0, k1, k2, k3, k5, mN, hC, hN, hni, T⟩ := exc_obj I.kIn q
  refine wpAny_call_exc_subT F.ex T hC hN hni (fun m' a hm => ?_) (Nat.zero_le _)
  have new : H a = none := I.hok.gone hm.new
  obtain ⟨t, ht, _, _⟩ := hm.there
  exact ⟨.ref a, upd H a (exo a C none), I.laidN hm.keeps hm.new new (exo_ok ht), rfl, h a new⟩

/-- an exception as a value: nothing stored, or its fields -/
def ExAt (H : Hp) (a C : Addr) (fs : List (Str × V)) : Prop := (fs = [] ∧ H a = some (exo a C none)) ∨ ∃ dx, H a = some (exo a C (some dx)) ∧ H dx = some (exd dx fs)
theorem ExAt.mono {H H' : Hp} {a C : Addr} {fs : List (Str × V)} (h : ExAt H a C fs) (e : Evl.Ex H H') : ExAt H' a C fs := by
  rcases h with ⟨h1, h2⟩ | ⟨dx, h1, h2⟩
  · exact .inl ⟨h1, e _ _ h2⟩
  · exact .inr ⟨dx, e _ _ h1, e _ _ h2⟩

/-- e.f -/
def tGet (K : PySem.W.Frag) (f : Str) (te : TE) : TE := fun σ H Q => te σ H fun x H1 => ∃ (a C : Addr) (fs : List (Str × V)) (v : V),
  x = .ref a ∧ ExcC K C ∧ PySem.W.findIn K (.ref C) f = some none ∧ ExAt H1 a C fs ∧ fs.lookup f = some v ∧ Q v H1
theorem pe_get {X : Cx} {e : Expr} {te : TE} {pos : Pos} {f : Str} (he : PE X e te) (hb : attributeBase e f X.env (eval e X.env) = eval e X.env := by rfl) :
    PE X (.Attribute e f pos) (tGet X.K f te) := by
  refine ⟨fun pins s σ H Q I h => ?_⟩
  refine attr_of hb (thn (he.run pins s σ H _ I h) fun u s1 hh => ?_)
  obtain ⟨x, H1, I1, rx, a, C, fs, v, rfl, T, hno, hx, l, q⟩ := hh
  obtain rfl : u = Value.ref a := rx
  rcases hx with ⟨rfl, _⟩ | ⟨dd, ea, ed⟩
  · cases l
  obtain ⟨t1, ho⟩ := exo_at I1.hok ea
  obtain ⟨mA, hns, rel⟩ := exd_at I1.hok ed
  obtain ⟨od, hod, hl⟩ := lookIn_ns hns
  obtain ⟨u, hu, ru⟩ := RelO.some_of (v := v) (o := mA f) (by rw [← l]; exact rel f)
  have J : PySem.W.InstAt s1.heap a { cls := .ref C, dict := some dd, data := .fields #[.ref t1, .none, .none, .none, .bool false, .none] } C (some od) := ⟨ho, rfl, rfl, hod⟩
  exact HandSPX.exc_get I1.kIn J T.hg T.hk T.hs (PySem.W.findObj_own T.hd hno rfl (by rw [hl, hu])) (handed_of ru) ⟨v, H1, I1.tok _, ru, q⟩
end Xv
namespace PySem.W
open PySem PySem.Spec PySem.Calls PyProof.Rows
section
variable {prog : Program} {w : World} {A : Around} {E : Value → Shared → Prop} {s : Shared} {K : Frag} {x D : Addr} {ox : Obj} {od : Option Obj}
theorem xv_class {Q : Option Value → Shared → Prop} (T : L2.ExcC K D) (X : K.In s.heap) (J : InstAt s.heap x ox D od)
    (hf : findObj K D od "__class__" = some (.bind (.builtin "getset_descriptor.__get__") (.builtin "object.__class__")))
    (fin : Q (some (.ref D)) { s with toks := s.toks + 1 }) : wpAny (model prog w) A (getAttr? (.ref x) "__class__") Q E s := by
  obtain ⟨m, gn, dr, tn, sy⟩ := s
  have lT := J.type (M := model prog w)
  have lG := looks_findIn (M := model prog w) X T.hg
  have lK := looks_findIn (M := model prog w) X T.hk
  have lF := looks_find (M := model prog w) X J hf
  have isB : Looks (model prog w) m (isInstance (.ref x) (.type "BaseException")) true := lT.andThen (looks_subIn X T.hs)
  have n0 : (false && onTheHeap (Value.builtin "BaseException.__getattribute__")) = false := rfl
  have n2 : (Value.builtin "BaseException.__getattribute__" == Value.builtin "object.__getattribute__") = false := by decide +kernel
  have n1 : (onTheHeap (Value.ref D) && Value.builtin "BaseException.__getattribute__" == Value.builtin "object.__getattribute__") = false := by
    rw [n2]
    rfl
  unfold getAttr? getAttrBy? getAttrBy
  refine wpAny_bind (wpAny_mkText (wpAny_bind (wpAny_attempt (wpAny_holding (wpAny_bind (lT.at (wpAny_bind (lG.at ?_))))))))
  show wpAny _ _ (ite ((onTheHeap (Value.ref D) && Value.builtin "BaseException.__getattribute__" == Value.builtin "object.__getattribute__") = true) _ _) _ _ _
  rw [n1, if_neg Bool.false_ne_true]
  unfold getAttrByItsOwn hookBefore
  refine wpAny_bind ?_
  rw [if_pos (show onTheHeap (Value.ref D) = true from rfl)]
  refine lK.at ?_
  refine wpAny_bind (wpAny_attempt (wpAny_holding ?_))
  unfold callGetattribute
  rw [n0, if_neg Bool.false_ne_true]
  unfold boundAndCalled
  rw [PySem.F.excAttr_ValueError.ga.bind (.ref x)]
  refine wpAny_bind (wpAny_pure ?_)
  show wpAny _ _ (call (.builtin "BaseException.__getattribute__") [.ref x, .str "__class__" tn]) _ _ _
  refine wpAny_call (codeAny_call_builtin PySem.F.excAttr_ValueError.ga.plain PySem.F.entry_bexc_ga ?_)
  refine @check_slot (model prog w) _ _ ⟨m, gn, dr, tn + 1, sy⟩ "BaseException.__getattribute__" "BaseException" "__getattribute__"
    (.ref x) [.str "__class__" tn] [] _ (by decide +kernel) (by decide +kernel) isB (PySem.F.args_bexc_ga (.ref x) (.str "__class__" tn)) ?_
  unfold Builtin.«object.__getattribute__»
  refine wpAny_bind (wpAny_of_eq (a := ((Value.ref x : Value), [Value.str "__class__" tn])) (by first | rfl | (simp only [slotArgs]; rfl)) ?_)
  refine wpAny_bind (wpAny_pure (wpAny_bind (lT.at (wpAny_bind (lF.at ?_)))))
  show wpAny _ _ (holding [Value.builtin "object.__class__"] (call (.builtin "getset_descriptor.__get__") [.builtin "object.__class__", .ref x, .ref D]) >>= ret) _ _ _
  refine wpAny_bind (wpAny_holding (wpAny_call (class_get (s := ⟨m, gn, dr, tn + 1, sy⟩) (ox := ox) (od := od) X J T.hm ?_)))
  refine wpAny_pure ?_
  show wpAny _ _ (handedOut (.ref D)) _ _ _
  rw [handedOut_of (v := .ref D) rfl]
  first
    | exact wpAny_pure (wpAny_pure fin)
    | exact wpAny_pure fin
    | exact wpAny_pure (wpAny_bind (wpAny_pure (wpAny_pure fin)))
theorem xv_kit (T : L2.ExcC K D) (hf : findObj K D od "__class__" = some (.bind (.builtin "getset_descriptor.__get__") (.builtin "object.__class__"))) :
    KitX K (.ref x) (.ref D) (fun h => InstAt h x ox D od) where
  ty := fun _ _ _ J => J.type
  it := fun M h X _ => by
    have z := handS_kitx_exc (K := K) (x := x) (D := D) (ox := ox) T.hg T.hk T.hs T.hd T.ha T.hn T.ht T.hm
    obtain ⟨cd, hc, _⟩ := any_some T.hd
    unfold clsIn at hc
    split at hc
    · rename_i c1 d1 cd1 sl1 ho
      intro A' Q' E' s' k q
      unfold isType loadHead
      exact wpAny_bind (wpAny_loadPart (k _ _ (X _ _ ho)) (wpAny_pure q))
    · cases hc
  ne := fun h tp dd its n sl X htp => by
    obtain ⟨cd, hc, _⟩ := any_some T.hd
    refine Bool.eq_false_iff.mpr fun q => ?_
    obtain rfl : D = tp := Value.ref.inj (beq_iff_eq.mp q)
    unfold clsIn at hc
    split at hc
    · rename_i c1 d1 cd1 sl1 ho
      have z := (X _ _ ho).symm.trans htp
      cases z
    · cases hc
  ca := fun X J k => xv_class T X J hf k
end
end PySem.W
namespace Xv
open PySem PySem.Spec PyProof.Rows L2
section
variable {X : Cx}
theorem ex_inst {pins : List (Addr × Obj)} {σ : L2.St} {H : Hp} {s : Shared} {a C : Addr} {fs : List (Str × V)} (I : Inv X pins σ H s) (T : ExcC X.K C) (h : ExAt H a C fs) :
    ∃ ox od, PySem.W.InstAt s.heap a ox C od ∧ PySem.W.findObj X.K C od "__class__" = some (.bind (.builtin "getset_descriptor.__get__") (.builtin "object.__class__")) := by
  have hc : (PySem.W.clsIn X.K C).isSome = true := by
    obtain ⟨cd, hc, _⟩ := PySem.W.any_some T.hd
    rw [hc]
    rfl
  rcases h with ⟨_, ea⟩ | ⟨dx, ea, ed⟩
  · obtain ⟨t1, ho⟩ := exo_at I.hok ea
    exact ⟨_, none, ⟨ho, rfl, rfl, trivial⟩, PySem.W.findObj_dataN hc T.ha T.hn T.ht⟩
  · obtain ⟨t1, ho⟩ := exo_at I.hok ea
    obtain ⟨mA, hns, rel⟩ := exd_at I.hok ed
    obtain ⟨od, hod, hl⟩ := lookIn_ns hns
    exact ⟨_, some od, ⟨ho, rfl, rfl, hod⟩, PySem.W.findObj_data hc T.ha T.hn T.ht⟩
/-- isinstance(e, c), e an exception held as a value -/
def rIsX (K : PySem.W.Frag) : List V → Hp → VK → Prop := fun xs H Q => ∃ (a C : Addr) (fs : List (Str × V)) (c : V) (u : Value) (b : Bool),
  xs = [.ref a, c] ∧ ClsV c u ∧ ExcC K C ∧ ExAt H a C fs ∧ PySem.W.kitOne K (.ref C) u = some b ∧ Q (.bl b) H
def rIsXT (K : PySem.W.Frag) : List V → Hp → VK → Prop := fun xs H Q => ∃ (a C tp : Addr) (fs : List (Str × V)) (cs : List V) (us : List Value) (b : Bool),
  xs = [.ref a, .ref tp] ∧ H tp = some (.tup cs) ∧ Paired ClsV cs us ∧ ExcC K C ∧ ExAt H a C fs ∧ PySem.W.kitAny K (.ref C) us = some b ∧ Q (.bl b) H
theorem call_isX : CallR X (.builtin "isinstance") (rIsX X.K) := by
  intro pins s σ H xs us Q I r h
  obtain ⟨a, C, fs, c, u, b, rfl, k, T, hx, e, q⟩ := h
  obtain ⟨u1, u2, rfl, r1, r2⟩ := vals2 r
  obtain rfl : u1 = Value.ref a := r1
  have e2 := k.eq r2
  subst e2
  obtain ⟨ox, od, J, hf⟩ := ex_inst I T hx
  exact PySem.W.kia_one (PySem.W.xv_kit T hf) I.kIn J e (fun z => nomatch z) fun tk => ⟨.bl b, H, I.tok tk, rfl, q⟩
theorem call_isXT : CallR X (.builtin "isinstance") (rIsXT X.K) := by
  intro pins s σ H xs us Q I r h
  obtain ⟨a, C, tp, fs, cs, ws, b, rfl, hT, k, T, hx, e, q⟩ := h
  obtain ⟨u1, u2, rfl, r1, r2⟩ := vals2 r
  obtain rfl : u1 = Value.ref a := r1
  cases (show u2 = Value.ref tp from r2)
  obtain ⟨ox, od, J, hf⟩ := ex_inst I T hx
  obtain ⟨_, its, rv, o, h1, h2, n, h3⟩ := (show ObjOk X.prog X.w H s.heap tp (.tup cs) from I.hok tp _ hT)
  have e3 := ClsV.all k rv
  subst e3
  obtain ⟨oc, odd, dt, sl⟩ := o
  simp only at h2 h3
  subst h2 h3
  exact PySem.W.kia_tup (PySem.W.xv_kit T hf) I.kIn J h1 e (fun z => nomatch z) fun tk => ⟨.bl b, H, I.tok tk, rfl, q⟩
end
end Xv
namespace Kd
open PySem PySem.Spec PyProof.Rows L2
def topS (i : Nat) : Stmt := PySem.Challenge.pw_forthback_k48_refusals_made_by_hand.main.body.getD i (.Pass ⟨0, 0, 0, 0⟩)
abbrev sBox : Stmt := topS 17
abbrev sTake : Stmt := topS 18
theorem scB : FnScope ["_law_script", "_law_k", "_law_cell"] ["_law_script", "_law_k"] (defScope sBox) := ⟨rfl, rfl, rfl, by decide +kernel, rfl, by decide +kernel, by decide +kernel⟩
theorem scT : FnScope ["_law_box_here", "_law_size", "_law_found", "_law_once"] ["_law_box_here", "_law_size"] (defScope sTake) := ⟨rfl, rfl, rfl, by decide +kernel, rfl, by decide +kernel, by decide +kernel⟩
theorem inRange {i n : Int} (h : 0 < n) : 0 ≤ i % n ∧ i % n < n := ⟨Int.emod_nonneg i (by omega), Int.emod_lt_of_pos i h⟩
theorem pos1 : (0 : Int) < 2147483647 := by decide
theorem pos2 : (0 : Int) < 40009 := by decide
theorem pos3 : (0 : Int) < 2147483629 := by decide
section
variable {P : Program} {w : World} {K : PySem.W.Frag} {mg : Str → Option Value} {base : Heap}
/-- the next draw below n: some number there; the box's first falls, its third counts -/
def spTake : Sp := fun vs H Q _ => ∃ (b : Addr) (x y z n : Int), vs = [.ref b, .int n] ∧ H b = some (.lst [.int x, .int y, .int z]) ∧
  0 ≤ x ∧ 0 ≤ y ∧ y < 1000000000000 ∧ 0 ≤ z ∧ z < 1000000000 ∧ 0 < n ∧ n < 1073741824 ∧
  ∀ r x' z', 0 ≤ r → r < n → 0 ≤ x' → z ≤ z' → z' ≤ z + 1 → Q (.int r) (upd H b (.lst [.int x', .int y, .int z']))
theorem ok_take {f : Addr} {fd : FuncData} {k : Nat} (F : Fun K "_law_take" "_law_take" sTake f fd) :
    FnOk P w K mg base CX0 (k + 1) f fd ["_law_box_here", "_law_size"] spTake := by
  refine F.ok scT (fun vs H Q E h => ?_) (fun cdv A outer s H vs Q E hr h => ?_)
  · obtain ⟨b, x, y, z, n, rfl, _⟩ := h
    rfl
  · obtain ⟨b, x, y, z, n, rfl, hb, hx, hy, hy2, hz, hz2, hn, hn2, q⟩ := h
    refine ⟨_, pss_cons (ps_if (pt_cmpR op_gt (pe_ix ix_list (pv 0) pe_int (fun _ _ => rfl)) pe_int (nomark _))
        (pss_cons (ps_set (i := 2) scT.nd rfl (.inl rfl) (pe_op op_mod (pe_ix ix_list (pv 0) pe_int (fun _ _ => rfl)) (pv 1)))
        (pss_cons (ps_asg (pe_op op_fdiv (pe_ix ix_list (pv 0) pe_int (fun _ _ => rfl)) (pv 1)) (pg_sub (pv 0) pe_int set_list))
        (pss_one (ps_ret (pv 2))))) pss_nil)
      (pss_cons (ps_asg (pe_op op_add (pe_ix ix_list (pv 0) pe_int (fun _ _ => rfl)) pe_int) (pg_sub (pv 0) pe_int set_list))
      (pss_cons (ps_set (i := 3) scT.nd rfl (.inl rfl) (pe_op op_mod (pe_op op_pow (pe_op op_add (pe_ix ix_list (pv 0) pe_int (fun _ _ => rfl)) (pe_op op_mul pe_int (pe_ix ix_list (pv 0) pe_int (fun _ _ => rfl)))) pe_int) pe_int))
      (pss_one (ps_ret (pe_op op_mod (pe_op op_fdiv (pe_op op_mod (pe_op op_add (pe_op op_mul (pv 3) (pe_op op_add (pe_op op_mod (pv 3) pe_int) pe_int)) (pe_op op_mul (pe_ix ix_list (pv 0) pe_int (fun _ _ => rfl)) pe_int)) pe_int) pe_int) (pv 1)))))), ?_⟩
    have s0 : SqL K H b [.int x, .int y, .int z] := .inl (.inl hb)
    refine ⟨_, rfl, b, _, 0, _, rfl, rfl, s0, atI_nat (j := 0) rfl, x, 0, rfl, rfl, _, rfl, ite2 (fun e => ?_) (fun e => ?_)⟩
    · refine ⟨_, rfl, b, _, 0, _, rfl, rfl, s0, atI_nat (j := 0) rfl, _, rfl, x, n, rfl, rfl, hn, ?_⟩
      refine ⟨_, rfl, b, _, 0, _, rfl, rfl, s0, atI_nat (j := 0) rfl, _, rfl, x, n, rfl, rfl, ⟨hn, hn2⟩, ?_⟩
      refine ⟨_, rfl, b, _, 0, 0, rfl, rfl, hb, rfl, ?_⟩
      refine ⟨_, rfl, ?_⟩
      have g := inRange (i := x) hn
      exact q _ _ _ g.1 g.2 (Int.ediv_nonneg hx (by omega)) (Int.le_refl _) (by omega)
    · refine ⟨_, rfl, b, _, 2, _, rfl, rfl, s0, atI_nat (j := 2) rfl, z, 1, rfl, rfl, ?_⟩
      refine ⟨_, rfl, b, _, 2, 2, rfl, rfl, hb, rfl, ?_⟩
      have s1 : SqL K (upd H b (.lst [.int x, .int y, .int (z + 1)])) b [.int x, .int y, .int (z + 1)] := .inl (.inl upd_same)
      refine ⟨_, rfl, b, _, 1, _, rfl, rfl, s1, atI_nat (j := 1) rfl, _, rfl, b, _, 2, _, rfl, rfl, s1, atI_nat (j := 2) rfl, 39373, z + 1, rfl, rfl, .inl ⟨by decide, by decide⟩,
        y, 39373 * (z + 1), rfl, rfl, _, 5, rfl, rfl, ⟨by decide, by decide, ?_⟩, _, 2147483647, rfl, rfl, pos1, ?_⟩
      · omega
      · have g := inRange (i := (y + 39373 * (z + 1)) ^ (5 : Int).toNat) (n := 2147483647) (by decide)
        have g2 := inRange (i := (y + 39373 * (z + 1)) ^ (5 : Int).toNat % 2147483647) (n := 40009) (by decide)
        refine ⟨_, rfl, _, rfl, _, 40009, rfl, rfl, pos2, _, 7, rfl, rfl, _, _, rfl, rfl, .inl ⟨by omega, by omega⟩,
          _, rfl, b, _, 2, _, rfl, rfl, s1, atI_nat (j := 2) rfl, z + 1, 7919, rfl, rfl, .inr ⟨by decide, by decide⟩, _, _, rfl, rfl, _, 2147483629, rfl, rfl, pos3,
          _, 64, rfl, rfl, ⟨by decide, by decide⟩, _, rfl, _, n, rfl, rfl, hn, ?_⟩
        exact q _ x (z + 1) (inRange hn).1 (inRange hn).2 hx (by omega) (Int.le_refl _)
/-- a box made of a cell: its numbers within bounds -/
def spBox (K : PySem.W.Frag) : Sp := fun vs H Q _ => ∃ (a : Addr) (ns : List Int) (k : Nat), vs = [.ref a, .int k] ∧ SqL K H a (ns.map V.int) ∧ k ≤ 1000 ∧
  ∀ p x y, H p = none → 0 ≤ x → 0 ≤ y → y < 1000000000000 → Q (.ref p) (upd H p (.lst [.int x, .int y, .int 0]))
theorem ok_box {f : Addr} {fd : FuncData} {k : Nat} (F : Fun K "_law_box" "_law_box" sBox f fd) (ml : mg "len" = none) (ma : mg "abs" = none) (mi : mg "int" = none) :
    FnOk P w K mg base CX0 (k + 1) f fd ["_law_script", "_law_k"] (spBox K) := by
  refine F.ok scB (fun vs H Q E h => ?_) (fun cdv A outer s H vs Q E hr h => ?_)
  · obtain ⟨a, ns, k, rfl, _⟩ := h
    rfl
  · obtain ⟨a, ns, k, rfl, hS, hk, q⟩ := h
    refine ⟨_, pss_cons (ps_set (i := 2) scB.nd rfl (.inl rfl) pe_int)
      (Evl.pss_cut (ps_if (pt_cmpR op_lt (pv 1) (pe_callB call_len_seq (by rfl) ml PySem.boot_len (pa_cons (pv 0) pa_nil)) (nomark _))
        (pss_one (ps_set (i := 2) scB.nd rfl (.inl rfl) (pe_ix ix_list (pv 0) (pv 1) (fun _ _ => rfl)))) pss_nil)
      (pss_one (ps_ret (pe_lst (pa_cons (pe_op op_mul (pe_callB call_abs (by rfl) ma (by decide +kernel) (pa_cons (pv 2) pa_nil))
          (pe_callTy call_int1 (by rfl) mi (by decide +kernel) (pa_cons (pe_cmpR op_ge (pe_callB call_abs (by rfl) ma (by decide +kernel) (pa_cons (pv 2) pa_nil)) (pe_op op_pow pe_int pe_int) (nomark _)) pa_nil)))
        (pa_cons (pe_op op_add (pe_op op_add (pe_op op_mod (pv 2) pe_int) (pe_op op_mul pe_int (pv 1))) pe_int)
        (pa_cons pe_int pa_nil))))))), ?_⟩
    refine ⟨fun σ' H' => H' = H ∧ ∃ c : Int, σ' = [some (.ref a), some (.int k), some (.int c)], ?_, fun σ' H' h => ?_⟩
    · refine ⟨_, rfl, _, rfl, a, _, rfl, .inl hS, _, _, rfl, rfl, _, rfl, ite2 (fun e => ?_) (fun e => ?_)⟩
      · have e1 : (k : Int) < ((ns.map V.int).length : Nat) := of_decide_eq_true e
        have e2 : k < ns.length := by
          rw [List.length_map] at e1
          omega
        have g : (ns.map V.int)[k]? = some (.int ns[k]) := by
          rw [List.getElem?_map, List.getElem?_eq_getElem e2]
          rfl
        exact ⟨_, rfl, _, rfl, a, _, _, _, rfl, rfl, hS, atI_nat g, rfl, ns[k], rfl⟩
      · exact ⟨rfl, 0, rfl⟩
    · obtain ⟨rfl, c, rfl⟩ := h
      have g := inRange (i := c) (n := 2147483629) (by decide)
      refine ⟨_, rfl, c, rfl, _, rfl, c, rfl, 10, 18, rfl, rfl, ⟨by decide, by decide, by decide⟩, _, _, rfl, rfl, .inr ⟨_, rfl, ?_⟩⟩
      have hb : ∀ b : Bool, (0 : Int) ≤ (if b = true then 1 else 0) ∧ (if b = true then (1 : Int) else 0) ≤ 1 := by decide
      have ha : (0 : Int) ≤ (if c < 0 then -c else c) := by split <;> omega
      refine ⟨_, _, rfl, rfl, .inr ⟨?_, ?_⟩, _, rfl, c, 2147483629, rfl, rfl, pos3, _, rfl, 7919, k, rfl, rfl, .inl ⟨by decide, by decide⟩, _, _, rfl, rfl, _, 11, rfl, rfl,
        (show 3 ≤ sizeLine by decide), fun p hp => ?_⟩
      · exact Int.lt_of_lt_of_le (by decide) (hb _).1
      · exact Int.lt_of_le_of_lt (hb _).2 (by decide)
      · exact q p _ _ hp (Int.mul_nonneg ha (hb _).1) (by omega) (by omega)
end
end Kd
namespace Kd
open PySem PySem.Spec PyProof.Rows L2
abbrev sFold : Stmt := topS 20
theorem scF : FnScope ["_law_script", "_law_size", "_law_cells", "_law_k", "_law_cell"] ["_law_script", "_law_size"] (defScope sFold) := ⟨rfl, rfl, rfl, by decide +kernel, rfl, by decide +kernel, by decide +kernel⟩
theorem cut_to (ns : List Int) : cutV (ns.map V.int) none (some 4) = (ns.take 4).map V.int := by
  unfold cutV
  rw [HT.sIx_none, show HT.sIx (ns.map V.int).length (ns.map V.int).length (some 4) = min 4 (ns.map V.int).length from HT.sIx_nat _ _ 4, List.drop_zero, Nat.sub_zero, ← List.map_take, List.length_map]
  congr 1
  rw [List.take_eq_take_iff]
  omega
theorem cut_on (ns : List Int) : ∃ ts : List Int, cutV (ns.map V.int) (some 4) (some 63) = ts.map V.int ∧ (ns.length ≤ 4 → ts = []) ∧ ts.length ≤ ns.length := by
  unfold cutV
  rw [show HT.sIx (ns.map V.int).length 0 (some 4) = min 4 (ns.map V.int).length from HT.sIx_nat _ _ 4, ← List.map_drop, ← List.map_take]
  refine ⟨_, rfl, fun h => ?_, ?_⟩
  · rw [List.length_map, List.drop_eq_nil_of_le (by omega), List.take_nil]
  · rw [List.length_take, List.length_drop]
    omega
theorem pos4 : (0 : Int) < 4 := by decide
theorem dp_ints {K : PySem.W.Frag} {H : Hp} : ∀ ms : List Int, DpAll K H (ms.map V.int) (ms.map PyData.int)
  | [] => .nil
  | m :: r => .cons (.int m) (dp_ints r)
theorem flat_lay {α : Type} (c : α → PyData) (h1 : ∀ a, (c a).canLay0 = true) (h2 : ∀ a, (c a).depth = 0) : ∀ ms : List α, PyData.canLayAll0 (ms.map c) = true ∧ PyData.depthAll (ms.map c) = 0
  | [] => ⟨rfl, rfl⟩
  | m :: r => by
    obtain ⟨g1, g2⟩ := flat_lay c h1 h2 r
    refine ⟨?_, ?_⟩
    · rw [List.map_cons, PyData.canLayAll0, h1, g1]
      rfl
    · rw [List.map_cons, PyData.depthAll, h2, g2]
      rfl
theorem shp_flat {α : Type} (c : α → PyData) (h1 : ∀ a, (c a).canLay0 = true) (h2 : ∀ a, (c a).depth = 0) (ms : List α) : SeqAt.shaped (.list (ms.map c)) = true := by
  obtain ⟨g1, g2⟩ := flat_lay c h1 h2 ms
  unfold SeqAt.shaped
  rw [PyData.canLay0, PyData.depth, g1, g2]
  rfl
theorem shp_ints (ms : List Int) : SeqAt.shaped (.list (ms.map PyData.int)) = true := shp_flat PyData.int (fun _ => by simp [PyData.canLay0]) (fun _ => by simp [PyData.depth]) ms
section
variable {P : Program} {w : World} {K : PySem.W.Frag} {mg : Str → Option Value} {base : Heap}
/-- the first cells, those behind added on: one to four numbers -/
def spFold (K : PySem.W.Frag) : Sp := fun vs H Q _ => ∃ (a : Addr) (ns : List Int), vs = [.ref a, .int 4] ∧ SqL K H a (ns.map V.int) ∧ ns.length ≤ 63 ∧
  ∀ p H' (ms : List Int), Evl.Ex H H' → H p = none → H' p = some (.lst (ms.map V.int)) → 1 ≤ ms.length → ms.length ≤ 4 → Q (.ref p) H'
theorem ok_fold {f : Addr} {fd : FuncData} {k : Nat} (F : Fun K "_law_folded" "_law_folded" sFold f fd) (ml : mg "list" = none) (me : mg "enumerate" = none) :
    FnOk P w K mg base CX0 (k + 1) f fd ["_law_script", "_law_size"] (spFold K) := by
  refine F.ok scF (fun vs H Q E h => ?_) (fun cdv A outer s H vs Q E hr h => ?_)
  · obtain ⟨a, ns, rfl, _⟩ := h
    rfl
  · obtain ⟨a, ns, rfl, hS, hlen, q⟩ := h
    refine ⟨_, pss_cons (ps_set (i := 2) scF.nd rfl (.inl rfl) (pe_callTy call_list_of (by rfl) ml PyProof.Rows.boot_list (pa_cons (pe_slice sl_list (pv 0) po_none (po_some (pv 1))) pa_nil)))
      (pss_cons (ps_for PassesOwn.never rfl (pi_enum (by rfl) me (pa_cons (pe_slice sl_list (pv 0) (po_some (pv 1)) (po_some pe_int)) pa_nil))
          (pg_tup rfl (pgs_cons (pg_name (i := 3) scF.nd rfl (.inl rfl)) (pgs_cons (pg_name (i := 4) scF.nd rfl (.inl rfl)) pgs_nil)))
        (pss_one (ps_asg (pe_op op_add (pe_ix ix_list (pv 2) (pe_op op_mod (pv 3) (pv 1)) (fun _ _ => rfl)) (pe_op op_mul (pv 4) (pe_op op_add (pv 3) pe_int)))
          (pg_sub (pv 2) (pe_op op_mod (pv 3) (pv 1)) set_list))))
      (pss_one (ps_ret (pe_ifExp (pt_cmpR (op_neD hr.units) (pv 2) (pe_lst pa_nil) (nomark _)) (pv 2) (pe_lst (pa_cons pe_int pa_nil)))))), ?_⟩
    refine ⟨_, rfl, _, rfl, 4, rfl, a, _, rfl, hS, fun c nc => ?_⟩
    refine ⟨c, _, rfl, .inl (.inl (.inl upd_same)), fun l nl => ?_⟩
    have x1 : Evl.Ex H (upd H c (.lst (cutV (ns.map V.int) none (some 4)))) := Evl.Ex.new nc
    have x2 := x1.trans (Evl.Ex.new (o := .lst (cutV (ns.map V.int) none (some 4))) nl)
    have nl0 : H l = none := Evl.fresh_back x1 nl
    refine ⟨_, rfl, _, rfl, 4, rfl, 63, rfl, a, _, rfl, Evl.ex_l x2 hS, fun d nd => ?_⟩
    obtain ⟨ts, ets, hts, htl⟩ := cut_on ns
    rw [ets]
    have x3 := x2.trans (Evl.Ex.new (o := .lst (ts.map V.int)) nd)
    have nld : l ≠ d := fun e => by
      rw [← e, upd_same] at nd
      cases nd
    refine ⟨d, _, rfl, .inl (.inl upd_same), for_it (walk_enum (xs := ts.map V.int)) (fun i σ H' => ∃ (y3 y4 : Option V) (ms : List Int), σ = [some (.ref a), some (.int 4), some (.ref l), y3, y4] ∧
      Evl.Ex H H' ∧ H' d = some (.lst (ts.map V.int)) ∧ H' l = some (.lst (ms.map V.int)) ∧ ms.length = min 4 ns.length)
      ⟨none, none, ns.take 4, rfl, x3, upd_same, ?_, List.length_take⟩ (fun i σ H' _ h => ?_) (fun i x σ H1 H2 hi h y => ?_) (fun σ H' h => ?_)⟩
    · rw [upd_ne nld, upd_same, cut_to]
    · obtain ⟨y3, y4, ms, rfl, x4, hd, hl, hm⟩ := h
      exact .inl (.inl hd)
    · obtain ⟨y3, y4, ms, rfl, x4, hd, hl, hm⟩ := h
      obtain ⟨T, x, y, rfl, nT, rfl, e1, e2⟩ := y
      cases e1
      rw [List.length_map] at hi
      have e3 : (ts.map V.int)[i]? = some (.int ts[i]) := by
        rw [List.getElem?_map, List.getElem?_eq_getElem hi]
        rfl
      have e2' : (ts.map V.int)[i]? = some y := e2
      rw [e3] at e2'
      cases e2'
      have h4 : 4 < ns.length := by
        by_cases z : ns.length ≤ 4
        · rw [hts z] at hi
          cases hi
        · omega
      have hm4 : ms.length = 4 := by omega
      refine ⟨T, _, rfl, .inl (.inl upd_same), rfl, _, _, rfl, _, [], rfl, rfl, ?_⟩
      have hlT : (upd H1 T (.tup [.int (i : Nat), .int ts[i]])) l = some (.lst (ms.map V.int)) := by
        rw [upd_ne (ne_of_none hl nT)]
        exact hl
      have lt : i % 4 < ms.length := by omega
      have gi : (ms.map V.int)[i % 4]? = some (.int ms[i % 4]) := by
        rw [List.getElem?_map, List.getElem?_eq_getElem lt]
        rfl
      have ei : ((i : Nat) : Int) % 4 = ((i % 4 : Nat) : Int) := by omega
      refine ⟨_, rfl, _, rfl, _, rfl, _, 4, rfl, rfl, pos4, l, _, _, _, rfl, rfl, .inl (.inl hlT), at_of ei gi,
        _, rfl, _, rfl, _, 2, rfl, rfl, _, _, rfl, rfl, .inr ⟨?_, ?_⟩, _, _, rfl, rfl, _, rfl, _, rfl, _, rfl, _, 4, rfl, rfl, pos4, l, _, _, i % 4, rfl, rfl, hlT, ?_, ?_⟩
      · show -(2 ^ 64) < ((i : Nat) : Int) + 2
        omega
      · show ((i : Nat) : Int) + 2 < 2 ^ 64
        omega
      · rw [ei]
        unfold ixN
        rw [List.length_map, if_pos (by omega), if_pos (by omega)]
        rfl
      · refine ⟨_, _, ms.set (i % 4) (ms[i % 4] + ts[i] * (((i : Nat) : Int) + 2)), rfl, ?_, ?_, ?_, ?_⟩
        · exact Evl.Ex.mut (x4.trans (Evl.Ex.new nT)) nl0
        · rw [upd_ne nld.symm, upd_ne (ne_of_none hd nT)]
          exact hd
        · rw [upd_same, List.map_set]
        · rw [List.length_set]
          exact hm
    · obtain ⟨y3, y4, ms, rfl, x4, hd, hl, hm⟩ := h
      have sl : SqL K H' l (ms.map V.int) := .inl (.inl hl)
      refine ⟨_, rfl, Nat.zero_le _, fun z nz => ?_⟩
      have hlz : (upd H' z (.lst [])) l = some (.lst (ms.map V.int)) := by
        rw [upd_ne (ne_of_none hl nz)]
        exact hl
      refine ⟨_, .list [], Dp.lst (.inl (.inl hlz)) (dp_ints ms), Dp.lst (.inl (.inl upd_same)) .nil, shp_ints ms, by decide +kernel, _, rfl, ?_⟩
      have x5 := x4.trans (Evl.Ex.new (o := .lst []) nz)
      cases ms with
      | nil =>
        refine iteF ?_
        refine ⟨show 1 ≤ sizeLine by decide, fun o no => ?_⟩
        exact q o _ [0] (x5.trans (Evl.Ex.new no)) (Evl.fresh_back x5 no) upd_same (by decide) (by decide)
      | cons m1 ms =>
        refine iteT ?_
        exact ⟨_, rfl, q l _ (m1 :: ms) x5 nl0 hlz (by rw [List.length_cons]; omega) (by omega)⟩
end
end Kd
namespace Kd
open PySem PySem.Spec PyProof.Rows L2
abbrev sSame : Stmt := topS 19
theorem scS : FnScope ["_law_found", "_law_due", "_law_one", "_law_two"] ["_law_found", "_law_due"] (defScope sSame) := ⟨rfl, rfl, rfl, by decide +kernel, rfl, by decide +kernel, by decide +kernel⟩
/-- data of at most so many lists, one in another -/
def shal : Nat → PyData → Bool
  | _, .none => true
  | _, .bool _ => true
  | _, .int _ => true
  | _, .str _ => true
  | 0, .list _ => false
  | 0, .tuple _ => false
  | n + 1, .list ds => decide (ds.length ≤ 1000) && ds.all (shal n)
  | n + 1, .tuple ds => decide (ds.length ≤ 1000) && ds.all (shal n)
  | _, .dict _ => false
section
variable {K : PySem.W.Frag} {H H' : Hp} {a b : Addr} {xs ys : List V}
theorem tyx_l (h : SqL K H a xs) : TyX K H (.ref a) (.type "list") := by
  rcases h with (h | ⟨o, h⟩) | ⟨o, its, n, h1, h2, _⟩
  · exact .base (.lst h)
  · exact .base (.frz h)
  · exact .kList h1 h2
theorem tyx_t (h : SqT K H a xs) : TyX K H (.ref a) (.type "tuple") := by
  rcases h with (h | ⟨o, h⟩) | ⟨o, its, n, h1, h2, _⟩
  · exact .base (.tup h)
  · exact .fTuple h
  · exact .kTuple h1 h2
mutual
theorem dp_mono (e : Evl.Ex H H') : ∀ {v : V} {d : PyData}, Dp K H v d → Dp K H' v d
  | _, _, .non => .non
  | _, _, .bl b => .bl b
  | _, _, .int i => .int i
  | _, _, .str x => .str x
  | _, _, .lst h g => .lst (Evl.ex_l e h) (dpa_mono e g)
  | _, _, .tup h g => .tup (Evl.ex_t e h) (dpa_mono e g)
theorem dpa_mono (e : Evl.Ex H H') : ∀ {vs : List V} {ds : List PyData}, DpAll K H vs ds → DpAll K H' vs ds
  | _, _, .nil => .nil
  | _, _, .cons h g => .cons (dp_mono e h) (dpa_mono e g)
end
theorem dpa_len : ∀ {vs : List V} {ds : List PyData}, DpAll K H vs ds → vs.length = ds.length
  | _, _, .nil => rfl
  | _, _, .cons _ g => by rw [List.length_cons, List.length_cons, dpa_len g]
theorem dpa_at : ∀ {vs : List V} {ds : List PyData} {i : Nat} {v : V}, DpAll K H vs ds → vs[i]? = some v → ∃ d, ds[i]? = some d ∧ Dp K H v d
  | _, _, _, _, .nil, e => by simp at e
  | _, _, 0, _, .cons h g, e => by
    simp at e
    subst e
    exact ⟨_, rfl, h⟩
  | _, _, i + 1, v, .cons h g, e => dpa_at (i := i) g (by simpa using e)
theorem walk_zipT {n : Nat} (hn : n = min xs.length ys.length) : Walk (RZ.ItzT K a b) n (fun H => SqT K H a xs ∧ SqT K H b ys) (YPair (fun i => xs[i]?) (fun i => ys[i]?)) := by
  subst hn
  refine ⟨fun i _ hi q => ?_, fun _ q => ⟨xs, ys, q.1, q.2, by omega⟩, fun i H v H' _ q y => ?_⟩
  · exact ⟨xs, ys, xs[i]'(by omega), ys[i]'(by omega), q.1, q.2, List.getElem?_eq_getElem _, List.getElem?_eq_getElem _⟩
  · obtain ⟨T, x, z, g1, g2, g3, g4, g5⟩ := y
    exact ⟨T, x, z, g1, g2, g3, g4 xs q.1, g5 ys q.2⟩
end
section
variable {P : Program} {w : World} {K : PySem.W.Frag} {mg : Str → Option Value} {base : Heap}
theorem ifY {b : Bool} {A B : Prop} (h : b = true) (hA : A) : if b = true then A else B := by
  rw [if_pos h]
  exact hA
theorem ifN {b : Bool} {A B : Prop} (h : b = false) (hB : B) : if b = true then A else B := by
  rw [h]
  exact iteF hB
theorem kit2 {K : PySem.W.Frag} {t : String} {b c : Bool} (h1 : kitB t "list" = some b) (h2 : kitB t "tuple" = some c) : PySem.W.kitAny K (.type t) [.type "list", .type "tuple"] = some (b || c) := by
  refine kitAny_cons (kit_ty h1) (fun e => ?_) (fun e => by rw [e]; rfl)
  subst e
  refine kitAny_cons (kit_ty h2) (fun e => ?_) (fun e => by rw [e]; rfl)
  subst e
  exact kitAny_nil
theorem two_cls : Paired ClsV [.ty "list", .ty "tuple"] [.type "list", .type "tuple"] := .cons (.ty _) (.cons (.ty _) .nil)
theorem two_size : 2 ≤ sizeLine := by decide
theorem all_yes : ∀ n : Nat, (List.replicate n true).all id = true
  | 0 => rfl
  | n + 1 => by rw [List.replicate_succ, List.all_cons, all_yes n]; rfl
theorem all_at {α : Type} {p : α → Bool} : ∀ {l : List α} {i : Nat} {a : α}, l.all p = true → l[i]? = some a → p a = true := fun {l i a} h e =>
  List.all_eq_true.mp h a (List.mem_of_getElem? e)
/-- both read as one and the same -/
def spSame (K : PySem.W.Frag) (n : Nat) : Sp := fun vs H Q _ => ∃ (x y : V) (d : PyData), vs = [x, y] ∧ Dp K H x d ∧ Dp K H y d ∧ shal n d = true ∧ ∀ H', Evl.Ex H H' → Q (.bl true) H'
def spPrev (K : PySem.W.Frag) : Nat → Sp
  | 0 => fun _ _ _ _ => False
  | n + 1 => spSame K n
structure Names (mg : Str → Option Value) : Prop where
  isi : mg "isinstance" = none
  lst : mg "list" = none
  tup : mg "tuple" = none
  len : mg "len" = none
  all : mg "all" = none
  zip : mg "zip" = none
  str : mg "str" = none
  int : mg "int" = none
  bool : mg "bool" = none
theorem bt_isi : bootBuiltins "isinstance" = some (.builtin "isinstance") := by decide +kernel
theorem bt_tup : bootBuiltins "tuple" = some (.type "tuple") := by decide +kernel
theorem bt_lst : bootBuiltins "list" = some (.type "list") := by decide +kernel
theorem bt_str : bootBuiltins "str" = some (.type "str") := by decide +kernel
theorem bt_int : bootBuiltins "int" = some (.type "int") := by decide +kernel
theorem bt_bool : bootBuiltins "bool" = some (.type "bool") := by decide +kernel
theorem bt_all : bootBuiltins "all" = some (.builtin "all") := by decide +kernel
theorem ok_same {f : Addr} {fd : FuncData} (F : Fun K "_law_same" "_law_same" sSame f fd) (b : Binds K fd ["_law_found", "_law_due"] []) (gs : mg "_law_same" = some (.ref f)) (N : Names mg) :
    ∀ n : Nat, FnOk P w K mg base CX0 n f fd ["_law_found", "_law_due"] (spPrev K n)
  | 0 => ⟨fun _ _ _ _ h => h.elim, fun _ _ _ _ _ _ _ _ _ _ _ _ _ h => h.elim⟩
  | n + 1 => by
    have G := ok_same F b gs N n
    refine F.ok scS (fun vs H Q E h => ?_) (fun cdv A outer s H vs Q E hr h => ?_)
    · obtain ⟨x, y, d, rfl, _⟩ := h
      rfl
    obtain ⟨x, y, d, rfl, hx, hy, hd, q⟩ := h
    refine ⟨_, pss_cons (ps_if (pt_val (pe_callB call_isiT (by rfl) N.isi bt_isi (pa_cons (pv 1) (pa_cons (pe_tup (pa_cons (pe_bltn (v := .ty "list") (by rfl) N.lst bt_lst rfl) (pa_cons (pe_bltn (v := .ty "tuple") (by rfl) N.tup bt_tup rfl) pa_nil))) pa_nil))))
        (pss_cons (ps_if (pw_or (pt_cmpR op_ne (pe_callB call_isi (by rfl) N.isi bt_isi (pa_cons (pv 0) (pa_cons (pe_bltn (v := .ty "list") (by rfl) N.lst bt_lst rfl) pa_nil))) (pe_callB call_isi (by rfl) N.isi bt_isi (pa_cons (pv 1) (pa_cons (pe_bltn (v := .ty "list") (by rfl) N.lst bt_lst rfl) pa_nil))) (nomark _)) (pw_or1 (pt_cmpR op_ne (pe_callB call_isi (by rfl) N.isi bt_isi (pa_cons (pv 0) (pa_cons (pe_bltn (v := .ty "tuple") (by rfl) N.tup bt_tup rfl) pa_nil))) (pe_callB call_isi (by rfl) N.isi bt_isi (pa_cons (pv 1) (pa_cons (pe_bltn (v := .ty "tuple") (by rfl) N.tup bt_tup rfl) pa_nil))) (nomark _)))).pt
          (pss_one (ps_ret pe_bl)) pss_nil)
        (pss_cons (ps_if (pt_cmpR op_ne (pe_callB call_len_seq (by rfl) N.len PySem.boot_len (pa_cons (pv 0) pa_nil)) (pe_callB call_len_seq (by rfl) N.len PySem.boot_len (pa_cons (pv 1) pa_nil)) (nomark _))
          (pss_one (ps_ret pe_bl)) pss_nil)
        (pss_one (ps_ret (pe_callB (cr_all rfl) (by rfl) N.all bt_all (pa_cons
          (pe_lc (own := [("_law_one", 2), ("_law_two", 3)]) (g := gTup K 2 (gCons (gName 2) (gCons (gName 3) gNil))) (tt := tYes) rfl scS.nd (RZ.pi_zipA (by rfl) N.zip (pa_cons (pv 0) (pa_cons (pv 1) pa_nil)))
            (blkOk_by (N := ["_law_found", "_law_due", "_law_one", "_law_two"]) (sc := defScope sSame) (by decide +kernel))
            (fun _ _ _ _ _ => pg_tup rfl (pgs_cons (pg_name (i := 2) scS.nd rfl (.inl rfl)) (pgs_cons (pg_name (i := 3) scS.nd rfl (.inl rfl)) pgs_nil)))
            (fun _ _ _ _ _ => pts_nil)
            (fun _ _ _ _ _ => pe_call G hr (by rfl) gs F.kp b .nil pass0 (pa_cons (pv 2) (pa_cons (pv 3) pa_nil))))
          pa_nil)))))) pss_nil)
      (pss_cons (ps_if (pw_or (pt_cmp (pc_isN (pv 1))) (pw_or1 (pt_val (pe_callB call_isi (by rfl) N.isi bt_isi (pa_cons (pv 1) (pa_cons (pe_bltn (v := .ty "str") (by rfl) N.str bt_str rfl) pa_nil)))))).pt
        (pss_one (ps_ret (pe_and (pe_cmpR op_eq (pv 0) (pv 1) (nomark _)) (pe_one (pe_cmpR op_eq (pe_callB call_isi (by rfl) N.isi bt_isi (pa_cons (pv 0) (pa_cons (pe_bltn (v := .ty "str") (by rfl) N.str bt_str rfl) pa_nil))) (pe_callB call_isi (by rfl) N.isi bt_isi (pa_cons (pv 1) (pa_cons (pe_bltn (v := .ty "str") (by rfl) N.str bt_str rfl) pa_nil))) (nomark _)))))) pss_nil)
      (pss_one (ps_ret (pe_and (pe_callB call_isi (by rfl) N.isi bt_isi (pa_cons (pv 0) (pa_cons (pe_bltn (v := .ty "int") (by rfl) N.int bt_int rfl) pa_nil))) (pe_and (pe_cmpR op_eq (pe_callB call_isi (by rfl) N.isi bt_isi (pa_cons (pv 0) (pa_cons (pe_bltn (v := .ty "bool") (by rfl) N.bool bt_bool rfl) pa_nil))) (pe_callB call_isi (by rfl) N.isi bt_isi (pa_cons (pv 1) (pa_cons (pe_bltn (v := .ty "bool") (by rfl) N.bool bt_bool rfl) pa_nil))) (nomark _)) (pe_one (pe_cmpR op_eq (pv 0) (pv 1) (nomark _)))))))), ?_⟩
    cases d with
    | none =>
      cases hx
      cases hy
      refine ⟨_, rfl, two_size, fun t nt => ?_⟩
      have e0 : Evl.Ex H (upd H t (.tup [.ty "list", .ty "tuple"])) := Evl.Ex.new nt
      refine ⟨_, t, _, _, _, false, rfl, upd_same, two_cls, .base (.non), kit2 (b := false) (c := false) (by decide +kernel) (by decide +kernel), _, rfl, iteF ?_⟩
      refine ⟨_, rfl, _, rfl, iteT ?_⟩
      refine iteT ?_
      refine ⟨_, rfl, _, rfl, rfl, _, rfl, ifY (decide_eq_true rfl) ?_⟩
      refine ⟨_, rfl, _, _, _, _, false, rfl, .ty _, .base (.non), kit_ty (by decide +kernel), _, rfl, _, _, _, _, false, rfl, .ty _, .base (.non), kit_ty (by decide +kernel), rfl, ?_⟩
      exact q _ e0
    | bool b0 =>
      cases hx
      cases hy
      refine ⟨_, rfl, two_size, fun t nt => ?_⟩
      have e0 : Evl.Ex H (upd H t (.tup [.ty "list", .ty "tuple"])) := Evl.Ex.new nt
      refine ⟨_, t, _, _, _, false, rfl, upd_same, two_cls, .base (.bl b0), kit2 (b := false) (c := false) (by decide +kernel) (by decide +kernel), _, rfl, iteF ?_⟩
      refine ⟨_, rfl, _, rfl, ifN (decide_eq_false (fun z => nomatch z)) ?_⟩
      refine ⟨_, rfl, _, _, _, _, false, rfl, .ty _, .base (.bl b0), kit_ty (by decide +kernel), _, rfl, ?_⟩
      refine iteF ?_
      refine ⟨_, rfl, _, _, _, _, true, rfl, .ty _, .base (.bl b0), kit_ty (by decide +kernel), _, rfl, iteT ?_⟩
      refine ⟨_, rfl, _, _, _, _, true, rfl, .ty _, .base (.bl b0), kit_ty (by decide +kernel), _, rfl, _, _, _, _, true, rfl, .ty _, .base (.bl b0), kit_ty (by decide +kernel), rfl, _, rfl, ifY (decide_eq_true rfl) ?_⟩
      refine ⟨_, rfl, _, rfl, rfl, ?_⟩
      rw [decide_eq_true rfl]
      exact q _ e0
    | int i0 =>
      cases hx
      cases hy
      refine ⟨_, rfl, two_size, fun t nt => ?_⟩
      have e0 : Evl.Ex H (upd H t (.tup [.ty "list", .ty "tuple"])) := Evl.Ex.new nt
      refine ⟨_, t, _, _, _, false, rfl, upd_same, two_cls, .base (.int i0), kit2 (b := false) (c := false) (by decide +kernel) (by decide +kernel), _, rfl, iteF ?_⟩
      refine ⟨_, rfl, _, rfl, ifN (decide_eq_false (fun z => nomatch z)) ?_⟩
      refine ⟨_, rfl, _, _, _, _, false, rfl, .ty _, .base (.int i0), kit_ty (by decide +kernel), _, rfl, ?_⟩
      refine iteF ?_
      refine ⟨_, rfl, _, _, _, _, true, rfl, .ty _, .base (.int i0), kit_ty (by decide +kernel), _, rfl, iteT ?_⟩
      refine ⟨_, rfl, _, _, _, _, false, rfl, .ty _, .base (.int i0), kit_ty (by decide +kernel), _, rfl, _, _, _, _, false, rfl, .ty _, .base (.int i0), kit_ty (by decide +kernel), rfl, _, rfl, ifY (decide_eq_true rfl) ?_⟩
      refine ⟨_, rfl, _, rfl, rfl, ?_⟩
      rw [decide_eq_true rfl]
      exact q _ e0
    | str z0 =>
      cases hx
      cases hy
      refine ⟨_, rfl, two_size, fun t nt => ?_⟩
      have e0 : Evl.Ex H (upd H t (.tup [.ty "list", .ty "tuple"])) := Evl.Ex.new nt
      refine ⟨_, t, _, _, _, false, rfl, upd_same, two_cls, .base (.str z0), kit2 (b := false) (c := false) (by decide +kernel) (by decide +kernel), _, rfl, iteF ?_⟩
      refine ⟨_, rfl, _, rfl, ifN (decide_eq_false (fun z => nomatch z)) ?_⟩
      refine ⟨_, rfl, _, _, _, _, true, rfl, .ty _, .base (.str z0), kit_ty (by decide +kernel), _, rfl, ?_⟩
      refine iteT ?_
      refine ⟨_, rfl, _, rfl, rfl, _, rfl, ifY (decide_eq_true rfl) ?_⟩
      refine ⟨_, rfl, _, _, _, _, true, rfl, .ty _, .base (.str z0), kit_ty (by decide +kernel), _, rfl, _, _, _, _, true, rfl, .ty _, .base (.str z0), kit_ty (by decide +kernel), rfl, ?_⟩
      exact q _ e0
    | list ds =>
      cases hx with
      | lst h1 g1 =>
      cases hy with
      | lst h2 g2 =>
      rename_i a1 xs a2 ys
      cases n with
      | zero => exact absurd hd (by simp [shal])
      | succ n =>
      have hd0 : (decide (ds.length ≤ 1000) && ds.all (shal n)) = true := by
        rw [shal] at hd
        exact hd
      have hd' : ds.all (shal n) = true := (Bool.and_eq_true_iff.mp hd0).2
      have hsz : ds.length ≤ 1000 := of_decide_eq_true (Bool.and_eq_true_iff.mp hd0).1
      have l1 := dpa_len g1
      have l2 := dpa_len g2
      refine ⟨_, rfl, two_size, fun t nt => ?_⟩
      have e0 : Evl.Ex H (upd H t (.tup [.ty "list", .ty "tuple"])) := Evl.Ex.new nt
      have L1 := Evl.ex_l e0 h1
      have L2 := Evl.ex_l e0 h2
      refine ⟨_, t, _, _, _, true, rfl, upd_same, two_cls, tyx_l L2, kit2 (b := true) (c := false) (by decide +kernel) (by decide +kernel), _, rfl, iteT ?_⟩
      refine ⟨_, rfl, _, _, _, _, true, rfl, .ty _, tyx_l L1, kit_ty (by decide +kernel), _, rfl, _, _, _, _, true, rfl, .ty _, tyx_l L2, kit_ty (by decide +kernel), rfl, _, rfl, ifN rfl ?_⟩
      refine ⟨_, rfl, _, _, _, _, false, rfl, .ty _, tyx_l L1, kit_ty (by decide +kernel), _, rfl, _, _, _, _, false, rfl, .ty _, tyx_l L2, kit_ty (by decide +kernel), rfl, _, rfl, ifN rfl ?_⟩
      refine ⟨_, rfl, a1, _, rfl, .inl L1, _, rfl, a2, _, rfl, .inl L2, rfl, _, rfl, ifN ?_ ?_⟩
      · rw [l1, l2, decide_eq_true rfl]
        rfl
      refine ⟨_, rfl, _, rfl, a1, a2, xs, ys, rfl, .inl ⟨L1, L2, fun D nD => lc_it (walk_zip (xs := xs) (ys := ys) rfl)
        (fun i H' => Evl.Ex (upd H t (.tup [.ty "list", .ty "tuple"])) H' ∧ H' D = some (.lst ((List.replicate i true).map V.bl))) ⟨Evl.Ex.new nD, upd_same⟩
        (fun i H' _ p => ⟨Evl.ex_l p.1 L1, Evl.ex_l p.1 L2⟩) (fun i x H2 H3 hi p y => ?_) (fun H' p => ?_)⟩⟩
      · obtain ⟨T, u, v, rfl, nT, rfl, eu, ev⟩ := y
        have e2 := e0.trans (p.1.trans (Evl.Ex.new (o := .tup [u, v]) nT))
        obtain ⟨d1, k1, j1⟩ := dpa_at g1 eu
        obtain ⟨d2, k2, j2⟩ := dpa_at g2 ev
        rw [k1] at k2
        cases k2
        refine ⟨T, _, rfl, .inl (.inl upd_same), rfl, _, _, rfl, _, [], rfl, rfl, rfl, ?_⟩
        unfold tYes
        dsimp only
        rw [if_pos rfl]
        refine ⟨_, rfl, _, rfl, u, v, d1, rfl, dp_mono e2 j1, dp_mono e2 j2, all_at hd' k1, fun H4 e4 => ?_⟩
        have hD4 : H4 D = some (.lst ((List.replicate i true).map V.bl)) := e4 _ _ (by
          rw [upd_ne (ne_of_none p.2 nT)]
          exact p.2)
        refine ⟨_, hD4, ?_, ?_, ?_⟩
        · rw [List.length_map, List.length_replicate]
          exact Evl.sz_lt (by have := hsz; omega)
        · exact Evl.Ex.mut ((p.1.trans (Evl.Ex.new nT)).trans e4) nD
        · rw [upd_same, List.replicate_succ', List.map_append]
          rfl
      · refine ⟨D, _, rfl, .inl (.inl p.2), ?_⟩
        rw [all_yes]
        exact q _ (e0.trans p.1)
    | tuple ds =>
      cases hx with
      | tup h1 g1 =>
      cases hy with
      | tup h2 g2 =>
      rename_i a1 xs a2 ys
      cases n with
      | zero => exact absurd hd (by simp [shal])
      | succ n =>
      have hd0 : (decide (ds.length ≤ 1000) && ds.all (shal n)) = true := by
        rw [shal] at hd
        exact hd
      have hd' : ds.all (shal n) = true := (Bool.and_eq_true_iff.mp hd0).2
      have hsz : ds.length ≤ 1000 := of_decide_eq_true (Bool.and_eq_true_iff.mp hd0).1
      have l1 := dpa_len g1
      have l2 := dpa_len g2
      refine ⟨_, rfl, two_size, fun t nt => ?_⟩
      have e0 : Evl.Ex H (upd H t (.tup [.ty "list", .ty "tuple"])) := Evl.Ex.new nt
      have L1 := Evl.ex_t e0 h1
      have L2 := Evl.ex_t e0 h2
      refine ⟨_, t, _, _, _, true, rfl, upd_same, two_cls, tyx_t L2, kit2 (b := false) (c := true) (by decide +kernel) (by decide +kernel), _, rfl, iteT ?_⟩
      refine ⟨_, rfl, _, _, _, _, false, rfl, .ty _, tyx_t L1, kit_ty (by decide +kernel), _, rfl, _, _, _, _, false, rfl, .ty _, tyx_t L2, kit_ty (by decide +kernel), rfl, _, rfl, ifN rfl ?_⟩
      refine ⟨_, rfl, _, _, _, _, true, rfl, .ty _, tyx_t L1, kit_ty (by decide +kernel), _, rfl, _, _, _, _, true, rfl, .ty _, tyx_t L2, kit_ty (by decide +kernel), rfl, _, rfl, ifN rfl ?_⟩
      refine ⟨_, rfl, a1, _, rfl, .inr L1, _, rfl, a2, _, rfl, .inr L2, rfl, _, rfl, ifN ?_ ?_⟩
      · rw [l1, l2, decide_eq_true rfl]
        rfl
      refine ⟨_, rfl, _, rfl, a1, a2, xs, ys, rfl, .inr ⟨L1, L2, fun D nD => lc_it (walk_zipT (xs := xs) (ys := ys) rfl)
        (fun i H' => Evl.Ex (upd H t (.tup [.ty "list", .ty "tuple"])) H' ∧ H' D = some (.lst ((List.replicate i true).map V.bl))) ⟨Evl.Ex.new nD, upd_same⟩
        (fun i H' _ p => ⟨Evl.ex_t p.1 L1, Evl.ex_t p.1 L2⟩) (fun i x H2 H3 hi p y => ?_) (fun H' p => ?_)⟩⟩
      · obtain ⟨T, u, v, rfl, nT, rfl, eu, ev⟩ := y
        have e2 := e0.trans (p.1.trans (Evl.Ex.new (o := .tup [u, v]) nT))
        obtain ⟨d1, k1, j1⟩ := dpa_at g1 eu
        obtain ⟨d2, k2, j2⟩ := dpa_at g2 ev
        rw [k1] at k2
        cases k2
        refine ⟨T, _, rfl, .inl (.inl upd_same), rfl, _, _, rfl, _, [], rfl, rfl, rfl, ?_⟩
        unfold tYes
        dsimp only
        rw [if_pos rfl]
        refine ⟨_, rfl, _, rfl, u, v, d1, rfl, dp_mono e2 j1, dp_mono e2 j2, all_at hd' k1, fun H4 e4 => ?_⟩
        have hD4 : H4 D = some (.lst ((List.replicate i true).map V.bl)) := e4 _ _ (by
          rw [upd_ne (ne_of_none p.2 nT)]
          exact p.2)
        refine ⟨_, hD4, ?_, ?_, ?_⟩
        · rw [List.length_map, List.length_replicate]
          exact Evl.sz_lt (by have := hsz; omega)
        · exact Evl.Ex.mut ((p.1.trans (Evl.Ex.new nT)).trans e4) nD
        · rw [upd_same, List.replicate_succ', List.map_append]
          rfl
      · refine ⟨D, _, rfl, .inl (.inl p.2), ?_⟩
        rw [all_yes]
        exact q _ (e0.trans p.1)
    | dict kvs => cases hx
end
end Kd
namespace Kd
open PySem PySem.Spec PyProof.Rows L2 Xv
theorem PEmono {X : Cx} {e : Expr} {t t' : TE} (h : PE X e t) (k : ∀ σ H Q, t' σ H Q → t σ H Q) : PE X e t' := ⟨fun pins s σ H Q I z => h.run pins s σ H Q I (k σ H Q z)⟩
def tUp (te : TE) : TE := fun σ H Q => ∃ Q0 : VK, te σ H Q0 ∧ ∀ v H', Q0 v H' → Q v H'
theorem pe_up {X : Cx} {e : Expr} {t : TE} (h : PE X e t) : PE X e (tUp t) := ⟨fun pins s σ H Q I z => by
  obtain ⟨Q0, z1, z2⟩ := z
  refine wpAny_mono (h.run pins s σ H Q0 I z1) (fun u s1 hu => ?_) fun _ _ x => x
  obtain ⟨v, H1, I1, r1, q1⟩ := hu
  exact ⟨v, H1, I1, r1, z2 v H1 q1⟩⟩
section
variable {P : Program} {w : World} {K : PySem.W.Frag} {mg : Str → Option Value} {base : Heap}
/-- __init__ of one field f -/
def spInit (C : Addr) (f : Str) : Sp := fun vs H Q _ => ∃ (a : Addr) (v : V), vs = [.ref a, v] ∧ H a = some (exo a C none) ∧
  ∀ dx, H dx = none → dx ≠ a → Q .non (upd (upd H dx (exd dx [(f, v)])) a (exo a C (some dx)))
/-- a class made with one field, as it stands behind the top -/
structure Mk1 (P : Program) (w : World) (K : PySem.W.Frag) (mg : Str → Option Value) (base : Heap) (x f : Str) (C : Addr) : Prop where
  ex : ∃ (newId initId Bs : String) (bmB : List Value) (fI : Addr) (fd : FuncData), XC K C newId bmB ∧ BF Bs newId initId bmB ∧
    PySem.W.findIn K (.ref C) "__init__" = some (some (.ref fI)) ∧ PySem.W.typeIn K (.ref fI) = some (.type "function") ∧
    FnOk P w K mg base CX0 1 fI fd ["self", f] (spInit C f) ∧ L2.Binds K fd ["self", f] [] ∧ KwB K fd ["self", f] f
  g : mg x = some (.ref C)
  no : PySem.W.findIn K (.ref C) f = some none
  is : ExcC K C
structure Mk0 (K : PySem.W.Frag) (mg : Str → Option Value) (x : Str) (C : Addr) : Prop where
  ex : ∃ (newId initId Bs : String) (bmB : List Value), BF Bs newId initId bmB ∧ PySem.W.excIn K C bmB newId = true
  g : mg x = some (.ref C)
  kp : PySem.W.keepIn K (.ref C) = true
  is : ExcC K C
def tNew (C : Addr) (f : Str) (te : TE) : TE := fun σ H Q => te σ H fun v H1 => ∀ a H2, H1 a = none → Evl.Ex H1 H2 → ExAt H2 a C [(f, v)] → Q (.ref a) H2
def tNew0 (C : Addr) : TE := fun σ H Q => ∀ a H2, H a = none → Evl.Ex H H2 → ExAt H2 a C [] → Q (.ref a) H2
theorem init_end {C : Addr} {f : Str} {v : V} {H : Hp} {Q : VK} (h : ∀ a H2, H a = none → Evl.Ex H H2 → ExAt H2 a C [(f, v)] → Q (.ref a) H2) (a : Addr) (na : H a = none) :
    spInit C f [.ref a, v] (upd H a (exo a C none)) (fun u H2 => u = .non ∧ Q (.ref a) H2) E0 := by
  refine ⟨a, v, rfl, upd_same, fun dx nd ne => ⟨rfl, h a _ na ?_ (.inr ⟨dx, upd_same, ?_⟩)⟩⟩
  · have n1 : H dx = none := by
      rw [upd_ne ne] at nd
      exact nd
    exact Evl.Ex.mut (Evl.Ex.mut (Evl.Ex.new na) n1) na
  · rw [upd_ne ne, upd_same]
theorem pe_new {X : Cx} {x f : Str} {C : Addr} {e : Expr} {te : TE} {p pos : Pos} (M : Mk1 X.prog X.w X.K X.mg X.base x f C) (hr : Room 2 X.A) (hg : Gl X x) (he : PE X e te)
    (hdb : (x == ("__debug__" : Str)) = false := by decide) (h1 : starEach [e] X.env = (false, eval e X.env) :: starEach [] X.env := by rfl) : PE X (.Call (.Name x p) [e] [] pos) (tNew C f te) := by
  obtain ⟨newId, initId, Bs, bmB, fI, fd, T, F, iC, tI, G, b, kb⟩ := M.ex
  have hp : PA X [e] (tCons (tUp te) tNil) := pa_cons (pe_up he) pa_nil (hs := h1)
  refine PEmono (pe_mk (p := p) (pos := pos) T F iC tI G hr b hg M.g hp hdb h1 (by rfl)) fun σ H Q h => ?_
  exact ⟨_, h, fun v H1 q => ⟨by show 1 ≤ 1000; decide, fun a na => init_end q a na⟩⟩
theorem pe_newK {X : Cx} {x f : Str} {C : Addr} {e : Expr} {te : TE} {p pos kpos : Pos} (M : Mk1 X.prog X.w X.K X.mg X.base x f C) (hr : Room 2 X.A) (hg : Gl X x) (he : PE X e te)
    (hdb : (x == ("__debug__" : Str)) = false := by decide) : PE X (.Call (.Name x p) [] [⟨some f, e, kpos⟩] pos) (tNew C f te) := by
  obtain ⟨newId, initId, Bs, bmB, fI, fd, T, F, iC, tI, G, b, kb⟩ := M.ex
  refine PEmono (pe_mkK (p := p) (pos := pos) (kpos := kpos) T F iC tI G hr kb hg M.g (pe_up he) hdb) fun σ H Q h => ?_
  exact ⟨_, h, fun v H1 q => ⟨rfl, fun a na => init_end q a na⟩⟩
theorem pe_new0 {X : Cx} {x : Str} {C : Addr} {p pos : Pos} (M : Mk0 X.K X.mg x C) (hg : Gl X x) (hdb : (x == ("__debug__" : Str)) = false := by decide) :
    PE X (.Call (.Name x p) [] [] pos) (tNew0 C) := by
  obtain ⟨newId, initId, Bs, bmB, F, q⟩ := M.ex
  refine PEmono (pe_mk0 (p := p) (pos := pos) F q hg M.g M.kp hdb) fun σ H Q h => ?_
  exact fun a na => h a _ na (Evl.Ex.new na) (.inl ⟨rfl, upd_same⟩)
theorem btV : bootBuiltins "ValueError" = some (.type "ValueError") := by decide +kernel
theorem btL : bootBuiltins "LookupError" = some (.type "LookupError") := by decide +kernel
theorem btO : bootBuiltins "OverflowError" = some (.type "OverflowError") := by decide +kernel
theorem btR : bootBuiltins "RuntimeError" = some (.type "RuntimeError") := by decide +kernel
theorem scNoStep : FnScope ["self", "at"] ["self", "at"] (defScope (inClass (topS 3) 0)) := ⟨rfl, rfl, rfl, by decide +kernel, rfl, by decide +kernel, by decide +kernel⟩
theorem mkNoStep {C g : Addr} {fd : FuncData} (F : Fun K "__init__" "NoStep.__init__" (inClass (topS 3) 0) g fd) (T : XC K C "ValueError.__new__" [.type "ValueError", .type "Exception", .type "BaseException", .type "object"])
    (no : PySem.W.findIn K (.ref C) "at" = some none) (iC : PySem.W.findIn K (.ref C) "__init__" = some (some (.ref g))) (tI : PySem.W.typeIn K (.ref g) = some (.type "function"))
    (vB : PySem.W.findCls K (.type "ValueError") (.type "type") "__init__" = some (.val (.builtin "ValueError.__init__"))) (mB : mg "ValueError" = none) (gc : mg "NoStep" = some (.ref C)) :
    Mk1 P w K mg base "NoStep" "at" C := by
  refine ⟨⟨_, _, _, _, g, fd, T, bfV, iC, tI, ?_, ?_, ?_⟩, gc, no, T.is⟩
  · refine F.ok scNoStep (fun vs H Q E h => ?_) (fun cdv A outer s H vs Q E hr h => ?_)
    · obtain ⟨a, v, rfl, _⟩ := h
      rfl
    · obtain ⟨a, v, rfl, ea, q⟩ := h
      refine ⟨_, pss_cons (ps_expr (pe_binit bfV (by rfl) mB btV (by decide) (by decide) vB (pa_cons (pv 0) (pa_cons pe_str pa_nil)))) (pss_one (ps_put bfV (pv 0) (pv 1))), ?_⟩
      exact ⟨_, rfl, a, C, _, rfl, by show 1 ≤ 1000; decide, T, ea, _, rfl, _, rfl, a, C, rfl, T, no, ea, fun dx nd ne => q dx nd ne⟩
  · exact F.binds fun _ _ _ _ _ _ us hl => match us, hl with | [_, _], _ => rfl
  · obtain ⟨oc, od, kV, doc, pm, an, cdv, ct, osl, rfl, lk, hcd⟩ := F.ex
    exact fun s self v X => .of_eq rfl
theorem scBadWord : FnScope ["self", "at"] ["self", "at"] (defScope (inClass (topS 4) 0)) := ⟨rfl, rfl, rfl, by decide +kernel, rfl, by decide +kernel, by decide +kernel⟩
theorem mkBadWord {C g : Addr} {fd : FuncData} (F : Fun K "__init__" "BadWord.__init__" (inClass (topS 4) 0) g fd) (T : XC K C "ValueError.__new__" [.type "ValueError", .type "Exception", .type "BaseException", .type "object"])
    (no : PySem.W.findIn K (.ref C) "at" = some none) (iC : PySem.W.findIn K (.ref C) "__init__" = some (some (.ref g))) (tI : PySem.W.typeIn K (.ref g) = some (.type "function"))
    (vB : PySem.W.findCls K (.type "ValueError") (.type "type") "__init__" = some (.val (.builtin "ValueError.__init__"))) (mB : mg "ValueError" = none) (gc : mg "BadWord" = some (.ref C)) :
    Mk1 P w K mg base "BadWord" "at" C := by
  refine ⟨⟨_, _, _, _, g, fd, T, bfV, iC, tI, ?_, ?_, ?_⟩, gc, no, T.is⟩
  · refine F.ok scBadWord (fun vs H Q E h => ?_) (fun cdv A outer s H vs Q E hr h => ?_)
    · obtain ⟨a, v, rfl, _⟩ := h
      rfl
    · obtain ⟨a, v, rfl, ea, q⟩ := h
      refine ⟨_, pss_cons (ps_expr (pe_binit bfV (by rfl) mB btV (by decide) (by decide) vB (pa_cons (pv 0) (pa_cons pe_str pa_nil)))) (pss_one (ps_put bfV (pv 0) (pv 1))), ?_⟩
      exact ⟨_, rfl, a, C, _, rfl, by show 1 ≤ 1000; decide, T, ea, _, rfl, _, rfl, a, C, rfl, T, no, ea, fun dx nd ne => q dx nd ne⟩
  · exact F.binds fun _ _ _ _ _ _ us hl => match us, hl with | [_, _], _ => rfl
  · obtain ⟨oc, od, kV, doc, pm, an, cdv, ct, osl, rfl, lk, hcd⟩ := F.ex
    exact fun s self v X => .of_eq rfl
theorem scBadRow : FnScope ["self", "row"] ["self", "row"] (defScope (inClass (topS 5) 0)) := ⟨rfl, rfl, rfl, by decide +kernel, rfl, by decide +kernel, by decide +kernel⟩
theorem mkBadRow {C g : Addr} {fd : FuncData} (F : Fun K "__init__" "BadRow.__init__" (inClass (topS 5) 0) g fd) (T : XC K C "ValueError.__new__" [.type "ValueError", .type "Exception", .type "BaseException", .type "object"])
    (no : PySem.W.findIn K (.ref C) "row" = some none) (iC : PySem.W.findIn K (.ref C) "__init__" = some (some (.ref g))) (tI : PySem.W.typeIn K (.ref g) = some (.type "function"))
    (vB : PySem.W.findCls K (.type "ValueError") (.type "type") "__init__" = some (.val (.builtin "ValueError.__init__"))) (mB : mg "ValueError" = none) (gc : mg "BadRow" = some (.ref C)) :
    Mk1 P w K mg base "BadRow" "row" C := by
  refine ⟨⟨_, _, _, _, g, fd, T, bfV, iC, tI, ?_, ?_, ?_⟩, gc, no, T.is⟩
  · refine F.ok scBadRow (fun vs H Q E h => ?_) (fun cdv A outer s H vs Q E hr h => ?_)
    · obtain ⟨a, v, rfl, _⟩ := h
      rfl
    · obtain ⟨a, v, rfl, ea, q⟩ := h
      refine ⟨_, pss_cons (ps_expr (pe_binit bfV (by rfl) mB btV (by decide) (by decide) vB (pa_cons (pv 0) (pa_cons pe_str pa_nil)))) (pss_one (ps_put bfV (pv 0) (pv 1))), ?_⟩
      exact ⟨_, rfl, a, C, _, rfl, by show 1 ≤ 1000; decide, T, ea, _, rfl, _, rfl, a, C, rfl, T, no, ea, fun dx nd ne => q dx nd ne⟩
  · exact F.binds fun _ _ _ _ _ _ us hl => match us, hl with | [_, _], _ => rfl
  · obtain ⟨oc, od, kV, doc, pm, an, cdv, ct, osl, rfl, lk, hcd⟩ := F.ex
    exact fun s self v X => .of_eq rfl
theorem scBadDeed : FnScope ["self", "at"] ["self", "at"] (defScope (inClass (topS 6) 0)) := ⟨rfl, rfl, rfl, by decide +kernel, rfl, by decide +kernel, by decide +kernel⟩
theorem mkBadDeed {C g : Addr} {fd : FuncData} (F : Fun K "__init__" "BadDeed.__init__" (inClass (topS 6) 0) g fd) (T : XC K C "ValueError.__new__" [.type "ValueError", .type "Exception", .type "BaseException", .type "object"])
    (no : PySem.W.findIn K (.ref C) "at" = some none) (iC : PySem.W.findIn K (.ref C) "__init__" = some (some (.ref g))) (tI : PySem.W.typeIn K (.ref g) = some (.type "function"))
    (vB : PySem.W.findCls K (.type "ValueError") (.type "type") "__init__" = some (.val (.builtin "ValueError.__init__"))) (mB : mg "ValueError" = none) (gc : mg "BadDeed" = some (.ref C)) :
    Mk1 P w K mg base "BadDeed" "at" C := by
  refine ⟨⟨_, _, _, _, g, fd, T, bfV, iC, tI, ?_, ?_, ?_⟩, gc, no, T.is⟩
  · refine F.ok scBadDeed (fun vs H Q E h => ?_) (fun cdv A outer s H vs Q E hr h => ?_)
    · obtain ⟨a, v, rfl, _⟩ := h
      rfl
    · obtain ⟨a, v, rfl, ea, q⟩ := h
      refine ⟨_, pss_cons (ps_expr (pe_binit bfV (by rfl) mB btV (by decide) (by decide) vB (pa_cons (pv 0) (pa_cons pe_str pa_nil)))) (pss_one (ps_put bfV (pv 0) (pv 1))), ?_⟩
      exact ⟨_, rfl, a, C, _, rfl, by show 1 ≤ 1000; decide, T, ea, _, rfl, _, rfl, a, C, rfl, T, no, ea, fun dx nd ne => q dx nd ne⟩
  · exact F.binds fun _ _ _ _ _ _ us hl => match us, hl with | [_, _], _ => rfl
  · obtain ⟨oc, od, kV, doc, pm, an, cdv, ct, osl, rfl, lk, hcd⟩ := F.ex
    exact fun s self v X => .of_eq rfl
theorem scNoBin : FnScope ["self", "place"] ["self", "place"] (defScope (inClass (topS 7) 0)) := ⟨rfl, rfl, rfl, by decide +kernel, rfl, by decide +kernel, by decide +kernel⟩
theorem mkNoBin {C g : Addr} {fd : FuncData} (F : Fun K "__init__" "NoBin.__init__" (inClass (topS 7) 0) g fd) (T : XC K C "LookupError.__new__" [.type "LookupError", .type "Exception", .type "BaseException", .type "object"])
    (no : PySem.W.findIn K (.ref C) "place" = some none) (iC : PySem.W.findIn K (.ref C) "__init__" = some (some (.ref g))) (tI : PySem.W.typeIn K (.ref g) = some (.type "function"))
    (vB : PySem.W.findCls K (.type "LookupError") (.type "type") "__init__" = some (.val (.builtin "LookupError.__init__"))) (mB : mg "LookupError" = none) (gc : mg "NoBin" = some (.ref C)) :
    Mk1 P w K mg base "NoBin" "place" C := by
  refine ⟨⟨_, _, _, _, g, fd, T, bfL, iC, tI, ?_, ?_, ?_⟩, gc, no, T.is⟩
  · refine F.ok scNoBin (fun vs H Q E h => ?_) (fun cdv A outer s H vs Q E hr h => ?_)
    · obtain ⟨a, v, rfl, _⟩ := h
      rfl
    · obtain ⟨a, v, rfl, ea, q⟩ := h
      refine ⟨_, pss_cons (ps_expr (pe_binit bfL (by rfl) mB btL (by decide) (by decide) vB (pa_cons (pv 0) (pa_cons pe_str pa_nil)))) (pss_one (ps_put bfL (pv 0) (pv 1))), ?_⟩
      exact ⟨_, rfl, a, C, _, rfl, by show 1 ≤ 1000; decide, T, ea, _, rfl, _, rfl, a, C, rfl, T, no, ea, fun dx nd ne => q dx nd ne⟩
  · exact F.binds fun _ _ _ _ _ _ us hl => match us, hl with | [_, _], _ => rfl
  · obtain ⟨oc, od, kV, doc, pm, an, cdv, ct, osl, rfl, lk, hcd⟩ := F.ex
    exact fun s self v X => .of_eq rfl
theorem scNoGate : FnScope ["self", "gate"] ["self", "gate"] (defScope (inClass (topS 8) 0)) := ⟨rfl, rfl, rfl, by decide +kernel, rfl, by decide +kernel, by decide +kernel⟩
theorem mkNoGate {C g : Addr} {fd : FuncData} (F : Fun K "__init__" "NoGate.__init__" (inClass (topS 8) 0) g fd) (T : XC K C "LookupError.__new__" [.type "LookupError", .type "Exception", .type "BaseException", .type "object"])
    (no : PySem.W.findIn K (.ref C) "gate" = some none) (iC : PySem.W.findIn K (.ref C) "__init__" = some (some (.ref g))) (tI : PySem.W.typeIn K (.ref g) = some (.type "function"))
    (vB : PySem.W.findCls K (.type "LookupError") (.type "type") "__init__" = some (.val (.builtin "LookupError.__init__"))) (mB : mg "LookupError" = none) (gc : mg "NoGate" = some (.ref C)) :
    Mk1 P w K mg base "NoGate" "gate" C := by
  refine ⟨⟨_, _, _, _, g, fd, T, bfL, iC, tI, ?_, ?_, ?_⟩, gc, no, T.is⟩
  · refine F.ok scNoGate (fun vs H Q E h => ?_) (fun cdv A outer s H vs Q E hr h => ?_)
    · obtain ⟨a, v, rfl, _⟩ := h
      rfl
    · obtain ⟨a, v, rfl, ea, q⟩ := h
      refine ⟨_, pss_cons (ps_expr (pe_binit bfL (by rfl) mB btL (by decide) (by decide) vB (pa_cons (pv 0) (pa_cons pe_str pa_nil)))) (pss_one (ps_put bfL (pv 0) (pv 1))), ?_⟩
      exact ⟨_, rfl, a, C, _, rfl, by show 1 ≤ 1000; decide, T, ea, _, rfl, _, rfl, a, C, rfl, T, no, ea, fun dx nd ne => q dx nd ne⟩
  · exact F.binds fun _ _ _ _ _ _ us hl => match us, hl with | [_, _], _ => rfl
  · obtain ⟨oc, od, kV, doc, pm, an, cdv, ct, osl, rfl, lk, hcd⟩ := F.ex
    exact fun s self v X => .of_eq rfl
theorem scNoDeed : FnScope ["self", "many"] ["self", "many"] (defScope (inClass (topS 9) 0)) := ⟨rfl, rfl, rfl, by decide +kernel, rfl, by decide +kernel, by decide +kernel⟩
theorem mkNoDeed {C g : Addr} {fd : FuncData} (F : Fun K "__init__" "NoDeed.__init__" (inClass (topS 9) 0) g fd) (T : XC K C "LookupError.__new__" [.type "LookupError", .type "Exception", .type "BaseException", .type "object"])
    (no : PySem.W.findIn K (.ref C) "many" = some none) (iC : PySem.W.findIn K (.ref C) "__init__" = some (some (.ref g))) (tI : PySem.W.typeIn K (.ref g) = some (.type "function"))
    (vB : PySem.W.findCls K (.type "LookupError") (.type "type") "__init__" = some (.val (.builtin "LookupError.__init__"))) (mB : mg "LookupError" = none) (gc : mg "NoDeed" = some (.ref C)) :
    Mk1 P w K mg base "NoDeed" "many" C := by
  refine ⟨⟨_, _, _, _, g, fd, T, bfL, iC, tI, ?_, ?_, ?_⟩, gc, no, T.is⟩
  · refine F.ok scNoDeed (fun vs H Q E h => ?_) (fun cdv A outer s H vs Q E hr h => ?_)
    · obtain ⟨a, v, rfl, _⟩ := h
      rfl
    · obtain ⟨a, v, rfl, ea, q⟩ := h
      refine ⟨_, pss_cons (ps_expr (pe_binit bfL (by rfl) mB btL (by decide) (by decide) vB (pa_cons (pv 0) (pa_cons pe_str pa_nil)))) (pss_one (ps_put bfL (pv 0) (pv 1))), ?_⟩
      exact ⟨_, rfl, a, C, _, rfl, by show 1 ≤ 1000; decide, T, ea, _, rfl, _, rfl, a, C, rfl, T, no, ea, fun dx nd ne => q dx nd ne⟩
  · exact F.binds fun _ _ _ _ _ _ us hl => match us, hl with | [_, _], _ => rfl
  · obtain ⟨oc, od, kV, doc, pm, an, cdv, ct, osl, rfl, lk, hcd⟩ := F.ex
    exact fun s self v X => .of_eq rfl
theorem scTooMany : FnScope ["self", "many"] ["self", "many"] (defScope (inClass (topS 10) 0)) := ⟨rfl, rfl, rfl, by decide +kernel, rfl, by decide +kernel, by decide +kernel⟩
theorem mkTooMany {C g : Addr} {fd : FuncData} (F : Fun K "__init__" "TooMany.__init__" (inClass (topS 10) 0) g fd) (T : XC K C "OverflowError.__new__" [.type "OverflowError", .type "ArithmeticError", .type "Exception", .type "BaseException", .type "object"])
    (no : PySem.W.findIn K (.ref C) "many" = some none) (iC : PySem.W.findIn K (.ref C) "__init__" = some (some (.ref g))) (tI : PySem.W.typeIn K (.ref g) = some (.type "function"))
    (vB : PySem.W.findCls K (.type "OverflowError") (.type "type") "__init__" = some (.val (.builtin "OverflowError.__init__"))) (mB : mg "OverflowError" = none) (gc : mg "TooMany" = some (.ref C)) :
    Mk1 P w K mg base "TooMany" "many" C := by
  refine ⟨⟨_, _, _, _, g, fd, T, bfO, iC, tI, ?_, ?_, ?_⟩, gc, no, T.is⟩
  · refine F.ok scTooMany (fun vs H Q E h => ?_) (fun cdv A outer s H vs Q E hr h => ?_)
    · obtain ⟨a, v, rfl, _⟩ := h
      rfl
    · obtain ⟨a, v, rfl, ea, q⟩ := h
      refine ⟨_, pss_cons (ps_expr (pe_binit bfO (by rfl) mB btO (by decide) (by decide) vB (pa_cons (pv 0) (pa_cons pe_str pa_nil)))) (pss_one (ps_put bfO (pv 0) (pv 1))), ?_⟩
      exact ⟨_, rfl, a, C, _, rfl, by show 1 ≤ 1000; decide, T, ea, _, rfl, _, rfl, a, C, rfl, T, no, ea, fun dx nd ne => q dx nd ne⟩
  · exact F.binds fun _ _ _ _ _ _ us hl => match us, hl with | [_, _], _ => rfl
  · obtain ⟨oc, od, kV, doc, pm, an, cdv, ct, osl, rfl, lk, hcd⟩ := F.ex
    exact fun s self v X => .of_eq rfl
theorem scFull : FnScope ["self", "place"] ["self", "place"] (defScope (inClass (topS 11) 0)) := ⟨rfl, rfl, rfl, by decide +kernel, rfl, by decide +kernel, by decide +kernel⟩
theorem mkFull {C g : Addr} {fd : FuncData} (F : Fun K "__init__" "Full.__init__" (inClass (topS 11) 0) g fd) (T : XC K C "OverflowError.__new__" [.type "OverflowError", .type "ArithmeticError", .type "Exception", .type "BaseException", .type "object"])
    (no : PySem.W.findIn K (.ref C) "place" = some none) (iC : PySem.W.findIn K (.ref C) "__init__" = some (some (.ref g))) (tI : PySem.W.typeIn K (.ref g) = some (.type "function"))
    (vB : PySem.W.findCls K (.type "OverflowError") (.type "type") "__init__" = some (.val (.builtin "OverflowError.__init__"))) (mB : mg "OverflowError" = none) (gc : mg "Full" = some (.ref C)) :
    Mk1 P w K mg base "Full" "place" C := by
  refine ⟨⟨_, _, _, _, g, fd, T, bfO, iC, tI, ?_, ?_, ?_⟩, gc, no, T.is⟩
  · refine F.ok scFull (fun vs H Q E h => ?_) (fun cdv A outer s H vs Q E hr h => ?_)
    · obtain ⟨a, v, rfl, _⟩ := h
      rfl
    · obtain ⟨a, v, rfl, ea, q⟩ := h
      refine ⟨_, pss_cons (ps_expr (pe_binit bfO (by rfl) mB btO (by decide) (by decide) vB (pa_cons (pv 0) (pa_cons pe_str pa_nil)))) (pss_one (ps_put bfO (pv 0) (pv 1))), ?_⟩
      exact ⟨_, rfl, a, C, _, rfl, by show 1 ≤ 1000; decide, T, ea, _, rfl, _, rfl, a, C, rfl, T, no, ea, fun dx nd ne => q dx nd ne⟩
  · exact F.binds fun _ _ _ _ _ _ us hl => match us, hl with | [_, _], _ => rfl
  · obtain ⟨oc, od, kV, doc, pm, an, cdv, ct, osl, rfl, lk, hcd⟩ := F.ex
    exact fun s self v X => .of_eq rfl
theorem scBarred : FnScope ["self", "gate"] ["self", "gate"] (defScope (inClass (topS 12) 0)) := ⟨rfl, rfl, rfl, by decide +kernel, rfl, by decide +kernel, by decide +kernel⟩
theorem mkBarred {C g : Addr} {fd : FuncData} (F : Fun K "__init__" "Barred.__init__" (inClass (topS 12) 0) g fd) (T : XC K C "RuntimeError.__new__" [.type "RuntimeError", .type "Exception", .type "BaseException", .type "object"])
    (no : PySem.W.findIn K (.ref C) "gate" = some none) (iC : PySem.W.findIn K (.ref C) "__init__" = some (some (.ref g))) (tI : PySem.W.typeIn K (.ref g) = some (.type "function"))
    (vB : PySem.W.findCls K (.type "RuntimeError") (.type "type") "__init__" = some (.val (.builtin "RuntimeError.__init__"))) (mB : mg "RuntimeError" = none) (gc : mg "Barred" = some (.ref C)) :
    Mk1 P w K mg base "Barred" "gate" C := by
  refine ⟨⟨_, _, _, _, g, fd, T, bfR, iC, tI, ?_, ?_, ?_⟩, gc, no, T.is⟩
  · refine F.ok scBarred (fun vs H Q E h => ?_) (fun cdv A outer s H vs Q E hr h => ?_)
    · obtain ⟨a, v, rfl, _⟩ := h
      rfl
    · obtain ⟨a, v, rfl, ea, q⟩ := h
      refine ⟨_, pss_cons (ps_expr (pe_binit bfR (by rfl) mB btR (by decide) (by decide) vB (pa_cons (pv 0) (pa_cons pe_str pa_nil)))) (pss_one (ps_put bfR (pv 0) (pv 1))), ?_⟩
      exact ⟨_, rfl, a, C, _, rfl, by show 1 ≤ 1000; decide, T, ea, _, rfl, _, rfl, a, C, rfl, T, no, ea, fun dx nd ne => q dx nd ne⟩
  · exact F.binds fun _ _ _ _ _ _ us hl => match us, hl with | [_, _], _ => rfl
  · obtain ⟨oc, od, kV, doc, pm, an, cdv, ct, osl, rfl, lk, hcd⟩ := F.ex
    exact fun s self v X => .of_eq rfl
theorem scLacks : FnScope ["self", "place"] ["self", "place"] (defScope (inClass (topS 13) 0)) := ⟨rfl, rfl, rfl, by decide +kernel, rfl, by decide +kernel, by decide +kernel⟩
theorem mkLacks {C g : Addr} {fd : FuncData} (F : Fun K "__init__" "Lacks.__init__" (inClass (topS 13) 0) g fd) (T : XC K C "RuntimeError.__new__" [.type "RuntimeError", .type "Exception", .type "BaseException", .type "object"])
    (no : PySem.W.findIn K (.ref C) "place" = some none) (iC : PySem.W.findIn K (.ref C) "__init__" = some (some (.ref g))) (tI : PySem.W.typeIn K (.ref g) = some (.type "function"))
    (vB : PySem.W.findCls K (.type "RuntimeError") (.type "type") "__init__" = some (.val (.builtin "RuntimeError.__init__"))) (mB : mg "RuntimeError" = none) (gc : mg "Lacks" = some (.ref C)) :
    Mk1 P w K mg base "Lacks" "place" C := by
  refine ⟨⟨_, _, _, _, g, fd, T, bfR, iC, tI, ?_, ?_, ?_⟩, gc, no, T.is⟩
  · refine F.ok scLacks (fun vs H Q E h => ?_) (fun cdv A outer s H vs Q E hr h => ?_)
    · obtain ⟨a, v, rfl, _⟩ := h
      rfl
    · obtain ⟨a, v, rfl, ea, q⟩ := h
      refine ⟨_, pss_cons (ps_expr (pe_binit bfR (by rfl) mB btR (by decide) (by decide) vB (pa_cons (pv 0) (pa_cons pe_str pa_nil)))) (pss_one (ps_put bfR (pv 0) (pv 1))), ?_⟩
      exact ⟨_, rfl, a, C, _, rfl, by show 1 ≤ 1000; decide, T, ea, _, rfl, _, rfl, a, C, rfl, T, no, ea, fun dx nd ne => q dx nd ne⟩
  · exact F.binds fun _ _ _ _ _ _ us hl => match us, hl with | [_, _], _ => rfl
  · obtain ⟨oc, od, kV, doc, pm, an, cdv, ct, osl, rfl, lk, hcd⟩ := F.ex
    exact fun s self v X => .of_eq rfl
end
end Kd
namespace Kd
open PySem PySem.Spec PyProof.Rows L2 Xv
abbrev sKinds : Stmt := topS 21
abbrev sBases : Stmt := topS 22
theorem scK : FnScope ["_law_error", "_law_found"] ["_law_error"] (defScope sKinds) := ⟨rfl, rfl, rfl, by decide +kernel, rfl, by decide +kernel, by decide +kernel⟩
theorem scP : FnScope ["_law_error", "_law_found"] ["_law_error"] (defScope sBases) := ⟨rfl, rfl, rfl, by decide +kernel, rfl, by decide +kernel, by decide +kernel⟩
/-- where the fifteen classes stand -/
structure Gs (mg : Str → Option Value) (cs : Nat → Addr) : Prop where
  g0 : mg "Unlike" = some (.ref (cs 0))
  g1 : mg "NotAlike" = some (.ref (cs 1))
  g2 : mg "NoStep" = some (.ref (cs 2))
  g3 : mg "BadWord" = some (.ref (cs 3))
  g4 : mg "BadRow" = some (.ref (cs 4))
  g5 : mg "BadDeed" = some (.ref (cs 5))
  g6 : mg "NoBin" = some (.ref (cs 6))
  g7 : mg "NoGate" = some (.ref (cs 7))
  g8 : mg "NoDeed" = some (.ref (cs 8))
  g9 : mg "TooMany" = some (.ref (cs 9))
  g10 : mg "Full" = some (.ref (cs 10))
  g11 : mg "Barred" = some (.ref (cs 11))
  g12 : mg "Lacks" = some (.ref (cs 12))
  g13 : mg "Open" = some (.ref (cs 13))
  g14 : mg "NoRow" = some (.ref (cs 14))
structure Bs (mg : Str → Option Value) : Prop where
  b0 : mg "ValueError" = none
  b1 : mg "LookupError" = none
  b2 : mg "OverflowError" = none
  b3 : mg "RuntimeError" = none
  b4 : mg "KeyError" = none
  b5 : mg "IndexError" = none
  b6 : mg "NotImplementedError" = none
theorem bb0 : bootBuiltins "ValueError" = some (.type "ValueError") := by decide +kernel
theorem bb1 : bootBuiltins "LookupError" = some (.type "LookupError") := by decide +kernel
theorem bb2 : bootBuiltins "OverflowError" = some (.type "OverflowError") := by decide +kernel
theorem bb3 : bootBuiltins "RuntimeError" = some (.type "RuntimeError") := by decide +kernel
theorem bb4 : bootBuiltins "KeyError" = some (.type "KeyError") := by decide +kernel
theorem bb5 : bootBuiltins "IndexError" = some (.type "IndexError") := by decide +kernel
theorem bb6 : bootBuiltins "NotImplementedError" = some (.type "NotImplementedError") := by decide +kernel
theorem carry {H : Hp} {p l : Addr} {o u : HO} (hp : H p = some o) (n : H l = none) : upd H l u p = some o := (upd_ne (ne_of_none hp n)).trans hp
section
variable {P : Program} {w : World} {K : PySem.W.Frag} {mg : Str → Option Value} {base : Heap} {cs : Nat → Addr}
/-- the row of the fifteen answers -/
def spKinds (K : PySem.W.Frag) (cs : Nat → Addr) : Sp := fun vs H Q _ => ∃ (a C : Addr) (fs : List (Str × V)) (b : Nat → Bool), vs = [.ref a] ∧ ExcC K C ∧ ExAt H a C fs ∧
  (∀ j, j < 15 → PySem.W.kitOne K (.ref C) (.ref (cs j)) = some (b j)) ∧
  ∀ p H', Evl.Ex H H' → H' p = some (.lst (((List.range 15).map b).map V.bl)) → Q (.ref p) H'
def spBases (K : PySem.W.Frag) : Sp := fun vs H Q _ => ∃ (a C : Addr) (fs : List (Str × V)) (b0 b1 b2 b3 b4 : Bool), vs = [.ref a] ∧ ExcC K C ∧ ExAt H a C fs ∧
  PySem.W.kitOne K (.ref C) (.type "ValueError") = some b0 ∧ PySem.W.kitOne K (.ref C) (.type "LookupError") = some b1 ∧
  PySem.W.kitOne K (.ref C) (.type "OverflowError") = some b2 ∧ PySem.W.kitOne K (.ref C) (.type "RuntimeError") = some b3 ∧
  PySem.W.kitAny K (.ref C) [.type "KeyError", .type "IndexError", .type "NotImplementedError"] = some b4 ∧
  ∀ p H', Evl.Ex H H' → H' p = some (.lst ([b0, b1, b2, b3, b4].map V.bl)) → Q (.ref p) H'
theorem ok_kinds {f : Addr} {fd : FuncData} {k : Nat} (F : Fun K "_law_kinds" "_law_kinds" sKinds f fd) (G : Gs mg cs) (mi : mg "isinstance" = none) :
    FnOk P w K mg base CX0 (k + 1) f fd ["_law_error"] (spKinds K cs) := by
  refine F.ok scK (fun vs H Q E h => ?_) (fun cdv A outer s H vs Q E hr h => ?_)
  · obtain ⟨a, C, fs, b, rfl, _⟩ := h
    rfl
  · obtain ⟨a, C, fs, b, rfl, T, hx, kit, q⟩ := h
    refine ⟨_, pss_cons (ps_set (i := 1) scK.nd rfl (.inl rfl) (pe_lst (pa_cons (pe_callB call_isX (by rfl) mi bt_isi (pa_cons (pv 0) (pa_cons (pe_glob (v := .ref (cs 0)) (by rfl) G.g0 rfl) pa_nil)))
          (pa_cons (pe_callB call_isX (by rfl) mi bt_isi (pa_cons (pv 0) (pa_cons (pe_glob (v := .ref (cs 1)) (by rfl) G.g1 rfl) pa_nil)))
          (pa_cons (pe_callB call_isX (by rfl) mi bt_isi (pa_cons (pv 0) (pa_cons (pe_glob (v := .ref (cs 2)) (by rfl) G.g2 rfl) pa_nil)))
          pa_nil)))))
      (pss_cons (ps_set (i := 1) scK.nd rfl (.inl rfl) (pe_op op_cat (pv 1) (pe_lst (pa_cons (pe_callB call_isX (by rfl) mi bt_isi (pa_cons (pv 0) (pa_cons (pe_glob (v := .ref (cs 3)) (by rfl) G.g3 rfl) pa_nil)))
          (pa_cons (pe_callB call_isX (by rfl) mi bt_isi (pa_cons (pv 0) (pa_cons (pe_glob (v := .ref (cs 4)) (by rfl) G.g4 rfl) pa_nil)))
          (pa_cons (pe_callB call_isX (by rfl) mi bt_isi (pa_cons (pv 0) (pa_cons (pe_glob (v := .ref (cs 5)) (by rfl) G.g5 rfl) pa_nil)))
          pa_nil))))))
      (pss_cons (ps_set (i := 1) scK.nd rfl (.inl rfl) (pe_op op_cat (pv 1) (pe_lst (pa_cons (pe_callB call_isX (by rfl) mi bt_isi (pa_cons (pv 0) (pa_cons (pe_glob (v := .ref (cs 6)) (by rfl) G.g6 rfl) pa_nil)))
          (pa_cons (pe_callB call_isX (by rfl) mi bt_isi (pa_cons (pv 0) (pa_cons (pe_glob (v := .ref (cs 7)) (by rfl) G.g7 rfl) pa_nil)))
          (pa_cons (pe_callB call_isX (by rfl) mi bt_isi (pa_cons (pv 0) (pa_cons (pe_glob (v := .ref (cs 8)) (by rfl) G.g8 rfl) pa_nil)))
          pa_nil))))))
      (pss_cons (ps_set (i := 1) scK.nd rfl (.inl rfl) (pe_op op_cat (pv 1) (pe_lst (pa_cons (pe_callB call_isX (by rfl) mi bt_isi (pa_cons (pv 0) (pa_cons (pe_glob (v := .ref (cs 9)) (by rfl) G.g9 rfl) pa_nil)))
          (pa_cons (pe_callB call_isX (by rfl) mi bt_isi (pa_cons (pv 0) (pa_cons (pe_glob (v := .ref (cs 10)) (by rfl) G.g10 rfl) pa_nil)))
          (pa_cons (pe_callB call_isX (by rfl) mi bt_isi (pa_cons (pv 0) (pa_cons (pe_glob (v := .ref (cs 11)) (by rfl) G.g11 rfl) pa_nil)))
          pa_nil))))))
      (pss_one (ps_ret (pe_op op_cat (pv 1) (pe_lst (pa_cons (pe_callB call_isX (by rfl) mi bt_isi (pa_cons (pv 0) (pa_cons (pe_glob (v := .ref (cs 12)) (by rfl) G.g12 rfl) pa_nil)))
          (pa_cons (pe_callB call_isX (by rfl) mi bt_isi (pa_cons (pv 0) (pa_cons (pe_glob (v := .ref (cs 13)) (by rfl) G.g13 rfl) pa_nil)))
          (pa_cons (pe_callB call_isX (by rfl) mi bt_isi (pa_cons (pv 0) (pa_cons (pe_glob (v := .ref (cs 14)) (by rfl) G.g14 rfl) pa_nil)))
          pa_nil)))))))))), ?_⟩
    refine ⟨_, rfl, a, C, fs, _, _, b 0, rfl, .own _, T, hx, kit 0 (by decide), _, rfl, a, C, fs, _, _, b 1, rfl, .own _, T, hx, kit 1 (by decide), _, rfl, a, C, fs, _, _, b 2, rfl, .own _, T, hx, kit 2 (by decide), show 3 ≤ sizeLine by decide, fun p0 n0 => ?_⟩
    have e0 : Evl.Ex H (upd H p0 (.lst [.bl (b 0), .bl (b 1), .bl (b 2)])) := Evl.Ex.new n0
    have x0 := hx.mono e0
    refine ⟨_, rfl, _, rfl, a, C, fs, _, _, b 3, rfl, .own _, T, x0, kit 3 (by decide), _, rfl, a, C, fs, _, _, b 4, rfl, .own _, T, x0, kit 4 (by decide), _, rfl, a, C, fs, _, _, b 5, rfl, .own _, T, x0, kit 5 (by decide), show 3 ≤ sizeLine by decide, fun l1 m1 => ?_⟩
    refine ⟨p0, l1, _, _, rfl, rfl, carry upd_same m1, upd_same, show 3 + 3 ≤ sizeLine by decide, fun p1 n1 => ?_⟩
    have e1 := (e0.trans (Evl.Ex.new (o := .lst [.bl (b 3), .bl (b 4), .bl (b 5)]) m1)).trans (Evl.Ex.new (o := .lst (([.bl (b 0), .bl (b 1), .bl (b 2)] : List V) ++ [.bl (b 3), .bl (b 4), .bl (b 5)])) n1)
    have x1 := hx.mono e1
    refine ⟨_, rfl, _, rfl, a, C, fs, _, _, b 6, rfl, .own _, T, x1, kit 6 (by decide), _, rfl, a, C, fs, _, _, b 7, rfl, .own _, T, x1, kit 7 (by decide), _, rfl, a, C, fs, _, _, b 8, rfl, .own _, T, x1, kit 8 (by decide), show 3 ≤ sizeLine by decide, fun l2 m2 => ?_⟩
    refine ⟨p1, l2, _, _, rfl, rfl, carry upd_same m2, upd_same, show 6 + 3 ≤ sizeLine by decide, fun p2 n2 => ?_⟩
    have e2 := (e1.trans (Evl.Ex.new (o := .lst [.bl (b 6), .bl (b 7), .bl (b 8)]) m2)).trans (Evl.Ex.new (o := .lst ((([.bl (b 0), .bl (b 1), .bl (b 2)] : List V) ++ [.bl (b 3), .bl (b 4), .bl (b 5)]) ++ [.bl (b 6), .bl (b 7), .bl (b 8)])) n2)
    have x2 := hx.mono e2
    refine ⟨_, rfl, _, rfl, a, C, fs, _, _, b 9, rfl, .own _, T, x2, kit 9 (by decide), _, rfl, a, C, fs, _, _, b 10, rfl, .own _, T, x2, kit 10 (by decide), _, rfl, a, C, fs, _, _, b 11, rfl, .own _, T, x2, kit 11 (by decide), show 3 ≤ sizeLine by decide, fun l3 m3 => ?_⟩
    refine ⟨p2, l3, _, _, rfl, rfl, carry upd_same m3, upd_same, show 9 + 3 ≤ sizeLine by decide, fun p3 n3 => ?_⟩
    have e3 := (e2.trans (Evl.Ex.new (o := .lst [.bl (b 9), .bl (b 10), .bl (b 11)]) m3)).trans (Evl.Ex.new (o := .lst (((([.bl (b 0), .bl (b 1), .bl (b 2)] : List V) ++ [.bl (b 3), .bl (b 4), .bl (b 5)]) ++ [.bl (b 6), .bl (b 7), .bl (b 8)]) ++ [.bl (b 9), .bl (b 10), .bl (b 11)])) n3)
    have x3 := hx.mono e3
    refine ⟨_, rfl, _, rfl, a, C, fs, _, _, b 12, rfl, .own _, T, x3, kit 12 (by decide), _, rfl, a, C, fs, _, _, b 13, rfl, .own _, T, x3, kit 13 (by decide), _, rfl, a, C, fs, _, _, b 14, rfl, .own _, T, x3, kit 14 (by decide), show 3 ≤ sizeLine by decide, fun l4 m4 => ?_⟩
    refine ⟨p3, l4, _, _, rfl, rfl, carry upd_same m4, upd_same, show 12 + 3 ≤ sizeLine by decide, fun p4 n4 => ?_⟩
    have e4 := (e3.trans (Evl.Ex.new (o := .lst [.bl (b 12), .bl (b 13), .bl (b 14)]) m4)).trans (Evl.Ex.new (o := .lst ((((([.bl (b 0), .bl (b 1), .bl (b 2)] : List V) ++ [.bl (b 3), .bl (b 4), .bl (b 5)]) ++ [.bl (b 6), .bl (b 7), .bl (b 8)]) ++ [.bl (b 9), .bl (b 10), .bl (b 11)]) ++ [.bl (b 12), .bl (b 13), .bl (b 14)])) n4)
    exact q p4 _ e4 upd_same
theorem ok_bases {f : Addr} {fd : FuncData} {k : Nat} (F : Fun K "_law_bases" "_law_bases" sBases f fd) (N : Bs mg) (mi : mg "isinstance" = none) :
    FnOk P w K mg base CX0 (k + 1) f fd ["_law_error"] (spBases K) := by
  refine F.ok scP (fun vs H Q E h => ?_) (fun cdv A outer s H vs Q E hr h => ?_)
  · obtain ⟨a, C, fs, b0, b1, b2, b3, b4, rfl, _⟩ := h
    rfl
  · obtain ⟨a, C, fs, b0, b1, b2, b3, b4, rfl, T, hx, k0, k1, k2, k3, k4, q⟩ := h
    refine ⟨_, pss_cons (ps_set (i := 1) scP.nd rfl (.inl rfl) (pe_lst (pa_cons (pe_callB call_isX (by rfl) mi bt_isi (pa_cons (pv 0) (pa_cons (pe_bltn (v := .ty "ValueError") (by rfl) N.b0 bb0 rfl) pa_nil))) (pa_cons (pe_callB call_isX (by rfl) mi bt_isi (pa_cons (pv 0) (pa_cons (pe_bltn (v := .ty "LookupError") (by rfl) N.b1 bb1 rfl) pa_nil))) pa_nil))))
      (pss_cons (ps_set (i := 1) scP.nd rfl (.inl rfl) (pe_op op_cat (pv 1) (pe_lst (pa_cons (pe_callB call_isX (by rfl) mi bt_isi (pa_cons (pv 0) (pa_cons (pe_bltn (v := .ty "OverflowError") (by rfl) N.b2 bb2 rfl) pa_nil))) (pa_cons (pe_callB call_isX (by rfl) mi bt_isi (pa_cons (pv 0) (pa_cons (pe_bltn (v := .ty "RuntimeError") (by rfl) N.b3 bb3 rfl) pa_nil))) pa_nil)))))
      (pss_one (ps_ret (pe_op op_cat (pv 1) (pe_lst (pa_cons (pe_callB call_isXT (by rfl) mi bt_isi (pa_cons (pv 0) (pa_cons (pe_tup (pa_cons (pe_bltn (v := .ty "KeyError") (by rfl) N.b4 bb4 rfl) (pa_cons (pe_bltn (v := .ty "IndexError") (by rfl) N.b5 bb5 rfl) (pa_cons (pe_bltn (v := .ty "NotImplementedError") (by rfl) N.b6 bb6 rfl) pa_nil)))) pa_nil))) pa_nil)))))), ?_⟩
    refine ⟨_, rfl, a, C, fs, _, _, b0, rfl, .ty _, T, hx, k0, _, rfl, a, C, fs, _, _, b1, rfl, .ty _, T, hx, k1, show 2 ≤ sizeLine by decide, fun p0 n0 => ?_⟩
    have e0 : Evl.Ex H (upd H p0 (.lst [.bl b0, .bl b1])) := Evl.Ex.new n0
    have x0 := hx.mono e0
    refine ⟨_, rfl, _, rfl, a, C, fs, _, _, b2, rfl, .ty _, T, x0, k2, _, rfl, a, C, fs, _, _, b3, rfl, .ty _, T, x0, k3, show 2 ≤ sizeLine by decide, fun l1 m1 => ?_⟩
    refine ⟨p0, l1, _, _, rfl, rfl, carry upd_same m1, upd_same, show 4 ≤ sizeLine by decide, fun p1 n1 => ?_⟩
    have e1 := (e0.trans (Evl.Ex.new (o := .lst [.bl b2, .bl b3]) m1)).trans (Evl.Ex.new (o := .lst ([.bl b0, .bl b1] ++ [.bl b2, .bl b3])) n1)
    have x1 := hx.mono e1
    refine ⟨_, rfl, _, rfl, show 3 ≤ sizeLine by decide, fun t nt => ?_⟩
    have e2 := e1.trans (Evl.Ex.new (o := .tup [.ty "KeyError", .ty "IndexError", .ty "NotImplementedError"]) nt)
    refine ⟨a, C, t, fs, _, _, b4, rfl, upd_same, .cons (.ty _) (.cons (.ty _) (.cons (.ty _) .nil)), T, hx.mono e2, k4, show 1 ≤ sizeLine by decide, fun l2 m2 => ?_⟩
    refine ⟨p1, l2, _, _, rfl, rfl, carry (carry upd_same nt) m2, upd_same, show 5 ≤ sizeLine by decide, fun p2 n2 => ?_⟩
    exact q p2 _ ((e2.trans (Evl.Ex.new (o := .lst [.bl b4]) m2)).trans (Evl.Ex.new (o := .lst (([.bl b0, .bl b1] ++ [.bl b2, .bl b3]) ++ [.bl b4])) n2)) upd_same
end
end Kd
namespace Kd
open PySem PySem.Spec PyProof.Rows L2 Xv
abbrev sRight : Stmt := topS 23
theorem scR : FnScope ["_law_box_here", "_law_due", "_law_some", "_law_named", "_law_errors_made", "_law_rows", "_law_told", "_law_spot", "_law_error", "_law_base", "_law_k"] ["_law_box_here"] (defScope sRight) := ⟨rfl, rfl, rfl, by decide +kernel, rfl, by decide +kernel, by decide +kernel⟩
/-- all that _law_right leans on -/
structure Rf (P : Program) (w : World) (K : PySem.W.Frag) (mg : Str → Option Value) (base : Heap) (cs : Nat → Addr) : Prop where
  m0 : Mk0 K mg "Unlike" (cs 0)
  m1 : Mk0 K mg "NotAlike" (cs 1)
  m2 : Mk1 P w K mg base "NoStep" "at" (cs 2)
  m3 : Mk1 P w K mg base "BadWord" "at" (cs 3)
  m4 : Mk1 P w K mg base "BadRow" "row" (cs 4)
  m5 : Mk1 P w K mg base "BadDeed" "at" (cs 5)
  m6 : Mk1 P w K mg base "NoBin" "place" (cs 6)
  m7 : Mk1 P w K mg base "NoGate" "gate" (cs 7)
  m8 : Mk1 P w K mg base "NoDeed" "many" (cs 8)
  m9 : Mk1 P w K mg base "TooMany" "many" (cs 9)
  m10 : Mk1 P w K mg base "Full" "place" (cs 10)
  m11 : Mk1 P w K mg base "Barred" "gate" (cs 11)
  m12 : Mk1 P w K mg base "Lacks" "place" (cs 12)
  m13 : Mk0 K mg "Open" (cs 13)
  m14 : Mk0 K mg "NoRow" (cs 14)
  range : mg "range" = none
  enum : mg "enumerate" = none
  int : mg "int" = none
  kit : ∀ i j, i < 15 → j < 15 → PySem.W.kitOne K (.ref (cs i)) (.ref (cs j)) = some (decide (j = i))
  b0 : ∀ i, i < 15 → PySem.W.kitOne K (.ref (cs i)) (.type "ValueError") = some (decide (i < 6))
  b1 : ∀ i, i < 15 → PySem.W.kitOne K (.ref (cs i)) (.type "LookupError") = some (decide (6 ≤ i ∧ i < 9))
  b2 : ∀ i, i < 15 → PySem.W.kitOne K (.ref (cs i)) (.type "OverflowError") = some (decide (9 ≤ i ∧ i < 11))
  b3 : ∀ i, i < 15 → PySem.W.kitOne K (.ref (cs i)) (.type "RuntimeError") = some (decide (11 ≤ i))
  b4 : ∀ i, i < 15 → PySem.W.kitAny K (.ref (cs i)) [.type "KeyError", .type "IndexError", .type "NotImplementedError"] = some false
  is : ∀ i, i < 15 → ExcC K (cs i)
/-- a def with its address, its promise and how it binds -/
structure Df (P : Program) (w : World) (K : PySem.W.Frag) (mg : Str → Option Value) (base : Heap) (x : Str) (ps : List Str) (k : Nat) (sp : Sp) : Prop where
  ex : ∃ (f : Addr) (fd : FuncData), FnOk P w K mg base CX0 k f fd ps sp ∧ mg x = some (.ref f) ∧ PySem.W.keepIn K (.ref f) = true ∧ L2.Binds K fd ps []
/-- what each of the fifteen has for its fields -/
def fl (ds : List Int) : Nat → List (Str × V)
  | 2 => [("at", .int (ds.getD 0 0))]
  | 3 => [("at", .int (ds.getD 1 0))]
  | 4 => [("row", .int (ds.getD 2 0))]
  | 5 => [("at", .int (ds.getD 3 0))]
  | 6 => [("place", .int (ds.getD 4 0))]
  | 7 => [("gate", .int (ds.getD 5 0))]
  | 8 => [("many", .int (ds.getD 6 0))]
  | 9 => [("many", .int (ds.getD 7 0))]
  | 10 => [("place", .int (ds.getD 8 0))]
  | 11 => [("gate", .int (ds.getD 9 0))]
  | 12 => [("place", .int (ds.getD 10 0))]
  | _ => []
section
variable {P : Program} {w : World} {K : PySem.W.Frag} {mg : Str → Option Value} {base : Heap} {cs : Nat → Addr}
def spRight : Sp := fun vs H Q _ => ∃ (b : Addr) (x y : Int), vs = [.ref b] ∧ H b = some (.lst [.int x, .int y, .int 0]) ∧ 0 ≤ x ∧ 0 ≤ y ∧ y < 1000000000000 ∧
  ∀ H', (∀ c o, c ≠ b → H c = some o → H' c = some o) → Q (.bl true) H'
/-- it gives a new exception of the class C with the fields fs -/
def Mks (te : TE) (σ : L2.St) (H : Hp) (C : Addr) (fs : List (Str × V)) : Prop := ∀ H1, Evl.Ex H H1 → ∀ Q : VK, (∀ a H2, Evl.Ex H1 H2 → ExAt H2 a C fs → Q (.ref a) H2) → te σ H1 Q
theorem mks_new {σ : L2.St} {H : Hp} {C pd : Addr} {f : Str} {ds : List Int} {z : Int} (j : Nat) (hσ : σ[1]? = some (some (.ref pd))) (hd : H pd = some (.lst (ds.map V.int))) (hj : j < ds.length) (hz : z = (j : Int)) :
    Mks (tNew C f (tOp (rIxL K) (tVar 1) (tC (.int z)))) σ H C [(f, .int (ds.getD j 0))] := fun H1 e Q q => by
  have g : (ds.map V.int)[j]? = some (.int (ds.getD j 0)) := by
    rw [List.getElem?_map, List.getD_eq_getElem?_getD, List.getElem?_eq_getElem hj]
    rfl
  exact ⟨_, hσ, pd, _, _, _, rfl, rfl, .inl (.inl (e _ _ hd)), at_of hz g, fun a H2 na e2 hx => q a H2 e2 hx⟩
theorem mks_new0 {σ : L2.St} {H : Hp} {C : Addr} : Mks (tNew0 C) σ H C [] := fun H1 e Q q a H2 na e2 hx => q a H2 e2 hx
/-- n new exceptions, from the k-th class on -/
def GvA (ta : TA) (σ : L2.St) (H : Hp) (cs : Nat → Addr) (g : Nat → List (Str × V)) (k n : Nat) : Prop := ∀ H1, Evl.Ex H H1 → ∀ Q : List V → Hp → Prop,
  (∀ (as : List Addr) H2, Evl.Ex H1 H2 → as.length = n → (∀ (j : Nat) a, as[j]? = some a → ExAt H2 a (cs (k + j)) (g (k + j))) → Q (as.map V.ref) H2) → ta σ H1 Q
theorem gva_nil {σ : L2.St} {H : Hp} {g : Nat → List (Str × V)} {k : Nat} : GvA tNil σ H cs g k 0 := fun H1 e Q q => q [] H1 (Evl.Ex.refl _) rfl fun j a h => by simp at h
theorem gva_cons {σ : L2.St} {H : Hp} {g : Nat → List (Str × V)} {k n : Nat} {te : TE} {tr : TA} (h : Mks te σ H (cs k) (g k)) (t : GvA tr σ H cs g (k + 1) n) : GvA (tCons te tr) σ H cs g k (n + 1) := fun H1 e Q q =>
  h H1 e _ fun a H2 e2 hx => t H2 (e.trans e2) _ fun as H3 e3 hl hr => q (a :: as) H3 (e2.trans e3) (by rw [List.length_cons, hl]) fun j a' h' => by
    cases j with
    | zero =>
      cases h'
      exact hx.mono e3
    | succ j =>
      have z := hr j a' h'
      rw [show k + 1 + j = k + (j + 1) by omega] at z
      exact z
/-- so many of them stand in a row -/
def RowAt (H : Hp) (cs : Nat → Addr) (g : Nat → List (Str × V)) (k : Nat) (as : List Addr) : Prop := ∀ (j : Nat) a, as[j]? = some a → ExAt H a (cs (k + j)) (g (k + j))
theorem RowAt.mono {H H' : Hp} {g : Nat → List (Str × V)} {k : Nat} {as : List Addr} (h : RowAt H cs g k as) (e : Evl.Ex H H') : RowAt H' cs g k as := fun j a z => (h j a z).mono e
theorem RowAt.app {H : Hp} {g : Nat → List (Str × V)} {k n : Nat} {as bs : List Addr} (h : RowAt H cs g k as) (hn : as.length = n) (t : RowAt H cs g (k + n) bs) : RowAt H cs g k (as ++ bs) := fun j a z => by
  by_cases hj : j < as.length
  · rw [List.getElem?_append_left hj] at z
    exact h j a z
  · rw [List.getElem?_append_right (by omega)] at z
    have y := t (j - as.length) a z
    rw [show k + n + (j - as.length) = k + j by omega] at y
    exact y
theorem eqv_bools : ∀ bs : List Bool, PyData.eqvAll (bs.map PyData.bool) (bs.map PyData.bool) = true
  | [] => by simp [PyData.eqvAll]
  | b :: r => by
    rw [List.map_cons, PyData.eqvAll, eqv_bools r]
    simp [PyData.eqv]
theorem dp_bools {H : Hp} : ∀ bs : List Bool, DpAll K H (bs.map V.bl) (bs.map PyData.bool)
  | [] => .nil
  | m :: r => .cons (.bl m) (dp_bools r)
theorem shp_bools (bs : List Bool) : SeqAt.shaped (.list (bs.map PyData.bool)) = true := shp_flat PyData.bool (fun _ => by simp [PyData.canLay0]) (fun _ => by simp [PyData.depth]) bs
theorem shal_ints (n : Nat) (ms : List Int) (h : ms.length ≤ 1000) : shal (n + 1) (.list (ms.map PyData.int)) = true := by
  rw [shal, Bool.and_eq_true_iff]
  refine ⟨decide_eq_true (by rw [List.length_map]; exact h), List.all_eq_true.mpr fun d hd => ?_⟩
  obtain ⟨i, _, rfl⟩ := List.mem_map.mp hd
  cases n <;> simp [shal]
theorem st_new {i : Nat} {σ : L2.St} {H : Hp} {ta : TA} {tz : TS} {D : Ends} {g : Nat → List (Str × V)} {k m : Nat} (hv : GvA ta σ H cs g k m) (hm : m ≤ 1000)
    (go : ∀ p (bs : List Addr) H', Evl.Ex H H' → H' p = some (.lst (bs.map V.ref)) → bs.length = m → RowAt H' cs g k bs → tz D (σ.set i (some (.ref p))) H') :
    tSeq (tAsg (tLst ta) (gName i)) tz D σ H := by
  refine hv H (Evl.Ex.refl _) _ fun bs H2 e2 hl hr => ⟨by rw [List.length_map, hl]; exact Evl.sz_of (by omega), fun p np => ?_⟩
  exact go p bs _ (e2.trans (Evl.Ex.new np)) upd_same hl (RowAt.mono hr (Evl.Ex.new np))
theorem st_cat {i : Nat} {σ : L2.St} {H : Hp} {ta : TA} {tz : TS} {D : Ends} {g : Nat → List (Str × V)} {k n m : Nat} {p : Addr} {as : List Addr} (hσ : σ[i]? = some (some (.ref p)))
    (hp : H p = some (.lst (as.map V.ref))) (hl : as.length = n) (hr : RowAt H cs g k as) (hv : GvA ta σ H cs g (k + n) m) (hm : n + m ≤ 1000)
    (go : ∀ p (bs : List Addr) H', Evl.Ex H H' → H' p = some (.lst (bs.map V.ref)) → bs.length = n + m → RowAt H' cs g k bs → tz D (σ.set i (some (.ref p))) H') :
    tSeq (tAsg (tOp rCat (tVar i) (tLst ta)) (gName i)) tz D σ H := by
  refine ⟨_, hσ, hv H (Evl.Ex.refl _) _ fun bs H2 e2 hl2 hr2 => ⟨by rw [List.length_map, hl2]; exact Evl.sz_of (by omega), fun l nl => ?_⟩⟩
  refine ⟨p, l, _, _, rfl, rfl, carry (e2 _ _ hp) nl, upd_same, by rw [List.length_map, List.length_map, hl, hl2]; exact Evl.sz_of (by omega), fun q nq => ?_⟩
  have e3 := (Evl.Ex.new (o := .lst (bs.map V.ref)) nl).trans (Evl.Ex.new (o := .lst (as.map V.ref ++ bs.map V.ref)) nq)
  refine go q (as ++ bs) _ (e2.trans e3) ?_ ?_ ?_
  · rw [List.map_append]
    exact upd_same
  · rw [List.length_append, hl, hl2]
  · exact RowAt.app (RowAt.mono hr (e2.trans e3)) hl (RowAt.mono hr2 e3)
theorem len15 : ∀ {as : List Addr}, as.length = 15 → ∃ a0 a1 a2 a3 a4 a5 a6 a7 a8 a9 a10 a11 a12 a13 a14, as = [a0, a1, a2, a3, a4, a5, a6, a7, a8, a9, a10, a11, a12, a13, a14]
  | [a0, a1, a2, a3, a4, a5, a6, a7, a8, a9, a10, a11, a12, a13, a14], _ => ⟨a0, a1, a2, a3, a4, a5, a6, a7, a8, a9, a10, a11, a12, a13, a14, rfl⟩
theorem len11 : ∀ {ds : List Int}, ds.length = 11 → ∃ d0 d1 d2 d3 d4 d5 d6 d7 d8 d9 d10, ds = [d0, d1, d2, d3, d4, d5, d6, d7, d8, d9, d10]
  | [d0, d1, d2, d3, d4, d5, d6, d7, d8, d9, d10], _ => ⟨d0, d1, d2, d3, d4, d5, d6, d7, d8, d9, d10, rfl⟩
/-- which of the four bases the i-th stands under -/
def bse (i : Int) : Int := (if decide (5 < i) = true then 1 else 0) + (if decide (8 < i) = true then 1 else 0) + (if decide (10 < i) = true then 1 else 0)
theorem bse_row : ∀ i : Fin 15, [decide (i.val < 6), decide (6 ≤ i.val ∧ i.val < 9), decide (9 ≤ i.val ∧ i.val < 11), decide (11 ≤ i.val), false] = (List.range 5).map (fun (j : Nat) => decide ((j : Int) = bse (i.val : Int))) := by decide
theorem eqv_self (bs : List Bool) : (!PyData.eqv (.list (bs.map PyData.bool)) (.list (bs.map PyData.bool))) = false := by
  rw [PyData.eqv, eqv_bools]
  rfl
theorem turn_row {H0 H1 : Hp} {Dl : Addr} {j : Nat} {f : Nat → Bool} {k : Bool} (hk : k = f j) (e : Evl.Ex H0 H1) (n : H0 Dl = none) (h : H1 Dl = some (.lst (((List.range j).map f).map V.bl))) :
    Evl.Ex H0 (upd H1 Dl (.lst (((List.range j).map f).map V.bl ++ [.bl k]))) ∧ (upd H1 Dl (.lst (((List.range j).map f).map V.bl ++ [.bl k]))) Dl = some (.lst (((List.range (j + 1)).map f).map V.bl)) := by
  refine ⟨Evl.Ex.mut e n, ?_⟩
  rw [upd_same, List.range_succ, List.map_append, List.map_append, hk]
  rfl
theorem len_row (j : Nat) (f : Nat → Bool) (h : j ≤ 1000) : (((List.range j).map f).map V.bl).length < sizeLine := by
  rw [List.length_map, List.length_map, List.length_range]
  exact Evl.sz_lt (by omega)
theorem ok_right {f : Addr} {fd : FuncData} (F : Fun K "_law_right" "_law_right" sRight f fd) (R : Rf P w K mg base cs)
    (DT : Df P w K mg base "_law_take" ["_law_box_here", "_law_size"] 1 spTake) (DS : Df P w K mg base "_law_same" ["_law_found", "_law_due"] 2 (spSame K 1))
    (DK : Df P w K mg base "_law_kinds" ["_law_error"] 1 (spKinds K cs)) (DB : Df P w K mg base "_law_bases" ["_law_error"] 1 (spBases K)) :
    FnOk P w K mg base CX0 3 f fd ["_law_box_here"] spRight := by
  obtain ⟨fT, fdT, GT, gT, kT, bT⟩ := DT.ex
  obtain ⟨fS, fdS, GS, gS, kS, bS⟩ := DS.ex
  obtain ⟨fK, fdK, GK, gK, kK, bK⟩ := DK.ex
  obtain ⟨fB, fdB, GB, gB, kB, bB⟩ := DB.ex
  refine F.ok scR (fun vs H Q E h => ?_) (fun cdv A outer s H vs Q E hr h => ?_)
  · obtain ⟨b, x, y, rfl, _⟩ := h
    rfl
  · obtain ⟨b, x, y, rfl, hb, hx, hy, hy2, q⟩ := h
    have hr2 := hr.mono (show 2 ≤ 2 by decide)
    refine ⟨_, (pss_cons (ps_setLc (i := 1) (own := [("_law_k", 10)]) (g := gName 10) (tt := tYes) rfl scR.nd rfl rfl (sw_true rfl rfl rfl (by decide +kernel)) (pi_range1 (by rfl) R.range (pa_cons pe_int pa_nil)) (blkOk_by (N := ["_law_box_here", "_law_due", "_law_some", "_law_named", "_law_errors_made", "_law_rows", "_law_told", "_law_spot", "_law_error", "_law_base", "_law_k"]) (sc := defScope sRight) (by decide +kernel)) (fun _ _ _ _ _ => pg_name (i := 10) scR.nd rfl (.inl rfl)) (fun _ _ _ _ _ => pts_nil) (fun _ _ _ _ _ => pe_op op_sub (pe_call GT (hr.mono (by decide)) (by rfl) gT kT bT .nil pass0 (pa_cons (pv 0) (pa_cons (pe_op op_pow pe_int pe_int) pa_nil))) pe_int))
      (pss_cons (ps_set (i := 2) scR.nd rfl (.inl rfl) (pe_lst (pa_cons (pe_new0 R.m0 (by rfl))
          (pa_cons (pe_new0 R.m1 (by rfl))
          (pa_cons (pe_new R.m2 hr2 (by rfl) (pe_ix ix_list (pv 1) pe_int (fun _ _ => rfl)))
          (pa_cons (pe_new R.m3 hr2 (by rfl) (pe_ix ix_list (pv 1) pe_int (fun _ _ => rfl)))
          (pa_cons (pe_new R.m4 hr2 (by rfl) (pe_ix ix_list (pv 1) pe_int (fun _ _ => rfl)))
          (pa_cons (pe_new R.m5 hr2 (by rfl) (pe_ix ix_list (pv 1) pe_int (fun _ _ => rfl)))
          (pa_cons (pe_new R.m6 hr2 (by rfl) (pe_ix ix_list (pv 1) pe_int (fun _ _ => rfl)))
          pa_nil)))))))))
      (pss_cons (ps_set (i := 2) scR.nd rfl (.inl rfl) (pe_op op_cat (pv 2) (pe_lst (pa_cons (pe_new R.m7 hr2 (by rfl) (pe_ix ix_list (pv 1) pe_int (fun _ _ => rfl)))
          (pa_cons (pe_new R.m8 hr2 (by rfl) (pe_ix ix_list (pv 1) pe_int (fun _ _ => rfl)))
          (pa_cons (pe_new R.m9 hr2 (by rfl) (pe_ix ix_list (pv 1) pe_int (fun _ _ => rfl)))
          (pa_cons (pe_new R.m10 hr2 (by rfl) (pe_ix ix_list (pv 1) pe_int (fun _ _ => rfl)))
          (pa_cons (pe_new R.m11 hr2 (by rfl) (pe_ix ix_list (pv 1) pe_int (fun _ _ => rfl)))
          (pa_cons (pe_new R.m12 hr2 (by rfl) (pe_ix ix_list (pv 1) pe_int (fun _ _ => rfl)))
          pa_nil)))))))))
      (pss_cons (ps_set (i := 2) scR.nd rfl (.inl rfl) (pe_op op_cat (pv 2) (pe_lst (pa_cons (pe_new0 R.m13 (by rfl))
          (pa_cons (pe_new0 R.m14 (by rfl))
          pa_nil)))))
      (pss_cons (ps_set (i := 3) scR.nd rfl (.inl rfl) (pe_lst (pa_cons (pe_new0 R.m0 (by rfl))
          (pa_cons (pe_new0 R.m1 (by rfl))
          (pa_cons (pe_newK R.m2 hr2 (by rfl) (pe_ix ix_list (pv 1) pe_int (fun _ _ => rfl)))
          (pa_cons (pe_newK R.m3 hr2 (by rfl) (pe_ix ix_list (pv 1) pe_int (fun _ _ => rfl)))
          (pa_cons (pe_newK R.m4 hr2 (by rfl) (pe_ix ix_list (pv 1) pe_int (fun _ _ => rfl)))
          (pa_cons (pe_newK R.m5 hr2 (by rfl) (pe_ix ix_list (pv 1) pe_int (fun _ _ => rfl)))
          pa_nil))))))))
      (pss_cons (ps_set (i := 3) scR.nd rfl (.inl rfl) (pe_op op_cat (pv 3) (pe_lst (pa_cons (pe_newK R.m6 hr2 (by rfl) (pe_ix ix_list (pv 1) pe_int (fun _ _ => rfl)))
          (pa_cons (pe_newK R.m7 hr2 (by rfl) (pe_ix ix_list (pv 1) pe_int (fun _ _ => rfl)))
          (pa_cons (pe_newK R.m8 hr2 (by rfl) (pe_ix ix_list (pv 1) pe_int (fun _ _ => rfl)))
          (pa_cons (pe_newK R.m9 hr2 (by rfl) (pe_ix ix_list (pv 1) pe_int (fun _ _ => rfl)))
          pa_nil)))))))
      (pss_cons (ps_set (i := 3) scR.nd rfl (.inl rfl) (pe_op op_cat (pv 3) (pe_lst (pa_cons (pe_newK R.m10 hr2 (by rfl) (pe_ix ix_list (pv 1) pe_int (fun _ _ => rfl)))
          (pa_cons (pe_newK R.m11 hr2 (by rfl) (pe_ix ix_list (pv 1) pe_int (fun _ _ => rfl)))
          (pa_cons (pe_newK R.m12 hr2 (by rfl) (pe_ix ix_list (pv 1) pe_int (fun _ _ => rfl)))
          (pa_cons (pe_new0 R.m13 (by rfl))
          (pa_cons (pe_new0 R.m14 (by rfl))
          pa_nil))))))))
      (pss_cons (ps_for PassesOwn.never rfl (pi_tup (pe_tup (pa_cons (pv 2) (pa_cons (pv 3) pa_nil)))) (pg_name (i := 4) scR.nd rfl (.inr rfl)) (pss_cons (ps_set (i := 5) scR.nd rfl (.inl rfl) (pe_lst (pa_cons (pe_get (pe_ix ix_list (pv 4) pe_int (fun _ _ => rfl)))
          pa_nil)))
      (pss_cons (ps_if (pt_not (pt_val (pe_call GS (hr.mono (by decide)) (by rfl) gS kS bS .nil pass0 (pa_cons (pe_op op_cat (pv 5) (pe_lc (own := [("_law_k", 10)]) (g := gName 10) (tt := tYes) (te := tGet K "at" (tOp (rIxL K) (tVar 4) (tVar 10))) rfl scR.nd (pi_tup (pe_tup (pa_cons pe_int (pa_cons pe_int (pa_cons pe_int pa_nil))))) (blkOk_by (N := ["_law_box_here", "_law_due", "_law_some", "_law_named", "_law_errors_made", "_law_rows", "_law_told", "_law_spot", "_law_error", "_law_base", "_law_k"]) (sc := defScope sRight) (by decide +kernel)) (fun _ _ _ _ _ => pg_name (i := 10) scR.nd rfl (.inl rfl)) (fun _ _ _ _ _ => pts_nil) (fun _ _ _ _ _ => pe_get (pe_ix ix_list (pv 4) (pv 10) (fun _ _ => rfl))))) (pa_cons (pe_lst (pa_cons (pe_ix ix_list (pv 1) pe_int (fun _ _ => rfl))
          (pa_cons (pe_ix ix_list (pv 1) pe_int (fun _ _ => rfl))
          (pa_cons (pe_ix ix_list (pv 1) pe_int (fun _ _ => rfl))
          (pa_cons (pe_ix ix_list (pv 1) pe_int (fun _ _ => rfl))
          pa_nil))))) pa_nil))))) (pss_one (ps_ret pe_bl)) pss_nil)
      (pss_cons (ps_set (i := 6) scR.nd rfl (.inl rfl) (pe_lst (pa_cons (pe_get (pe_ix ix_list (pv 4) pe_int (fun _ _ => rfl)))
          (pa_cons (pe_get (pe_ix ix_list (pv 4) pe_int (fun _ _ => rfl)))
          (pa_cons (pe_get (pe_ix ix_list (pv 4) pe_int (fun _ _ => rfl)))
          (pa_cons (pe_get (pe_ix ix_list (pv 4) pe_int (fun _ _ => rfl)))
          pa_nil))))))
      (pss_cons (ps_set (i := 6) scR.nd rfl (.inl rfl) (pe_op op_cat (pv 6) (pe_lst (pa_cons (pe_get (pe_ix ix_list (pv 4) pe_int (fun _ _ => rfl)))
          (pa_cons (pe_get (pe_ix ix_list (pv 4) pe_int (fun _ _ => rfl)))
          (pa_cons (pe_get (pe_ix ix_list (pv 4) pe_int (fun _ _ => rfl)))
          pa_nil))))))
      (pss_cons (ps_if (pt_not (pt_val (pe_call GS (hr.mono (by decide)) (by rfl) gS kS bS .nil pass0 (pa_cons (pv 6) (pa_cons (pe_slice sl_list (pv 1) (po_some pe_int) po_none) pa_nil))))) (pss_one (ps_ret pe_bl)) pss_nil)
      (pss_one (ps_for PassesOwn.never rfl (pi_enum (by rfl) R.enum (pa_cons (pv 4) pa_nil)) (pg_tup rfl (pgs_cons (pg_name (i := 7) scR.nd rfl (.inr rfl)) (pgs_cons (pg_name (i := 8) scR.nd rfl (.inl rfl)) pgs_nil))) (pss_cons (ps_set (i := 9) scR.nd rfl (.inr rfl) (pe_op op_add (pe_op op_add (pe_callTy call_int1 (by rfl) R.int bt_int (pa_cons (pe_cmpR op_gt (pv 7) pe_int (nomark _)) pa_nil)) (pe_callTy call_int1 (by rfl) R.int bt_int (pa_cons (pe_cmpR op_gt (pv 7) pe_int (nomark _)) pa_nil))) (pe_callTy call_int1 (by rfl) R.int bt_int (pa_cons (pe_cmpR op_gt (pv 7) pe_int (nomark _)) pa_nil))))
      (pss_cons (ps_if (pt_cmpR (op_neD hr.units) (pe_call GK (hr.mono (by decide)) (by rfl) gK kK bK .nil pass0 (pa_cons (pv 8) pa_nil)) (pe_lc (own := [("_law_k", 10)]) (g := gName 10) (tt := tYes) rfl scR.nd (pi_range1 (by rfl) R.range (pa_cons pe_int pa_nil)) (blkOk_by (N := ["_law_box_here", "_law_due", "_law_some", "_law_named", "_law_errors_made", "_law_rows", "_law_told", "_law_spot", "_law_error", "_law_base", "_law_k"]) (sc := defScope sRight) (by decide +kernel)) (fun _ _ _ _ _ => pg_name (i := 10) scR.nd rfl (.inl rfl)) (fun _ _ _ _ _ => pts_nil) (fun _ _ _ _ _ => pe_cmpR op_eq (pv 10) (pv 7) (nomark _))) (nomark _)) (pss_one (ps_ret pe_bl)) pss_nil)
      (pss_one (ps_if (pt_cmpR (op_neD hr.units) (pe_call GB (hr.mono (by decide)) (by rfl) gB kB bB .nil pass0 (pa_cons (pv 8) pa_nil)) (pe_lc (own := [("_law_k", 10)]) (g := gName 10) (tt := tYes) rfl scR.nd (pi_range1 (by rfl) R.range (pa_cons pe_int pa_nil)) (blkOk_by (N := ["_law_box_here", "_law_due", "_law_some", "_law_named", "_law_errors_made", "_law_rows", "_law_told", "_law_spot", "_law_error", "_law_base", "_law_k"]) (sc := defScope sRight) (by decide +kernel)) (fun _ _ _ _ _ => pg_name (i := 10) scR.nd rfl (.inl rfl)) (fun _ _ _ _ _ => pts_nil) (fun _ _ _ _ _ => pe_cmpR op_eq (pv 10) (pv 9) (nomark _))) (nomark _)) (pss_one (ps_ret pe_bl)) pss_nil))))))))))))
      (pss_one (ps_ret pe_bl)))))))))), ?_⟩
    refine ⟨11, rfl, by decide, by decide, fun D nD => lc_range (lo := 0) (n := 11) (fun i H' => ∃ (ds : List Int) (x z : Int), ds.length = i ∧ H' D = some (.lst (ds.map V.int)) ∧ 0 ≤ x ∧ 0 ≤ z ∧ z ≤ i ∧
        H' b = some (.lst [.int x, .int y, .int z]) ∧ ∀ c o, c ≠ b → H c = some o → H' c = some o)
      ⟨[], x, 0, rfl, upd_same, hx, by decide, by decide, carry hb nD, fun c o hc h => carry h nD⟩ (fun i H' hi p => ?_) (fun H' p => ?_)⟩
    · obtain ⟨ds, x1, z1, hl, hD, hx1, hz1, hz2, hb1, keep⟩ := p
      refine ⟨rfl, ?_⟩
      unfold tYes
      dsimp only
      rw [if_pos rfl]
      refine ⟨_, rfl, 10, 6, rfl, rfl, ⟨by decide, by decide, by decide⟩, b, x1, y, z1, _, rfl, hb1, hx1, hy, hy2, hz1, by omega, by decide, by decide, fun r x2 z2 hr0 hr1 hx2 hz3 hz4 => ?_⟩
      refine ⟨_, 1, rfl, rfl, ds.map V.int, ?_, ?_, ds ++ [r - 1], x2, z2, ?_, ?_, hx2, by omega, by omega, ?_, fun c o hc h => ?_⟩
      · exact (upd_ne (ne_of_none hb nD).symm).trans hD
      · rw [List.length_map]
        exact Evl.sz_lt (by omega)
      · rw [List.length_append, hl]
        rfl
      · rw [upd_same, List.map_append]
        rfl
      · rw [upd_ne (ne_of_none hb nD), upd_same]
      · rw [upd_ne (ne_of_none h nD), upd_ne hc]
        exact keep c o hc h
    · obtain ⟨ds, x1, z1, hl, hD, hx1, hz1, hz2, hb1, keep⟩ := p
      refine st_new (cs := cs) (g := fl ds) (k := 0) (m := 7) (gva_cons mks_new0 (gva_cons mks_new0 (gva_cons (mks_new 0 rfl hD (by rw [hl]; decide) rfl) (gva_cons (mks_new 1 rfl hD (by rw [hl]; decide) rfl) (gva_cons (mks_new 2 rfl hD (by rw [hl]; decide) rfl) (gva_cons (mks_new 3 rfl hD (by rw [hl]; decide) rfl) (gva_cons (mks_new 4 rfl hD (by rw [hl]; decide) rfl) gva_nil))))))) (by decide) fun p1 a1 H1 e1 hp1 l1 r1 => ?_
      refine st_cat (cs := cs) (g := fl ds) (k := 0) (n := 7) (m := 6) rfl hp1 l1 r1 (gva_cons (mks_new 5 rfl (e1 _ _ hD) (by rw [hl]; decide) rfl) (gva_cons (mks_new 6 rfl (e1 _ _ hD) (by rw [hl]; decide) rfl) (gva_cons (mks_new 7 rfl (e1 _ _ hD) (by rw [hl]; decide) rfl) (gva_cons (mks_new 8 rfl (e1 _ _ hD) (by rw [hl]; decide) rfl) (gva_cons (mks_new 9 rfl (e1 _ _ hD) (by rw [hl]; decide) rfl) (gva_cons (mks_new 10 rfl (e1 _ _ hD) (by rw [hl]; decide) rfl) gva_nil)))))) (by decide) fun p2 a2 H2 e2 hp2 l2 r2 => ?_
      refine st_cat (cs := cs) (g := fl ds) (k := 0) (n := 13) (m := 2) rfl hp2 l2 r2 (gva_cons mks_new0 (gva_cons mks_new0 gva_nil)) (by decide) fun ps as H3 e3 hps ls rs => ?_
      have x3 := (e1.trans e2).trans e3
      refine st_new (cs := cs) (g := fl ds) (k := 0) (m := 6) (gva_cons mks_new0 (gva_cons mks_new0 (gva_cons (mks_new 0 rfl (x3 _ _ hD) (by rw [hl]; decide) rfl) (gva_cons (mks_new 1 rfl (x3 _ _ hD) (by rw [hl]; decide) rfl) (gva_cons (mks_new 2 rfl (x3 _ _ hD) (by rw [hl]; decide) rfl) (gva_cons (mks_new 3 rfl (x3 _ _ hD) (by rw [hl]; decide) rfl) gva_nil)))))) (by decide) fun p4 a4 H4 e4 hp4 l4 r4 => ?_
      refine st_cat (cs := cs) (g := fl ds) (k := 0) (n := 6) (m := 4) rfl hp4 l4 r4 (gva_cons (mks_new 4 rfl (e4 _ _ (x3 _ _ hD)) (by rw [hl]; decide) rfl) (gva_cons (mks_new 5 rfl (e4 _ _ (x3 _ _ hD)) (by rw [hl]; decide) rfl) (gva_cons (mks_new 6 rfl (e4 _ _ (x3 _ _ hD)) (by rw [hl]; decide) rfl) (gva_cons (mks_new 7 rfl (e4 _ _ (x3 _ _ hD)) (by rw [hl]; decide) rfl) gva_nil)))) (by decide) fun p5 a5 H5 e5 hp5 l5 r5 => ?_
      refine st_cat (cs := cs) (g := fl ds) (k := 0) (n := 10) (m := 5) rfl hp5 l5 r5 (gva_cons (mks_new 8 rfl (e5 _ _ (e4 _ _ (x3 _ _ hD))) (by rw [hl]; decide) rfl) (gva_cons (mks_new 9 rfl (e5 _ _ (e4 _ _ (x3 _ _ hD))) (by rw [hl]; decide) rfl) (gva_cons (mks_new 10 rfl (e5 _ _ (e4 _ _ (x3 _ _ hD))) (by rw [hl]; decide) rfl) (gva_cons mks_new0 (gva_cons mks_new0 gva_nil))))) (by decide) fun pn an H6 e6 hpn ln rn => ?_
      have x36 := (e4.trans e5).trans e6
      have x6 := x3.trans x36
      have hD6 := x6 _ _ hD
      have hps6 := x36 _ _ hps
      have rs6 := RowAt.mono rs x36
      refine ⟨_, rfl, _, rfl, two_size, fun t nt => ?_⟩
      have xt : Evl.Ex H6 (upd H6 t (.tup [.ref ps, .ref pn])) := Evl.Ex.new nt
      refine ⟨t, rfl, ⟨_, .inl (.inl upd_same)⟩, for_it (walk_tup (xs := [.ref ps, .ref pn])) (fun i σ H' => ∃ (y4 y5 y6 y7 y8 y9 y10 : Option V),
        σ = [some (.ref b), some (.ref D), some (.ref ps), some (.ref pn), y4, y5, y6, y7, y8, y9, y10] ∧ Evl.Ex (upd H6 t (.tup [.ref ps, .ref pn])) H')
        ⟨none, none, none, none, none, none, none, rfl, Evl.Ex.refl _⟩ (fun i σ H' _ h => ?_) (fun i x σ H7 H8 hi h y => ?_) (fun σ H' h => ?_)⟩
      · obtain ⟨y4, y5, y6, y7, y8, y9, y10, rfl, x7⟩ := h
        exact .inl (.inl (x7 _ _ upd_same))
      · obtain ⟨y4, y5, y6, y7, y8, y9, y10, rfl, x7⟩ := h
        obtain ⟨rfl, ex⟩ := y
        have x67 := xt.trans x7
        have got : ∃ (p : Addr) (as : List Addr), x = .ref p ∧ H8 p = some (.lst (as.map V.ref)) ∧ as.length = 15 ∧ RowAt H8 cs (fl ds) 0 as := by
          match i, ex with
          | 0, ex =>
            cases ex
            exact ⟨ps, as, rfl, x67 _ _ hps6, ls, RowAt.mono rs6 x67⟩
          | 1, ex =>
            cases ex
            exact ⟨pn, an, rfl, x67 _ _ hpn, ln, RowAt.mono rn x67⟩
        obtain ⟨p, es, rfl, hp, le, rr⟩ := got
        have hD8 := x67 _ _ hD6
        obtain ⟨a0, a1, a2, a3, a4, a5, a6, a7, a8, a9, a10, a11, a12, a13, a14, rfl⟩ := len15 le
        obtain ⟨d0, d1, d2, d3, d4, d5, d6, d7, d8, d9, d10, rfl⟩ := len11 hl
        refine ⟨_, rfl, p, _, 4, _, rfl, rfl, .inl (.inl hp), atI_nat (j := 4) rfl, a4, cs 4, _, _, rfl, R.m4.is, R.m4.no, rr 4 a4 rfl, rfl, show 1 ≤ sizeLine by decide, fun p5 n5 => ?_⟩
        have u5 := Evl.Ex.new (o := .lst [.int d2]) n5
        refine ⟨_, rfl, show 3 ≤ sizeLine by decide, fun t3 nt3 => ?_⟩
        have u6 := Evl.Ex.new (o := .tup [.int 2, .int 3, .int 5]) nt3
        refine ⟨t3, rfl, ⟨_, .inl (.inl upd_same)⟩, fun Dl nDl => lc_it (walk_tup (xs := [.int 2, .int 3, .int 5]))
          (fun j H' => Evl.Ex (upd (upd H8 p5 (.lst [.int d2])) t3 (.tup [.int 2, .int 3, .int 5])) H' ∧ H' Dl = some (.lst ([V.int d0, V.int d1, V.int d3].take j)))
          ⟨Evl.Ex.new nDl, upd_same⟩ (fun j H' _ pe => .inl (.inl (pe.1 _ _ upd_same))) (fun j v H9 H10 hj pe ey => ?_) (fun H9 pe => ?_)⟩
        · obtain ⟨rfl, ey⟩ := ey
          match j, ey, pe with
          | 0, ey, pe =>
            cases ey
            refine ⟨rfl, ?_⟩
            unfold tYes
            dsimp only
            rw [if_pos rfl]
            refine ⟨_, rfl, _, rfl, p, _, 2, _, rfl, rfl, .inl (.inl (pe.1 _ _ (u6 _ _ (u5 _ _ hp)))), atI_nat (j := 2) rfl, a2, cs 2, _, _, rfl, R.m2.is, R.m2.no, (RowAt.mono rr ((u5.trans u6).trans pe.1)) 2 a2 rfl, rfl, [], pe.2, show 0 < sizeLine by decide, Evl.Ex.mut pe.1 nDl, ?_⟩
            rw [upd_same]
            rfl
          | 1, ey, pe =>
            cases ey
            refine ⟨rfl, ?_⟩
            unfold tYes
            dsimp only
            rw [if_pos rfl]
            refine ⟨_, rfl, _, rfl, p, _, 3, _, rfl, rfl, .inl (.inl (pe.1 _ _ (u6 _ _ (u5 _ _ hp)))), atI_nat (j := 3) rfl, a3, cs 3, _, _, rfl, R.m3.is, R.m3.no, (RowAt.mono rr ((u5.trans u6).trans pe.1)) 3 a3 rfl, rfl, [V.int d0], pe.2, show 1 < sizeLine by decide, Evl.Ex.mut pe.1 nDl, ?_⟩
            rw [upd_same]
            rfl
          | 2, ey, pe =>
            cases ey
            refine ⟨rfl, ?_⟩
            unfold tYes
            dsimp only
            rw [if_pos rfl]
            refine ⟨_, rfl, _, rfl, p, _, 5, _, rfl, rfl, .inl (.inl (pe.1 _ _ (u6 _ _ (u5 _ _ hp)))), atI_nat (j := 5) rfl, a5, cs 5, _, _, rfl, R.m5.is, R.m5.no, (RowAt.mono rr ((u5.trans u6).trans pe.1)) 5 a5 rfl, rfl, [V.int d0, V.int d1], pe.2, show 2 < sizeLine by decide, Evl.Ex.mut pe.1 nDl, ?_⟩
            rw [upd_same]
            rfl
        have u9 := (u5.trans u6).trans pe.1
        have hD9 := u9 _ _ hD8
        refine ⟨p5, Dl, _, _, rfl, rfl, pe.1 _ _ (u6 _ _ upd_same), pe.2, show 4 ≤ sizeLine by decide, fun c1 nc1 => ?_⟩
        have u10 := Evl.Ex.new (o := .lst [.int d2, .int d0, .int d1, .int d3]) nc1
        have hD10 := u10 _ _ hD9
        refine ⟨_, rfl, D, _, 2, _, rfl, rfl, .inl (.inl hD10), atI_nat (j := 2) rfl, _, rfl, D, _, 0, _, rfl, rfl, .inl (.inl hD10), atI_nat (j := 0) rfl, _, rfl, D, _, 1, _, rfl, rfl, .inl (.inl hD10), atI_nat (j := 1) rfl, _, rfl, D, _, 3, _, rfl, rfl, .inl (.inl hD10), atI_nat (j := 3) rfl, show 4 ≤ sizeLine by decide, fun c2 nc2 => ?_⟩
        have u11 := Evl.Ex.new (o := .lst [.int d2, .int d0, .int d1, .int d3]) nc2
        refine ⟨.ref c1, .ref c2, .list ([d2, d0, d1, d3].map PyData.int), rfl, Dp.lst (.inl (.inl (carry upd_same nc2))) (dp_ints [d2, d0, d1, d3]), Dp.lst (.inl (.inl upd_same)) (dp_ints [d2, d0, d1, d3]),
          shal_ints 0 _ (by show 4 ≤ 1000; decide), fun H11 e11 => ?_⟩
        refine ⟨_, rfl, ifN rfl ?_⟩
        have v11 := ((u9.trans u10).trans u11).trans e11
        have hp11 := v11 _ _ hp
        have rr11 := RowAt.mono rr v11
        refine ⟨_, rfl, p, _, 6, _, rfl, rfl, .inl (.inl hp11), atI_nat (j := 6) rfl, a6, cs 6, _, _, rfl, R.m6.is, R.m6.no, rr11 6 a6 rfl, rfl, _, rfl, p, _, 7, _, rfl, rfl, .inl (.inl hp11), atI_nat (j := 7) rfl, a7, cs 7, _, _, rfl, R.m7.is, R.m7.no, rr11 7 a7 rfl, rfl, _, rfl, p, _, 8, _, rfl, rfl, .inl (.inl hp11), atI_nat (j := 8) rfl, a8, cs 8, _, _, rfl, R.m8.is, R.m8.no, rr11 8 a8 rfl, rfl, _, rfl, p, _, 9, _, rfl, rfl, .inl (.inl hp11), atI_nat (j := 9) rfl, a9, cs 9, _, _, rfl, R.m9.is, R.m9.no, rr11 9 a9 rfl, rfl, show 4 ≤ sizeLine by decide, fun c3 nc3 => ?_⟩
        have u12 := Evl.Ex.new (o := .lst [.int d4, .int d5, .int d6, .int d7]) nc3
        have hp12 := u12 _ _ hp11
        have rr12 := RowAt.mono rr11 u12
        refine ⟨_, rfl, _, rfl, p, _, 10, _, rfl, rfl, .inl (.inl hp12), atI_nat (j := 10) rfl, a10, cs 10, _, _, rfl, R.m10.is, R.m10.no, rr12 10 a10 rfl, rfl, _, rfl, p, _, 11, _, rfl, rfl, .inl (.inl hp12), atI_nat (j := 11) rfl, a11, cs 11, _, _, rfl, R.m11.is, R.m11.no, rr12 11 a11 rfl, rfl, _, rfl, p, _, 12, _, rfl, rfl, .inl (.inl hp12), atI_nat (j := 12) rfl, a12, cs 12, _, _, rfl, R.m12.is, R.m12.no, rr12 12 a12 rfl, rfl, show 3 ≤ sizeLine by decide, fun c4 nc4 => ?_⟩
        have u13 := Evl.Ex.new (o := .lst [.int d8, .int d9, .int d10]) nc4
        refine ⟨c3, c4, _, _, rfl, rfl, carry upd_same nc4, upd_same, show 7 ≤ sizeLine by decide, fun c5 nc5 => ?_⟩
        have u14 := Evl.Ex.new (o := .lst [.int d4, .int d5, .int d6, .int d7, .int d8, .int d9, .int d10]) nc5
        have v14 := ((v11.trans u12).trans u13).trans u14
        have hD14 := v14 _ _ hD8
        refine ⟨_, rfl, _, rfl, 4, rfl, D, _, rfl, .inl (.inl hD14), fun c6 nc6 => ?_⟩
        have u15 := Evl.Ex.new (o := .lst [.int d4, .int d5, .int d6, .int d7, .int d8, .int d9, .int d10]) nc6
        refine ⟨.ref c5, .ref c6, .list ([d4, d5, d6, d7, d8, d9, d10].map PyData.int), rfl, Dp.lst (.inl (.inl (carry upd_same nc6))) (dp_ints [d4, d5, d6, d7, d8, d9, d10]), Dp.lst (.inl (.inl upd_same)) (dp_ints [d4, d5, d6, d7, d8, d9, d10]),
          shal_ints 0 _ (by show 7 ≤ 1000; decide), fun H16 e16 => ?_⟩
        refine ⟨_, rfl, ifN rfl ?_⟩
        have v16 := (v14.trans u15).trans e16
        have hp16 := v16 _ _ hp
        have rr16 := RowAt.mono rr v16
        refine ⟨_, rfl, p, _, rfl, .inl (.inl hp16), for_it (walk_enum (xs := [.ref a0, .ref a1, .ref a2, .ref a3, .ref a4, .ref a5, .ref a6, .ref a7, .ref a8, .ref a9, .ref a10, .ref a11, .ref a12, .ref a13, .ref a14])) (fun i σ H' => ∃ (y5 y6 y7 y8 y9 y10 : Option V),
          σ = [some (.ref b), some (.ref D), some (.ref ps), some (.ref pn), some (.ref p), y5, y6, y7, y8, y9, y10] ∧ Evl.Ex H16 H')
          ⟨_, _, _, _, _, _, rfl, Evl.Ex.refl _⟩ (fun i σ H' _ h => ?_) (fun i x σ H17 H18 hi h y => ?_) (fun σ H' h => ?_)⟩
        · obtain ⟨z5, z6, z7, z8, z9, z10, rfl, e17⟩ := h
          exact .inl (.inl (e17 _ _ hp16))
        · obtain ⟨z5, z6, z7, z8, z9, z10, rfl, e17⟩ := h
          obtain ⟨T, vi, ve, rfl, nT, rfl, ei, ee⟩ := y
          cases ei
          have hi15 : i < 15 := hi
          obtain ⟨a, rfl, ea⟩ : ∃ a, ve = .ref a ∧ [a0, a1, a2, a3, a4, a5, a6, a7, a8, a9, a10, a11, a12, a13, a14][i]? = some a := by
            have ee' : ([a0, a1, a2, a3, a4, a5, a6, a7, a8, a9, a10, a11, a12, a13, a14].map V.ref)[i]? = some ve := ee
            rw [List.getElem?_map] at ee'
            cases ha : ([a0, a1, a2, a3, a4, a5, a6, a7, a8, a9, a10, a11, a12, a13, a14] : List Addr)[i]? with
            | none =>
              rw [ha] at ee'
              cases ee'
            | some a =>
              rw [ha] at ee'
              cases ee'
              exact ⟨a, rfl, rfl⟩
          have uT := e17.trans (Evl.Ex.new (o := .tup [.int (i : Nat), .ref a]) nT)
          have hx0 : ExAt H16 a (cs i) (fl [d0, d1, d2, d3, d4, d5, d6, d7, d8, d9, d10] i) := by
            have z := rr16 i a ea
            rw [Nat.zero_add] at z
            exact z
          have hxT := hx0.mono uT
          refine ⟨T, _, rfl, .inl (.inl upd_same), rfl, _, _, rfl, _, [], rfl, rfl, ?_⟩
          refine ⟨_, rfl, _, _, rfl, rfl, .inr ⟨_, rfl, _, rfl, _, _, rfl, rfl, .inr ⟨_, rfl, _, _, rfl, rfl, _, rfl, _, _, rfl, rfl, .inr ⟨_, rfl, _, _, rfl, rfl, ?_⟩⟩⟩⟩
          refine ⟨_, rfl, a, cs i, _, (fun j => decide (j = i)), rfl, R.is i hi15, hxT, fun j hj => R.kit i j hi15 hj, fun pk HK ek hk => ?_⟩
          refine ⟨15, rfl, by decide, by decide, fun Dl nDl => lc_range (lo := 0) (n := 15)
            (fun j H' => Evl.Ex HK H' ∧ H' Dl = some (.lst (((List.range j).map (fun j => decide (j = i))).map V.bl))) ⟨Evl.Ex.new nDl, upd_same⟩ (fun j HJ hj pe => ?_) (fun HJ pe => ?_)⟩
          · refine ⟨rfl, ?_⟩
            unfold tYes
            dsimp only
            rw [if_pos rfl]
            refine ⟨_, rfl, _, rfl, rfl, _, pe.2, len_row j _ (by omega), turn_row (f := fun j => decide (j = i)) ?_ pe.1 nDl pe.2⟩
            rw [dec_int]
            have z : ((0 : Int) + (j : Nat) == (i : Nat)) = decide (j = i) := by
              by_cases e : j = i
              · subst e
                rw [decide_eq_true rfl, Int.zero_add]
                exact beq_self_eq_true _
              · rw [decide_eq_false e]
                exact beq_eq_false_iff_ne.mpr (by omega)
            exact z
          refine ⟨.list (((List.range 15).map (fun j => decide (j = i))).map PyData.bool), .list (((List.range 15).map (fun j => decide (j = i))).map PyData.bool), Dp.lst (.inl (.inl (pe.1 _ _ hk))) (dp_bools _),
            Dp.lst (.inl (.inl pe.2)) (dp_bools _), shp_bools _, shp_bools _, _, rfl, ifN (eqv_self _) ?_⟩
          have w1 := (uT.trans ek).trans pe.1
          have hxJ := hx0.mono w1
          refine ⟨_, rfl, a, cs i, _, _, _, _, _, _, rfl, R.is i hi15, hxJ, R.b0 i hi15, R.b1 i hi15, R.b2 i hi15, R.b3 i hi15, R.b4 i hi15, fun pk2 HK2 ek2 hk2 => ?_⟩
          have hrow := bse_row ⟨i, hi15⟩
          rw [hrow] at hk2
          refine ⟨5, rfl, by decide, by decide, fun Dm nDm => lc_range (lo := 0) (n := 5)
            (fun j H' => Evl.Ex HK2 H' ∧ H' Dm = some (.lst (((List.range j).map (fun (j : Nat) => decide ((j : Int) = bse (i : Int)))).map V.bl))) ⟨Evl.Ex.new nDm, upd_same⟩ (fun j HJ2 hj pe2 => ?_) (fun HJ2 pe2 => ?_)⟩
          · refine ⟨rfl, ?_⟩
            unfold tYes
            dsimp only
            rw [if_pos rfl]
            refine ⟨_, rfl, _, rfl, rfl, _, pe2.2, len_row j _ (by omega), turn_row (f := fun (j : Nat) => decide ((j : Int) = bse (i : Int))) ?_ pe2.1 nDm pe2.2⟩
            show decide (V.int ((0 : Int) + (j : Nat)) = V.int (bse (i : Int))) = decide ((j : Int) = bse (i : Int))
            rw [dec_int, Int.zero_add]
            rfl
          refine ⟨.list (((List.range 5).map (fun (j : Nat) => decide ((j : Int) = bse (i : Int)))).map PyData.bool), .list (((List.range 5).map (fun (j : Nat) => decide ((j : Int) = bse (i : Int)))).map PyData.bool),
            Dp.lst (.inl (.inl (pe2.1 _ _ hk2))) (dp_bools _), Dp.lst (.inl (.inl pe2.2)) (dp_bools _), shp_bools _, shp_bools _, _, rfl, ifN (eqv_self _) ?_⟩
          exact ⟨_, _, _, _, _, _, rfl, (w1.trans ek2).trans pe2.1⟩
        · obtain ⟨z5, z6, z7, z8, z9, z10, rfl, e17⟩ := h
          exact ⟨_, _, _, _, _, _, _, rfl, x7.trans (v16.trans e17)⟩
      · obtain ⟨y4, y5, y6, y7, y8, y9, y10, rfl, x7⟩ := h
        refine q _ fun c o hc h => x7 _ _ (xt _ _ (x6 _ _ (keep c o hc h)))

end
end Kd
namespace Kd
open PySem PySem.Spec PyProof.Rows L2 Xv
abbrev sLaw : Stmt := topS 24
theorem scL : FnScope ["_law_script", "_law_cells", "_law_k"] ["_law_script"] (defScope sLaw) := ⟨rfl, rfl, rfl, by decide +kernel, rfl, by decide +kernel, by decide +kernel⟩
section
variable {P : Program} {w : World} {K : PySem.W.Frag} {mg : Str → Option Value} {base : Heap} {cs : Nat → Addr}
def spLaw (K : PySem.W.Frag) : Sp := fun vs H Q _ => ∃ (a : Addr) (ns : List Int), vs = [.ref a] ∧ SqL K H a (ns.map V.int) ∧ ns.length ≤ 63 ∧ ∀ H', Q (.bl true) H'
theorem ok_law {f : Addr} {fd : FuncData} (F : Fun K "law" "law" sLaw f fd) (ml : mg "len" = none) (mr : mg "range" = none) (ma : mg "all" = none)
    (DF : Df P w K mg base "_law_folded" ["_law_script", "_law_size"] 1 (spFold K)) (DX : Df P w K mg base "_law_box" ["_law_script", "_law_k"] 1 (spBox K))
    (DR : Df P w K mg base "_law_right" ["_law_box_here"] 3 spRight) : FnOk P w K mg base CX0 4 f fd ["_law_script"] (spLaw K) := by
  obtain ⟨fF, fdF, GF, gF, kF, bF⟩ := DF.ex
  obtain ⟨fX, fdX, GX, gX, kX, bX⟩ := DX.ex
  obtain ⟨fR, fdR, GR, gR, kR, bR⟩ := DR.ex
  refine F.ok scL (fun vs H Q E h => ?_) (fun cdv A outer s H vs Q E hr h => ?_)
  · obtain ⟨a, ns, rfl, _⟩ := h
    rfl
  · obtain ⟨a, ns, rfl, hS, hlen, q⟩ := h
    refine ⟨_, pss_cons (ps_set (i := 1) scL.nd rfl (.inr rfl) (pe_call GF (hr.mono (by decide)) (by rfl) gF kF bF .nil pass0 (pa_cons (pv 0) (pa_cons pe_int pa_nil))))
      (pss_one (ps_ret (pe_callB (cr_all rfl) (by rfl) ma bt_all (pa_cons
        (pe_lc (own := [("_law_k", 2)]) (g := gName 2) (tt := tYes) rfl scL.nd (pi_range1 (by rfl) mr (pa_cons (pe_callB call_len_seq (by rfl) ml PySem.boot_len (pa_cons (pv 1) pa_nil)) pa_nil))
          (blkOk_by (N := ["_law_script", "_law_cells", "_law_k"]) (sc := defScope sLaw) (by decide +kernel)) (fun _ _ _ _ _ => pg_name (i := 2) scL.nd rfl (.inl rfl)) (fun _ _ _ _ _ => pts_nil)
          (fun _ _ _ _ _ => pe_call GR hr (by rfl) gR kR bR .nil pass0 (pa_cons (pe_call GX (hr.mono (by decide)) (by rfl) gX kX bX .nil pass0 (pa_cons (pv 1) (pa_cons (pv 2) pa_nil))) pa_nil)))
        pa_nil)))), ?_⟩
    refine ⟨_, rfl, a, ns, rfl, hS, hlen, fun p H1 ms e1 np hp h1 h4 => ?_⟩
    have hl : (ms.map V.int).length = ms.length := List.length_map ..
    refine ⟨_, rfl, p, _, rfl, .inl (.inl (.inl hp)), _, rfl, by omega, by omega, fun D nD => lc_range (lo := 0) (n := ((ms.map V.int).length : Int).toNat)
      (fun i H' => Evl.Ex H1 H' ∧ H' D = some (.lst ((List.replicate i true).map V.bl))) ⟨Evl.Ex.new nD, upd_same⟩ (fun i H' hi pe => ?_) (fun H' pe => ?_)⟩
    · refine ⟨rfl, ?_⟩
      unfold tYes
      dsimp only
      rw [if_pos rfl]
      refine ⟨_, rfl, _, rfl, p, ms, i, by rw [Int.zero_add]; rfl, .inl (.inl (pe.1 _ _ hp)), by omega, fun b x y nb hx hy hy2 => ?_⟩
      refine ⟨b, x, y, rfl, upd_same, hx, hy, hy2, fun H2 keep => ?_⟩
      have k2 : ∀ c o, H' c = some o → H2 c = some o := fun c o h => keep c o (ne_of_none h nb) (carry h nb)
      refine ⟨_, k2 _ _ pe.2, ?_, ?_, ?_⟩
      · rw [List.length_map, List.length_replicate]
        exact Evl.sz_lt (by omega)
      · exact Evl.Ex.mut (pe.1.trans k2) nD
      · rw [upd_same, List.replicate_succ', List.map_append]
        rfl
    · refine ⟨D, _, rfl, .inl (.inl pe.2), ?_⟩
      rw [all_yes]
      exact q _
/-! what the top has left, looked up by one Bool a class -/
def clB (K : PySem.W.Frag) (C : Addr) (bmB : List Value) (newId : String) : Bool := match K.lookup C with
  | some ⟨.type "type", _, .cls cd, sl⟩ => (match cd.mro, sl.toList with
    | .ref C1 :: bm, [_, _, _, _, some (.builtin n), _] => C1 == C && (n == newId && (!cd.hasDel && (cd.hasDict && bm == bmB)))
    | _, _ => false)
  | _ => false
theorem clB_ok {C : Addr} {bmB : List Value} {newId : String} (q : clB K C bmB newId = true) : ∃ nm qn N bs sn sub ab col dd k0 k1 k2 k3 k5,
    K.lookup C = some (excClassObj nm qn C N bs bmB true sn sub ab col dd k0 k1 k2 k3 k5 newId) := by
  unfold clB at q
  split at q
  · rename_i dd cd sl ho
    split at q
    · rename_i C1 bm k0 k1 k2 k3 n k5 hm hs
      simp only [Bool.and_eq_true, beq_iff_eq, Bool.not_eq_true'] at q
      obtain ⟨rfl, rfl, hdel, hdi, rfl⟩ := q
      obtain ⟨nm, bs, mro, ns, qn, hd, sn, sub, ab, col, del⟩ := cd
      dsimp only at hm hdel hdi
      subst hm hdel hdi
      obtain ⟨l⟩ := sl
      simp only at hs
      subst hs
      exact ⟨nm, qn, ns, bs, sn, sub, ab, col, dd, k0, k1, k2, k3, k5, ho⟩
    · cases q
  · cases q
def isB (K : PySem.W.Frag) (D : Addr) : Bool :=
  decide (PySem.W.findIn K (.ref D) "__getattribute__" = some (some (.builtin "BaseException.__getattribute__"))) &&
  (decide (PySem.W.findIn K (.ref D) "__getattr__" = some none) &&
  (decide (PySem.W.subIn K (.ref D) (.type "BaseException") = some true) &&
  (PySem.W.hasDictIn K D &&
  (decide (PySem.W.findIn K (.ref D) "__class__" = some (some (.builtin "object.__class__"))) &&
  (decide (PySem.W.specialIn K (.builtin "object.__class__") "__get__" = some (some (.builtin "getset_descriptor.__get__"))) &&
  (decide (PySem.W.takesIn K (.builtin "object.__class__") = some true) &&
  decide (PySem.W.mroIn K D (.type "object") = some true)))))))
theorem isB_ok {D : Addr} (h : isB K D = true) : ExcC K D := by
  unfold isB at h
  simp only [Bool.and_eq_true, decide_eq_true_eq] at h
  obtain ⟨h1, h2, h3, h4, h5, h6, h7, h8⟩ := h
  exact ⟨h1, h2, h3, h4, h5, h6, h7, h8⟩
def xcB (K : PySem.W.Frag) (C : Addr) (newId : String) (bmB : List Value) : Bool :=
  clB K C bmB newId && (decide (PySem.W.findIn K (.ref C) "__setattr__" = some (some (.builtin "object.__setattr__"))) && (PySem.W.keepIn K (.ref C) && isB K C))
theorem xcB_ok {C : Addr} {newId : String} {bmB : List Value} (h : xcB K C newId bmB = true) : XC K C newId bmB := by
  unfold xcB at h
  simp only [Bool.and_eq_true, decide_eq_true_eq] at h
  obtain ⟨h1, h2, h3, h4⟩ := h
  exact ⟨clB_ok h1, h2, h3, isB_ok h4⟩
def x0B (K : PySem.W.Frag) (C : Addr) (newId : String) (bmB : List Value) : Bool := PySem.W.excIn K C bmB newId && (PySem.W.keepIn K (.ref C) && isB K C)
/-- the fifteen among themselves, and under the built-in ones -/
def kitsB (K : PySem.W.Frag) (cs : Nat → Addr) : Bool := (List.range 15).all fun i =>
  ((List.range 15).all fun j => decide (PySem.W.kitOne K (.ref (cs i)) (.ref (cs j)) = some (decide (j = i)))) &&
  (decide (PySem.W.kitOne K (.ref (cs i)) (.type "ValueError") = some (decide (i < 6))) &&
  (decide (PySem.W.kitOne K (.ref (cs i)) (.type "LookupError") = some (decide (6 ≤ i ∧ i < 9))) &&
  (decide (PySem.W.kitOne K (.ref (cs i)) (.type "OverflowError") = some (decide (9 ≤ i ∧ i < 11))) &&
  (decide (PySem.W.kitOne K (.ref (cs i)) (.type "RuntimeError") = some (decide (11 ≤ i))) &&
  decide (PySem.W.kitAny K (.ref (cs i)) [.type "KeyError", .type "IndexError", .type "NotImplementedError"] = some false)))))
theorem kits_at (h : kitsB K cs = true) {i : Nat} (hi : i < 15) : (∀ j, j < 15 → PySem.W.kitOne K (.ref (cs i)) (.ref (cs j)) = some (decide (j = i))) ∧
    PySem.W.kitOne K (.ref (cs i)) (.type "ValueError") = some (decide (i < 6)) ∧ PySem.W.kitOne K (.ref (cs i)) (.type "LookupError") = some (decide (6 ≤ i ∧ i < 9)) ∧
    PySem.W.kitOne K (.ref (cs i)) (.type "OverflowError") = some (decide (9 ≤ i ∧ i < 11)) ∧ PySem.W.kitOne K (.ref (cs i)) (.type "RuntimeError") = some (decide (11 ≤ i)) ∧
    PySem.W.kitAny K (.ref (cs i)) [.type "KeyError", .type "IndexError", .type "NotImplementedError"] = some false := by
  unfold kitsB at h
  have g := List.all_eq_true.mp h i (List.mem_range.mpr hi)
  simp only [Bool.and_eq_true, decide_eq_true_eq] at g
  obtain ⟨g0, g1, g2, g3, g4, g5⟩ := g
  exact ⟨fun j hj => of_decide_eq_true (List.all_eq_true.mp g0 j (List.mem_range.mpr hj)), g1, g2, g3, g4, g5⟩
theorem all_mk {l : PySem.W.OpenLaw} {w : World} {K : PySem.W.Frag} {h : Heap} {mg : Str → Option Value} {fa : Addr} (X : K.In h) (G : h.Ns mainGlobals mg) (hfa : mg "law" = some (.ref fa))
    {f_box : Addr} {od_box an_box : Option Addr} {sl_box : Array (Option Value)} {oc_box kV_box dc_box pm_box cd_box ct_box : Value}
    {f_take : Addr} {od_take an_take : Option Addr} {sl_take : Array (Option Value)} {oc_take kV_take dc_take pm_take cd_take ct_take : Value}
    {f_same : Addr} {od_same an_same : Option Addr} {sl_same : Array (Option Value)} {oc_same kV_same dc_same pm_same cd_same ct_same : Value}
    {f_fold : Addr} {od_fold an_fold : Option Addr} {sl_fold : Array (Option Value)} {oc_fold kV_fold dc_fold pm_fold cd_fold ct_fold : Value}
    {f_kinds : Addr} {od_kinds an_kinds : Option Addr} {sl_kinds : Array (Option Value)} {oc_kinds kV_kinds dc_kinds pm_kinds cd_kinds ct_kinds : Value}
    {f_bases : Addr} {od_bases an_bases : Option Addr} {sl_bases : Array (Option Value)} {oc_bases kV_bases dc_bases pm_bases cd_bases ct_bases : Value}
    {f_right : Addr} {od_right an_right : Option Addr} {sl_right : Array (Option Value)} {oc_right kV_right dc_right pm_right cd_right ct_right : Value}
    {f_law : Addr} {od_law an_law : Option Addr} {sl_law : Array (Option Value)} {oc_law kV_law dc_law pm_law cd_law ct_law : Value}
    {C0 : Addr}
    {C1 : Addr}
    {C2 : Addr}
    {f_i2 : Addr} {od_i2 an_i2 : Option Addr} {sl_i2 : Array (Option Value)} {oc_i2 kV_i2 dc_i2 pm_i2 cd_i2 ct_i2 : Value}
    {C3 : Addr}
    {f_i3 : Addr} {od_i3 an_i3 : Option Addr} {sl_i3 : Array (Option Value)} {oc_i3 kV_i3 dc_i3 pm_i3 cd_i3 ct_i3 : Value}
    {C4 : Addr}
    {f_i4 : Addr} {od_i4 an_i4 : Option Addr} {sl_i4 : Array (Option Value)} {oc_i4 kV_i4 dc_i4 pm_i4 cd_i4 ct_i4 : Value}
    {C5 : Addr}
    {f_i5 : Addr} {od_i5 an_i5 : Option Addr} {sl_i5 : Array (Option Value)} {oc_i5 kV_i5 dc_i5 pm_i5 cd_i5 ct_i5 : Value}
    {C6 : Addr}
    {f_i6 : Addr} {od_i6 an_i6 : Option Addr} {sl_i6 : Array (Option Value)} {oc_i6 kV_i6 dc_i6 pm_i6 cd_i6 ct_i6 : Value}
    {C7 : Addr}
    {f_i7 : Addr} {od_i7 an_i7 : Option Addr} {sl_i7 : Array (Option Value)} {oc_i7 kV_i7 dc_i7 pm_i7 cd_i7 ct_i7 : Value}
    {C8 : Addr}
    {f_i8 : Addr} {od_i8 an_i8 : Option Addr} {sl_i8 : Array (Option Value)} {oc_i8 kV_i8 dc_i8 pm_i8 cd_i8 ct_i8 : Value}
    {C9 : Addr}
    {f_i9 : Addr} {od_i9 an_i9 : Option Addr} {sl_i9 : Array (Option Value)} {oc_i9 kV_i9 dc_i9 pm_i9 cd_i9 ct_i9 : Value}
    {C10 : Addr}
    {f_i10 : Addr} {od_i10 an_i10 : Option Addr} {sl_i10 : Array (Option Value)} {oc_i10 kV_i10 dc_i10 pm_i10 cd_i10 ct_i10 : Value}
    {C11 : Addr}
    {f_i11 : Addr} {od_i11 an_i11 : Option Addr} {sl_i11 : Array (Option Value)} {oc_i11 kV_i11 dc_i11 pm_i11 cd_i11 ct_i11 : Value}
    {C12 : Addr}
    {f_i12 : Addr} {od_i12 an_i12 : Option Addr} {sl_i12 : Array (Option Value)} {oc_i12 kV_i12 dc_i12 pm_i12 cd_i12 ct_i12 : Value}
    {C13 : Addr}
    {C14 : Addr}
    (a_box : PySem.W.nsIn K mainGlobals "_law_box" = some (some (.ref f_box))) (l_box : K.lookup f_box = some ⟨oc_box, od_box, .func (PySem.W.fnOf "_law_box" "_law_box" (defArgs sBox) (defBody sBox) (defScope sBox) .none kV_box dc_box pm_box an_box cd_box ct_box), sl_box⟩) (c_box : PySem.W.codeIn K cd_box "_law_box" = true) (k_box : PySem.W.keepIn K (.ref f_box) = true)
    (a_take : PySem.W.nsIn K mainGlobals "_law_take" = some (some (.ref f_take))) (l_take : K.lookup f_take = some ⟨oc_take, od_take, .func (PySem.W.fnOf "_law_take" "_law_take" (defArgs sTake) (defBody sTake) (defScope sTake) .none kV_take dc_take pm_take an_take cd_take ct_take), sl_take⟩) (c_take : PySem.W.codeIn K cd_take "_law_take" = true) (k_take : PySem.W.keepIn K (.ref f_take) = true)
    (a_same : PySem.W.nsIn K mainGlobals "_law_same" = some (some (.ref f_same))) (l_same : K.lookup f_same = some ⟨oc_same, od_same, .func (PySem.W.fnOf "_law_same" "_law_same" (defArgs sSame) (defBody sSame) (defScope sSame) .none kV_same dc_same pm_same an_same cd_same ct_same), sl_same⟩) (c_same : PySem.W.codeIn K cd_same "_law_same" = true) (k_same : PySem.W.keepIn K (.ref f_same) = true)
    (a_fold : PySem.W.nsIn K mainGlobals "_law_folded" = some (some (.ref f_fold))) (l_fold : K.lookup f_fold = some ⟨oc_fold, od_fold, .func (PySem.W.fnOf "_law_folded" "_law_folded" (defArgs sFold) (defBody sFold) (defScope sFold) .none kV_fold dc_fold pm_fold an_fold cd_fold ct_fold), sl_fold⟩) (c_fold : PySem.W.codeIn K cd_fold "_law_folded" = true) (k_fold : PySem.W.keepIn K (.ref f_fold) = true)
    (a_kinds : PySem.W.nsIn K mainGlobals "_law_kinds" = some (some (.ref f_kinds))) (l_kinds : K.lookup f_kinds = some ⟨oc_kinds, od_kinds, .func (PySem.W.fnOf "_law_kinds" "_law_kinds" (defArgs sKinds) (defBody sKinds) (defScope sKinds) .none kV_kinds dc_kinds pm_kinds an_kinds cd_kinds ct_kinds), sl_kinds⟩) (c_kinds : PySem.W.codeIn K cd_kinds "_law_kinds" = true) (k_kinds : PySem.W.keepIn K (.ref f_kinds) = true)
    (a_bases : PySem.W.nsIn K mainGlobals "_law_bases" = some (some (.ref f_bases))) (l_bases : K.lookup f_bases = some ⟨oc_bases, od_bases, .func (PySem.W.fnOf "_law_bases" "_law_bases" (defArgs sBases) (defBody sBases) (defScope sBases) .none kV_bases dc_bases pm_bases an_bases cd_bases ct_bases), sl_bases⟩) (c_bases : PySem.W.codeIn K cd_bases "_law_bases" = true) (k_bases : PySem.W.keepIn K (.ref f_bases) = true)
    (a_right : PySem.W.nsIn K mainGlobals "_law_right" = some (some (.ref f_right))) (l_right : K.lookup f_right = some ⟨oc_right, od_right, .func (PySem.W.fnOf "_law_right" "_law_right" (defArgs sRight) (defBody sRight) (defScope sRight) .none kV_right dc_right pm_right an_right cd_right ct_right), sl_right⟩) (c_right : PySem.W.codeIn K cd_right "_law_right" = true) (k_right : PySem.W.keepIn K (.ref f_right) = true)
    (a_law : PySem.W.nsIn K mainGlobals "law" = some (some (.ref f_law))) (l_law : K.lookup f_law = some ⟨oc_law, od_law, .func (PySem.W.fnOf "law" "law" (defArgs sLaw) (defBody sLaw) (defScope sLaw) .none kV_law dc_law pm_law an_law cd_law ct_law), sl_law⟩) (c_law : PySem.W.codeIn K cd_law "law" = true) (k_law : PySem.W.keepIn K (.ref f_law) = true)
    (g_0 : PySem.W.nsIn K mainGlobals "Unlike" = some (some (.ref C0)))
    (x_0 : x0B K C0 "ValueError.__new__" [.type "ValueError", .type "Exception", .type "BaseException", .type "object"] = true)
    (g_1 : PySem.W.nsIn K mainGlobals "NotAlike" = some (some (.ref C1)))
    (x_1 : x0B K C1 "ValueError.__new__" [.type "ValueError", .type "Exception", .type "BaseException", .type "object"] = true)
    (g_2 : PySem.W.nsIn K mainGlobals "NoStep" = some (some (.ref C2)))
    (n_2 : PySem.W.findIn K (.ref C2) "at" = some none) (i_2 : PySem.W.findIn K (.ref C2) "__init__" = some (some (.ref f_i2))) (t_2 : PySem.W.typeIn K (.ref f_i2) = some (.type "function")) (l_i2 : K.lookup f_i2 = some ⟨oc_i2, od_i2, .func (PySem.W.fnOf "__init__" "NoStep.__init__" (defArgs (inClass (topS 3) 0)) (defBody (inClass (topS 3) 0)) (defScope (inClass (topS 3) 0)) .none kV_i2 dc_i2 pm_i2 an_i2 cd_i2 ct_i2), sl_i2⟩) (c_i2 : PySem.W.codeIn K cd_i2 "NoStep.__init__" = true) (k_i2 : PySem.W.keepIn K (.ref f_i2) = true)
    (x_2 : xcB K C2 "ValueError.__new__" [.type "ValueError", .type "Exception", .type "BaseException", .type "object"] = true)
    (g_3 : PySem.W.nsIn K mainGlobals "BadWord" = some (some (.ref C3)))
    (n_3 : PySem.W.findIn K (.ref C3) "at" = some none) (i_3 : PySem.W.findIn K (.ref C3) "__init__" = some (some (.ref f_i3))) (t_3 : PySem.W.typeIn K (.ref f_i3) = some (.type "function")) (l_i3 : K.lookup f_i3 = some ⟨oc_i3, od_i3, .func (PySem.W.fnOf "__init__" "BadWord.__init__" (defArgs (inClass (topS 4) 0)) (defBody (inClass (topS 4) 0)) (defScope (inClass (topS 4) 0)) .none kV_i3 dc_i3 pm_i3 an_i3 cd_i3 ct_i3), sl_i3⟩) (c_i3 : PySem.W.codeIn K cd_i3 "BadWord.__init__" = true) (k_i3 : PySem.W.keepIn K (.ref f_i3) = true)
    (x_3 : xcB K C3 "ValueError.__new__" [.type "ValueError", .type "Exception", .type "BaseException", .type "object"] = true)
    (g_4 : PySem.W.nsIn K mainGlobals "BadRow" = some (some (.ref C4)))
    (n_4 : PySem.W.findIn K (.ref C4) "row" = some none) (i_4 : PySem.W.findIn K (.ref C4) "__init__" = some (some (.ref f_i4))) (t_4 : PySem.W.typeIn K (.ref f_i4) = some (.type "function")) (l_i4 : K.lookup f_i4 = some ⟨oc_i4, od_i4, .func (PySem.W.fnOf "__init__" "BadRow.__init__" (defArgs (inClass (topS 5) 0)) (defBody (inClass (topS 5) 0)) (defScope (inClass (topS 5) 0)) .none kV_i4 dc_i4 pm_i4 an_i4 cd_i4 ct_i4), sl_i4⟩) (c_i4 : PySem.W.codeIn K cd_i4 "BadRow.__init__" = true) (k_i4 : PySem.W.keepIn K (.ref f_i4) = true)
    (x_4 : xcB K C4 "ValueError.__new__" [.type "ValueError", .type "Exception", .type "BaseException", .type "object"] = true)
    (g_5 : PySem.W.nsIn K mainGlobals "BadDeed" = some (some (.ref C5)))
    (n_5 : PySem.W.findIn K (.ref C5) "at" = some none) (i_5 : PySem.W.findIn K (.ref C5) "__init__" = some (some (.ref f_i5))) (t_5 : PySem.W.typeIn K (.ref f_i5) = some (.type "function")) (l_i5 : K.lookup f_i5 = some ⟨oc_i5, od_i5, .func (PySem.W.fnOf "__init__" "BadDeed.__init__" (defArgs (inClass (topS 6) 0)) (defBody (inClass (topS 6) 0)) (defScope (inClass (topS 6) 0)) .none kV_i5 dc_i5 pm_i5 an_i5 cd_i5 ct_i5), sl_i5⟩) (c_i5 : PySem.W.codeIn K cd_i5 "BadDeed.__init__" = true) (k_i5 : PySem.W.keepIn K (.ref f_i5) = true)
    (x_5 : xcB K C5 "ValueError.__new__" [.type "ValueError", .type "Exception", .type "BaseException", .type "object"] = true)
    (g_6 : PySem.W.nsIn K mainGlobals "NoBin" = some (some (.ref C6)))
    (n_6 : PySem.W.findIn K (.ref C6) "place" = some none) (i_6 : PySem.W.findIn K (.ref C6) "__init__" = some (some (.ref f_i6))) (t_6 : PySem.W.typeIn K (.ref f_i6) = some (.type "function")) (l_i6 : K.lookup f_i6 = some ⟨oc_i6, od_i6, .func (PySem.W.fnOf "__init__" "NoBin.__init__" (defArgs (inClass (topS 7) 0)) (defBody (inClass (topS 7) 0)) (defScope (inClass (topS 7) 0)) .none kV_i6 dc_i6 pm_i6 an_i6 cd_i6 ct_i6), sl_i6⟩) (c_i6 : PySem.W.codeIn K cd_i6 "NoBin.__init__" = true) (k_i6 : PySem.W.keepIn K (.ref f_i6) = true)
    (x_6 : xcB K C6 "LookupError.__new__" [.type "LookupError", .type "Exception", .type "BaseException", .type "object"] = true)
    (g_7 : PySem.W.nsIn K mainGlobals "NoGate" = some (some (.ref C7)))
    (n_7 : PySem.W.findIn K (.ref C7) "gate" = some none) (i_7 : PySem.W.findIn K (.ref C7) "__init__" = some (some (.ref f_i7))) (t_7 : PySem.W.typeIn K (.ref f_i7) = some (.type "function")) (l_i7 : K.lookup f_i7 = some ⟨oc_i7, od_i7, .func (PySem.W.fnOf "__init__" "NoGate.__init__" (defArgs (inClass (topS 8) 0)) (defBody (inClass (topS 8) 0)) (defScope (inClass (topS 8) 0)) .none kV_i7 dc_i7 pm_i7 an_i7 cd_i7 ct_i7), sl_i7⟩) (c_i7 : PySem.W.codeIn K cd_i7 "NoGate.__init__" = true) (k_i7 : PySem.W.keepIn K (.ref f_i7) = true)
    (x_7 : xcB K C7 "LookupError.__new__" [.type "LookupError", .type "Exception", .type "BaseException", .type "object"] = true)
    (g_8 : PySem.W.nsIn K mainGlobals "NoDeed" = some (some (.ref C8)))
    (n_8 : PySem.W.findIn K (.ref C8) "many" = some none) (i_8 : PySem.W.findIn K (.ref C8) "__init__" = some (some (.ref f_i8))) (t_8 : PySem.W.typeIn K (.ref f_i8) = some (.type "function")) (l_i8 : K.lookup f_i8 = some ⟨oc_i8, od_i8, .func (PySem.W.fnOf "__init__" "NoDeed.__init__" (defArgs (inClass (topS 9) 0)) (defBody (inClass (topS 9) 0)) (defScope (inClass (topS 9) 0)) .none kV_i8 dc_i8 pm_i8 an_i8 cd_i8 ct_i8), sl_i8⟩) (c_i8 : PySem.W.codeIn K cd_i8 "NoDeed.__init__" = true) (k_i8 : PySem.W.keepIn K (.ref f_i8) = true)
    (x_8 : xcB K C8 "LookupError.__new__" [.type "LookupError", .type "Exception", .type "BaseException", .type "object"] = true)
    (g_9 : PySem.W.nsIn K mainGlobals "TooMany" = some (some (.ref C9)))
    (n_9 : PySem.W.findIn K (.ref C9) "many" = some none) (i_9 : PySem.W.findIn K (.ref C9) "__init__" = some (some (.ref f_i9))) (t_9 : PySem.W.typeIn K (.ref f_i9) = some (.type "function")) (l_i9 : K.lookup f_i9 = some ⟨oc_i9, od_i9, .func (PySem.W.fnOf "__init__" "TooMany.__init__" (defArgs (inClass (topS 10) 0)) (defBody (inClass (topS 10) 0)) (defScope (inClass (topS 10) 0)) .none kV_i9 dc_i9 pm_i9 an_i9 cd_i9 ct_i9), sl_i9⟩) (c_i9 : PySem.W.codeIn K cd_i9 "TooMany.__init__" = true) (k_i9 : PySem.W.keepIn K (.ref f_i9) = true)
    (x_9 : xcB K C9 "OverflowError.__new__" [.type "OverflowError", .type "ArithmeticError", .type "Exception", .type "BaseException", .type "object"] = true)
    (g_10 : PySem.W.nsIn K mainGlobals "Full" = some (some (.ref C10)))
    (n_10 : PySem.W.findIn K (.ref C10) "place" = some none) (i_10 : PySem.W.findIn K (.ref C10) "__init__" = some (some (.ref f_i10))) (t_10 : PySem.W.typeIn K (.ref f_i10) = some (.type "function")) (l_i10 : K.lookup f_i10 = some ⟨oc_i10, od_i10, .func (PySem.W.fnOf "__init__" "Full.__init__" (defArgs (inClass (topS 11) 0)) (defBody (inClass (topS 11) 0)) (defScope (inClass (topS 11) 0)) .none kV_i10 dc_i10 pm_i10 an_i10 cd_i10 ct_i10), sl_i10⟩) (c_i10 : PySem.W.codeIn K cd_i10 "Full.__init__" = true) (k_i10 : PySem.W.keepIn K (.ref f_i10) = true)
    (x_10 : xcB K C10 "OverflowError.__new__" [.type "OverflowError", .type "ArithmeticError", .type "Exception", .type "BaseException", .type "object"] = true)
    (g_11 : PySem.W.nsIn K mainGlobals "Barred" = some (some (.ref C11)))
    (n_11 : PySem.W.findIn K (.ref C11) "gate" = some none) (i_11 : PySem.W.findIn K (.ref C11) "__init__" = some (some (.ref f_i11))) (t_11 : PySem.W.typeIn K (.ref f_i11) = some (.type "function")) (l_i11 : K.lookup f_i11 = some ⟨oc_i11, od_i11, .func (PySem.W.fnOf "__init__" "Barred.__init__" (defArgs (inClass (topS 12) 0)) (defBody (inClass (topS 12) 0)) (defScope (inClass (topS 12) 0)) .none kV_i11 dc_i11 pm_i11 an_i11 cd_i11 ct_i11), sl_i11⟩) (c_i11 : PySem.W.codeIn K cd_i11 "Barred.__init__" = true) (k_i11 : PySem.W.keepIn K (.ref f_i11) = true)
    (x_11 : xcB K C11 "RuntimeError.__new__" [.type "RuntimeError", .type "Exception", .type "BaseException", .type "object"] = true)
    (g_12 : PySem.W.nsIn K mainGlobals "Lacks" = some (some (.ref C12)))
    (n_12 : PySem.W.findIn K (.ref C12) "place" = some none) (i_12 : PySem.W.findIn K (.ref C12) "__init__" = some (some (.ref f_i12))) (t_12 : PySem.W.typeIn K (.ref f_i12) = some (.type "function")) (l_i12 : K.lookup f_i12 = some ⟨oc_i12, od_i12, .func (PySem.W.fnOf "__init__" "Lacks.__init__" (defArgs (inClass (topS 13) 0)) (defBody (inClass (topS 13) 0)) (defScope (inClass (topS 13) 0)) .none kV_i12 dc_i12 pm_i12 an_i12 cd_i12 ct_i12), sl_i12⟩) (c_i12 : PySem.W.codeIn K cd_i12 "Lacks.__init__" = true) (k_i12 : PySem.W.keepIn K (.ref f_i12) = true)
    (x_12 : xcB K C12 "RuntimeError.__new__" [.type "RuntimeError", .type "Exception", .type "BaseException", .type "object"] = true)
    (g_13 : PySem.W.nsIn K mainGlobals "Open" = some (some (.ref C13)))
    (x_13 : x0B K C13 "RuntimeError.__new__" [.type "RuntimeError", .type "Exception", .type "BaseException", .type "object"] = true)
    (g_14 : PySem.W.nsIn K mainGlobals "NoRow" = some (some (.ref C14)))
    (x_14 : x0B K C14 "RuntimeError.__new__" [.type "RuntimeError", .type "Exception", .type "BaseException", .type "object"] = true)
    (v_V : PySem.W.findCls K (.type "ValueError") (.type "type") "__init__" = some (.val (.builtin "ValueError.__init__")))
    (v_L : PySem.W.findCls K (.type "LookupError") (.type "type") "__init__" = some (.val (.builtin "LookupError.__init__")))
    (v_O : PySem.W.findCls K (.type "OverflowError") (.type "type") "__init__" = some (.val (.builtin "OverflowError.__init__")))
    (v_R : PySem.W.findCls K (.type "RuntimeError") (.type "type") "__init__" = some (.val (.builtin "RuntimeError.__init__")))
    (z_len : PySem.W.nsIn K mainGlobals "len" = some none)
    (z_abs : PySem.W.nsIn K mainGlobals "abs" = some none)
    (z_int : PySem.W.nsIn K mainGlobals "int" = some none)
    (z_list : PySem.W.nsIn K mainGlobals "list" = some none)
    (z_enumerate : PySem.W.nsIn K mainGlobals "enumerate" = some none)
    (z_isinstance : PySem.W.nsIn K mainGlobals "isinstance" = some none)
    (z_tuple : PySem.W.nsIn K mainGlobals "tuple" = some none)
    (z_all : PySem.W.nsIn K mainGlobals "all" = some none)
    (z_zip : PySem.W.nsIn K mainGlobals "zip" = some none)
    (z_str : PySem.W.nsIn K mainGlobals "str" = some none)
    (z_bool : PySem.W.nsIn K mainGlobals "bool" = some none)
    (z_range : PySem.W.nsIn K mainGlobals "range" = some none)
    (z_ValueError : PySem.W.nsIn K mainGlobals "ValueError" = some none)
    (z_LookupError : PySem.W.nsIn K mainGlobals "LookupError" = some none)
    (z_OverflowError : PySem.W.nsIn K mainGlobals "OverflowError" = some none)
    (z_RuntimeError : PySem.W.nsIn K mainGlobals "RuntimeError" = some none)
    (z_KeyError : PySem.W.nsIn K mainGlobals "KeyError" = some none)
    (z_IndexError : PySem.W.nsIn K mainGlobals "IndexError" = some none)
    (z_NotImplementedError : PySem.W.nsIn K mainGlobals "NotImplementedError" = some none)
    (kt : kitsB K (fun i => [C0, C1, C2, C3, C4, C5, C6, C7, C8, C9, C10, C11, C12, C13, C14].getD i 0) = true) :
    ∃ fd : FuncData, (∀ (s : Shared) (v : Value), BindsTo s fd ⟨[v], []⟩ [("_law_script", v)]) ∧ ∀ base : Heap, K.In base → base.Ns mainGlobals mg → FnOk l.prog w K mg base CX0 4 fa fd ["_law_script"] (spLaw K) := by
  have e := hfa.symm.trans (PySem.W.mg_of X G a_law)
  cases e
  have F_box := fun_mk (st := sBox) l_box c_box k_box
  have b_box := F_box.binds (ps := ["_law_script", "_law_k"]) fun _ _ _ _ _ _ us hl => match us, hl with | [_, _], _ => rfl
  have F_take := fun_mk (st := sTake) l_take c_take k_take
  have b_take := F_take.binds (ps := ["_law_box_here", "_law_size"]) fun _ _ _ _ _ _ us hl => match us, hl with | [_, _], _ => rfl
  have F_same := fun_mk (st := sSame) l_same c_same k_same
  have b_same := F_same.binds (ps := ["_law_found", "_law_due"]) fun _ _ _ _ _ _ us hl => match us, hl with | [_, _], _ => rfl
  have F_fold := fun_mk (st := sFold) l_fold c_fold k_fold
  have b_fold := F_fold.binds (ps := ["_law_script", "_law_size"]) fun _ _ _ _ _ _ us hl => match us, hl with | [_, _], _ => rfl
  have F_kinds := fun_mk (st := sKinds) l_kinds c_kinds k_kinds
  have b_kinds := F_kinds.binds (ps := ["_law_error"]) fun _ _ _ _ _ _ us hl => match us, hl with | [_], _ => rfl
  have F_bases := fun_mk (st := sBases) l_bases c_bases k_bases
  have b_bases := F_bases.binds (ps := ["_law_error"]) fun _ _ _ _ _ _ us hl => match us, hl with | [_], _ => rfl
  have F_right := fun_mk (st := sRight) l_right c_right k_right
  have b_right := F_right.binds (ps := ["_law_box_here"]) fun _ _ _ _ _ _ us hl => match us, hl with | [_], _ => rfl
  have F_law := fun_mk (st := sLaw) l_law c_law k_law
  have m_len := PySem.W.mg_none_of X G z_len
  have m_abs := PySem.W.mg_none_of X G z_abs
  have m_int := PySem.W.mg_none_of X G z_int
  have m_list := PySem.W.mg_none_of X G z_list
  have m_enumerate := PySem.W.mg_none_of X G z_enumerate
  have m_isinstance := PySem.W.mg_none_of X G z_isinstance
  have m_tuple := PySem.W.mg_none_of X G z_tuple
  have m_all := PySem.W.mg_none_of X G z_all
  have m_zip := PySem.W.mg_none_of X G z_zip
  have m_str := PySem.W.mg_none_of X G z_str
  have m_bool := PySem.W.mg_none_of X G z_bool
  have m_range := PySem.W.mg_none_of X G z_range
  have m_ValueError := PySem.W.mg_none_of X G z_ValueError
  have m_LookupError := PySem.W.mg_none_of X G z_LookupError
  have m_OverflowError := PySem.W.mg_none_of X G z_OverflowError
  have m_RuntimeError := PySem.W.mg_none_of X G z_RuntimeError
  have m_KeyError := PySem.W.mg_none_of X G z_KeyError
  have m_IndexError := PySem.W.mg_none_of X G z_IndexError
  have m_NotImplementedError := PySem.W.mg_none_of X G z_NotImplementedError
  have gg_0 := PySem.W.mg_of X G g_0
  have gg_1 := PySem.W.mg_of X G g_1
  have gg_2 := PySem.W.mg_of X G g_2
  have gg_3 := PySem.W.mg_of X G g_3
  have gg_4 := PySem.W.mg_of X G g_4
  have gg_5 := PySem.W.mg_of X G g_5
  have gg_6 := PySem.W.mg_of X G g_6
  have gg_7 := PySem.W.mg_of X G g_7
  have gg_8 := PySem.W.mg_of X G g_8
  have gg_9 := PySem.W.mg_of X G g_9
  have gg_10 := PySem.W.mg_of X G g_10
  have gg_11 := PySem.W.mg_of X G g_11
  have gg_12 := PySem.W.mg_of X G g_12
  have gg_13 := PySem.W.mg_of X G g_13
  have gg_14 := PySem.W.mg_of X G g_14
  refine ⟨PySem.W.fnOf "law" "law" (defArgs sLaw) (defBody sLaw) (defScope sLaw) .none kV_law dc_law pm_law an_law cd_law ct_law, fun s v => .of_eq rfl, fun base _ _ => ?_⟩
  have N : Names mg := ⟨m_isinstance, m_list, m_tuple, m_len, m_all, m_zip, m_str, m_int, m_bool⟩
  have BB : Bs mg := ⟨m_ValueError, m_LookupError, m_OverflowError, m_RuntimeError, m_KeyError, m_IndexError, m_NotImplementedError⟩
  have GG : Gs mg (fun i => [C0, C1, C2, C3, C4, C5, C6, C7, C8, C9, C10, C11, C12, C13, C14].getD i 0) := ⟨gg_0, gg_1, gg_2, gg_3, gg_4, gg_5, gg_6, gg_7, gg_8, gg_9, gg_10, gg_11, gg_12, gg_13, gg_14⟩
  have T_0 := Bool.and_eq_true_iff.mp x_0
  have U_0 := Bool.and_eq_true_iff.mp T_0.2
  have I_0 : ExcC K C0 := isB_ok U_0.2
  have M_0 : Mk0 K mg "Unlike" C0 := ⟨⟨_, _, _, _, bfV, T_0.1⟩, gg_0, U_0.1, I_0⟩
  have T_1 := Bool.and_eq_true_iff.mp x_1
  have U_1 := Bool.and_eq_true_iff.mp T_1.2
  have I_1 : ExcC K C1 := isB_ok U_1.2
  have M_1 : Mk0 K mg "NotAlike" C1 := ⟨⟨_, _, _, _, bfV, T_1.1⟩, gg_1, U_1.1, I_1⟩
  have T_2 := xcB_ok x_2
  have M_2 : Mk1 l.prog w K mg base "NoStep" "at" C2 := mkNoStep (fun_mk (st := inClass (topS 3) 0) l_i2 c_i2 k_i2) T_2 n_2 i_2 t_2 v_V m_ValueError gg_2
  have I_2 : ExcC K C2 := T_2.is
  have T_3 := xcB_ok x_3
  have M_3 : Mk1 l.prog w K mg base "BadWord" "at" C3 := mkBadWord (fun_mk (st := inClass (topS 4) 0) l_i3 c_i3 k_i3) T_3 n_3 i_3 t_3 v_V m_ValueError gg_3
  have I_3 : ExcC K C3 := T_3.is
  have T_4 := xcB_ok x_4
  have M_4 : Mk1 l.prog w K mg base "BadRow" "row" C4 := mkBadRow (fun_mk (st := inClass (topS 5) 0) l_i4 c_i4 k_i4) T_4 n_4 i_4 t_4 v_V m_ValueError gg_4
  have I_4 : ExcC K C4 := T_4.is
  have T_5 := xcB_ok x_5
  have M_5 : Mk1 l.prog w K mg base "BadDeed" "at" C5 := mkBadDeed (fun_mk (st := inClass (topS 6) 0) l_i5 c_i5 k_i5) T_5 n_5 i_5 t_5 v_V m_ValueError gg_5
  have I_5 : ExcC K C5 := T_5.is
  have T_6 := xcB_ok x_6
  have M_6 : Mk1 l.prog w K mg base "NoBin" "place" C6 := mkNoBin (fun_mk (st := inClass (topS 7) 0) l_i6 c_i6 k_i6) T_6 n_6 i_6 t_6 v_L m_LookupError gg_6
  have I_6 : ExcC K C6 := T_6.is
  have T_7 := xcB_ok x_7
  have M_7 : Mk1 l.prog w K mg base "NoGate" "gate" C7 := mkNoGate (fun_mk (st := inClass (topS 8) 0) l_i7 c_i7 k_i7) T_7 n_7 i_7 t_7 v_L m_LookupError gg_7
  have I_7 : ExcC K C7 := T_7.is
  have T_8 := xcB_ok x_8
  have M_8 : Mk1 l.prog w K mg base "NoDeed" "many" C8 := mkNoDeed (fun_mk (st := inClass (topS 9) 0) l_i8 c_i8 k_i8) T_8 n_8 i_8 t_8 v_L m_LookupError gg_8
  have I_8 : ExcC K C8 := T_8.is
  have T_9 := xcB_ok x_9
  have M_9 : Mk1 l.prog w K mg base "TooMany" "many" C9 := mkTooMany (fun_mk (st := inClass (topS 10) 0) l_i9 c_i9 k_i9) T_9 n_9 i_9 t_9 v_O m_OverflowError gg_9
  have I_9 : ExcC K C9 := T_9.is
  have T_10 := xcB_ok x_10
  have M_10 : Mk1 l.prog w K mg base "Full" "place" C10 := mkFull (fun_mk (st := inClass (topS 11) 0) l_i10 c_i10 k_i10) T_10 n_10 i_10 t_10 v_O m_OverflowError gg_10
  have I_10 : ExcC K C10 := T_10.is
  have T_11 := xcB_ok x_11
  have M_11 : Mk1 l.prog w K mg base "Barred" "gate" C11 := mkBarred (fun_mk (st := inClass (topS 12) 0) l_i11 c_i11 k_i11) T_11 n_11 i_11 t_11 v_R m_RuntimeError gg_11
  have I_11 : ExcC K C11 := T_11.is
  have T_12 := xcB_ok x_12
  have M_12 : Mk1 l.prog w K mg base "Lacks" "place" C12 := mkLacks (fun_mk (st := inClass (topS 13) 0) l_i12 c_i12 k_i12) T_12 n_12 i_12 t_12 v_R m_RuntimeError gg_12
  have I_12 : ExcC K C12 := T_12.is
  have T_13 := Bool.and_eq_true_iff.mp x_13
  have U_13 := Bool.and_eq_true_iff.mp T_13.2
  have I_13 : ExcC K C13 := isB_ok U_13.2
  have M_13 : Mk0 K mg "Open" C13 := ⟨⟨_, _, _, _, bfR, T_13.1⟩, gg_13, U_13.1, I_13⟩
  have T_14 := Bool.and_eq_true_iff.mp x_14
  have U_14 := Bool.and_eq_true_iff.mp T_14.2
  have I_14 : ExcC K C14 := isB_ok U_14.2
  have M_14 : Mk0 K mg "NoRow" C14 := ⟨⟨_, _, _, _, bfR, T_14.1⟩, gg_14, U_14.1, I_14⟩
  have II : ∀ i, i < 15 → ExcC K ((fun i => [C0, C1, C2, C3, C4, C5, C6, C7, C8, C9, C10, C11, C12, C13, C14].getD i 0) i) := fun i hi => by
    match i, hi with
    | 0, _ => exact I_0
    | 1, _ => exact I_1
    | 2, _ => exact I_2
    | 3, _ => exact I_3
    | 4, _ => exact I_4
    | 5, _ => exact I_5
    | 6, _ => exact I_6
    | 7, _ => exact I_7
    | 8, _ => exact I_8
    | 9, _ => exact I_9
    | 10, _ => exact I_10
    | 11, _ => exact I_11
    | 12, _ => exact I_12
    | 13, _ => exact I_13
    | 14, _ => exact I_14
  have R : Rf l.prog w K mg base (fun i => [C0, C1, C2, C3, C4, C5, C6, C7, C8, C9, C10, C11, C12, C13, C14].getD i 0) := ⟨M_0, M_1, M_2, M_3, M_4, M_5, M_6, M_7, M_8, M_9, M_10, M_11, M_12, M_13, M_14, m_range, m_enumerate, m_int, fun i j hi hj => (kits_at kt hi).1 j hj, fun i hi => (kits_at kt hi).2.1, fun i hi => (kits_at kt hi).2.2.1, fun i hi => (kits_at kt hi).2.2.2.1, fun i hi => (kits_at kt hi).2.2.2.2.1, fun i hi => (kits_at kt hi).2.2.2.2.2, II⟩
  have DT : Df l.prog w K mg base "_law_take" ["_law_box_here", "_law_size"] 1 spTake := ⟨_, _, ok_take F_take, PySem.W.mg_of X G a_take, F_take.kp, b_take⟩
  have DS : Df l.prog w K mg base "_law_same" ["_law_found", "_law_due"] 2 (spSame K 1) := ⟨_, _, ok_same F_same b_same (PySem.W.mg_of X G a_same) N 2, PySem.W.mg_of X G a_same, F_same.kp, b_same⟩
  have DK : Df l.prog w K mg base "_law_kinds" ["_law_error"] 1 (spKinds K _) := ⟨_, _, ok_kinds F_kinds GG m_isinstance, PySem.W.mg_of X G a_kinds, F_kinds.kp, b_kinds⟩
  have DB : Df l.prog w K mg base "_law_bases" ["_law_error"] 1 (spBases K) := ⟨_, _, ok_bases F_bases BB m_isinstance, PySem.W.mg_of X G a_bases, F_bases.kp, b_bases⟩
  have DF : Df l.prog w K mg base "_law_folded" ["_law_script", "_law_size"] 1 (spFold K) := ⟨_, _, ok_fold F_fold m_list m_enumerate, PySem.W.mg_of X G a_fold, F_fold.kp, b_fold⟩
  have DX : Df l.prog w K mg base "_law_box" ["_law_script", "_law_k"] 1 (spBox K) := ⟨_, _, ok_box F_box m_len m_abs m_int, PySem.W.mg_of X G a_box, F_box.kp, b_box⟩
  have DR : Df l.prog w K mg base "_law_right" ["_law_box_here"] 3 spRight := ⟨_, _, ok_right F_right R DT DS DK DB, PySem.W.mg_of X G a_right, F_right.kp, b_right⟩
  exact ok_law F_law m_len m_range m_all DF DX DR
end
end Kd
open PySem PySem.W PyProof.Rows
set_option maxHeartbeats 0 in
theorem PySem.Challenge.cw_forthback_k48_refusals_made_by_hand_holds : PySem.Challenge.rw_forthback_k48_refusals_made_by_hand.Holds := by
  w_on; o_law; k_head; (case hw => w_witness2)
  k_fill
  refine L2.walk_of (l := PySem.Challenge.rw_forthback_k48_refusals_made_by_hand) (n := 63) (k := 4) (x := "_law_script") (CX := fun _ => L2.CX0) (sp := fun w => Kd.spLaw _) rfl (by decide) rfl ⟨rfl, by decide, by decide⟩ (fun w h Y => PySem.W.kIn_of Y) ?F (fun _ _ a ns hl _ hS => ⟨a, ns, rfl, hS, hl, fun _ => rfl⟩) (fun _ _ _ _ _ h => h)
  case F =>
    intro w mg fa h KX G hmg
    refine' Kd.all_mk KX G hmg ?a_box ?l_box ?c_box ?k_box ?a_take ?l_take ?c_take ?k_take ?a_same ?l_same ?c_same ?k_same ?a_fold ?l_fold ?c_fold ?k_fold ?a_kinds ?l_kinds ?c_kinds ?k_kinds ?a_bases ?l_bases ?c_bases ?k_bases ?a_right ?l_right ?c_right ?k_right ?a_law ?l_law ?c_law ?k_law ?g_0 ?x_0 ?g_1 ?x_1 ?g_2 ?n_2 ?i_2 ?t_2 ?l_i2 ?c_i2 ?k_i2 ?x_2 ?g_3 ?n_3 ?i_3 ?t_3 ?l_i3 ?c_i3 ?k_i3 ?x_3 ?g_4 ?n_4 ?i_4 ?t_4 ?l_i4 ?c_i4 ?k_i4 ?x_4 ?g_5 ?n_5 ?i_5 ?t_5 ?l_i5 ?c_i5 ?k_i5 ?x_5 ?g_6 ?n_6 ?i_6 ?t_6 ?l_i6 ?c_i6 ?k_i6 ?x_6 ?g_7 ?n_7 ?i_7 ?t_7 ?l_i7 ?c_i7 ?k_i7 ?x_7 ?g_8 ?n_8 ?i_8 ?t_8 ?l_i8 ?c_i8 ?k_i8 ?x_8 ?g_9 ?n_9 ?i_9 ?t_9 ?l_i9 ?c_i9 ?k_i9 ?x_9 ?g_10 ?n_10 ?i_10 ?t_10 ?l_i10 ?c_i10 ?k_i10 ?x_10 ?g_11 ?n_11 ?i_11 ?t_11 ?l_i11 ?c_i11 ?k_i11 ?x_11 ?g_12 ?n_12 ?i_12 ?t_12 ?l_i12 ?c_i12 ?k_i12 ?x_12 ?g_13 ?x_13 ?g_14 ?x_14 ?v_V ?v_L ?v_O ?v_R ?z_len ?z_abs ?z_int ?z_list ?z_enumerate ?z_isinstance ?z_tuple ?z_all ?z_zip ?z_str ?z_bool ?z_range ?z_ValueError ?z_LookupError ?z_OverflowError ?z_RuntimeError ?z_KeyError ?z_IndexError ?z_NotImplementedError ?kt
    (case a_box => k_is)
    (case l_box => k_is)
    (case c_box => k_is)
    (case k_box => k_is)
    (case a_take => k_is)
    (case l_take => k_is)
    (case c_take => k_is)
    (case k_take => k_is)
    (case a_same => k_is)
    (case l_same => k_is)
    (case c_same => k_is)
    (case k_same => k_is)
    (case a_fold => k_is)
    (case l_fold => k_is)
    (case c_fold => k_is)
    (case k_fold => k_is)
    (case a_kinds => k_is)
    (case l_kinds => k_is)
    (case c_kinds => k_is)
    (case k_kinds => k_is)
    (case a_bases => k_is)
    (case l_bases => k_is)
    (case c_bases => k_is)
    (case k_bases => k_is)
    (case a_right => k_is)
    (case l_right => k_is)
    (case c_right => k_is)
    (case k_right => k_is)
    (case a_law => k_is)
    (case l_law => k_is)
    (case c_law => k_is)
    (case k_law => k_is)
    (case g_0 => k_is)
    (case x_0 => kernel_rfl)
    (case g_1 => k_is)
    (case x_1 => kernel_rfl)
    (case g_2 => k_is)
    (case n_2 => k_is)
    (case i_2 => k_is)
    (case t_2 => k_is)
    (case l_i2 => k_is)
    (case c_i2 => k_is)
    (case k_i2 => k_is)
    (case x_2 => kernel_rfl)
    (case g_3 => k_is)
    (case n_3 => k_is)
    (case i_3 => k_is)
    (case t_3 => k_is)
    (case l_i3 => k_is)
    (case c_i3 => k_is)
    (case k_i3 => k_is)
    (case x_3 => kernel_rfl)
    (case g_4 => k_is)
    (case n_4 => k_is)
    (case i_4 => k_is)
    (case t_4 => k_is)
    (case l_i4 => k_is)
    (case c_i4 => k_is)
    (case k_i4 => k_is)
    (case x_4 => kernel_rfl)
    (case g_5 => k_is)
    (case n_5 => k_is)
    (case i_5 => k_is)
    (case t_5 => k_is)
    (case l_i5 => k_is)
    (case c_i5 => k_is)
    (case k_i5 => k_is)
    (case x_5 => kernel_rfl)
    (case g_6 => k_is)
    (case n_6 => k_is)
    (case i_6 => k_is)
    (case t_6 => k_is)
    (case l_i6 => k_is)
    (case c_i6 => k_is)
    (case k_i6 => k_is)
    (case x_6 => kernel_rfl)
    (case g_7 => k_is)
    (case n_7 => k_is)
    (case i_7 => k_is)
    (case t_7 => k_is)
    (case l_i7 => k_is)
    (case c_i7 => k_is)
    (case k_i7 => k_is)
    (case x_7 => kernel_rfl)
    (case g_8 => k_is)
    (case n_8 => k_is)
    (case i_8 => k_is)
    (case t_8 => k_is)
    (case l_i8 => k_is)
    (case c_i8 => k_is)
    (case k_i8 => k_is)
    (case x_8 => kernel_rfl)
    (case g_9 => k_is)
    (case n_9 => k_is)
    (case i_9 => k_is)
    (case t_9 => k_is)
    (case l_i9 => k_is)
    (case c_i9 => k_is)
    (case k_i9 => k_is)
    (case x_9 => kernel_rfl)
    (case g_10 => k_is)
    (case n_10 => k_is)
    (case i_10 => k_is)
    (case t_10 => k_is)
    (case l_i10 => k_is)
    (case c_i10 => k_is)
    (case k_i10 => k_is)
    (case x_10 => kernel_rfl)
    (case g_11 => k_is)
    (case n_11 => k_is)
    (case i_11 => k_is)
    (case t_11 => k_is)
    (case l_i11 => k_is)
    (case c_i11 => k_is)
    (case k_i11 => k_is)
    (case x_11 => kernel_rfl)
    (case g_12 => k_is)
    (case n_12 => k_is)
    (case i_12 => k_is)
    (case t_12 => k_is)
    (case l_i12 => k_is)
    (case c_i12 => k_is)
    (case k_i12 => k_is)
    (case x_12 => kernel_rfl)
    (case g_13 => k_is)
    (case x_13 => kernel_rfl)
    (case g_14 => k_is)
    (case x_14 => kernel_rfl)
    (case v_V => k_is)
    (case v_L => k_is)
    (case v_O => k_is)
    (case v_R => k_is)
    (case z_len => k_is)
    (case z_abs => k_is)
    (case z_int => k_is)
    (case z_list => k_is)
    (case z_enumerate => k_is)
    (case z_isinstance => k_is)
    (case z_tuple => k_is)
    (case z_all => k_is)
    (case z_zip => k_is)
    (case z_str => k_is)
    (case z_bool => k_is)
    (case z_range => k_is)
    (case z_ValueError => k_is)
    (case z_LookupError => k_is)
    (case z_OverflowError => k_is)
    (case z_RuntimeError => k_is)
    (case z_KeyError => k_is)
    (case z_IndexError => k_is)
    (case z_NotImplementedError => k_is)
    (case kt => kernel_rfl)
