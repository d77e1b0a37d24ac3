import PyProof.Rows.All
import Wide.All
import OpenK.AllK
import Wide.FinOn
import HandS.Base
import HandS.Call
import HandS.List
import HandS.Comp
import HandS.Ends
import HandS.Iter
import HandS.Words
import HandS.TryOnly
import HandS.Evl
import HandS.Lambda
import HandS.Nested
import HandS.WordsList
import HandS.ExcInit
import HandS.ExcIs
import HandS.IsInst
import HandS.ExcValue
import HandS.Defaults
import KE.KExcInit
import HandS.Exc
import KE.KTryMore
import HandS.Walk
import HandS.Zip
import HandS.Conv
import HandS.Rev
import HandS.TupMul
import HandS.TupAny
import PyProof.ReprRoads
import KE.GoesMore
import HandS.Style
import HandS.WideBits
import HandS.FltList
import HandS.Wide
import PyProof.WalksMore
import PyProof.SumWalkG
import HandS.TupLe
import PyProof.WalkInts
import PyProof.MinMaxWalk
import PyProof.SeqI3
import KE.KIndexOf
import KE.GoesZip
import KE.GoesEnum
import HandS.Star
import HandS.SortKw
import KE.DataMinMax
import ObjForm.LawKit
import HandS.Deep
import HandS.SortInts
import HandS.Sort
import PyProof.ListRange
import HandS.EndTab
import KE.KLam
import KE.DataMinKey
import PyProof.Rows.CallKwBuiltin
import KE.KDictZip
import HandS.ListItems
import PyProof.ListNew
import PyProof.CollectWalk
import KE.KNestM
import KE.IntBitsLaws
import PyProof.ReprLen
import HandS.SetFor
import HandS.Strs
import HandS.Dict
import HandS.CallSlots
import HandS.ExcOwn
import HandS.Text
import HandS.More
import PyProof.Rows.StrCase
import KE.KRevSl
import HandS.FStr
import PyProof.StrOps2
import PyProof.StrLawsIn
import KE.IntTextLaws
import PyProof.FitsReplace
import HandS.Codes
import KE.KIntText
import PySem.Challenge.RW_forthback_k81_texts_of_lines_spoilt
set_option Elab.async false
set_option linter.all false
set_option maxRecDepth 100000
set_option maxHeartbeats 8000000
namespace PySem
namespace XvL
open Builtin Builtin.ObjectAttr
variable {P : Program} {w : World} {A : Around} {E : Value → Shared → Prop} {R : Result → Shared → Prop}
variable {m : Heap} {gn : Array GenState} {dr : Drawn} {tn : Nat} {sy : OsState}
theorem osa_first {K : PySem.W.Frag} {nm : Str} {tk : Tok} {v : Value} {x C : Addr} {fv : Array Value} {cd : ClassData}
    (X : K.In m) (hx : m.get? x = some { cls := .ref C, data := .fields fv }) (hcd : PySem.W.clsIn K C = some cd)
    (hne : cd.mro.isEmpty = false) (hob : cd.mro.contains (.type "object") = true)
    (hps : ∀ self, refuseLoop self "__setattr__" cd.mro = pure ()) (hh : cd.hasDict = true)
    (hno : PySem.W.findIn K (.ref C) nm = some none)
    (fin : ∀ m' tk' dx, (∀ b o, b ≠ x → m.get? b = some o → m'.get? b = some o) → m.objs.size ≤ dx → dx ≠ x →
      m'.get? x = some { cls := .ref C, dict := some dx, data := .fields fv } →
      m'.Ns1 dx (fun y => if y = nm then some v else none) → R (.ok (.ret .none)) ⟨m', gn, dr, tk', sy⟩) :
    codeAny (model P w) A (.call (.builtin "object.__setattr__") ⟨[.ref x, .str nm tk, v], []⟩) R ⟨m, gn, dr, tn, sy⟩ := by
  have J : PySem.W.InstAt m x { cls := .ref C, data := .fields fv } C none := ⟨hx, rfl, rfl, trivial⟩
  have S0 := PySem.F.store_object
  have nx : x ≠ m.objs.size := Nat.ne_of_lt (Heap.lt_size hx)
  have isObj : PySem.W.Looks (model P w) m (isInstance (.ref x) (.type "object")) true :=
    J.type.andThen (PySem.W.looks_mroIn X (by unfold PySem.W.mroIn; rw [hcd, Option.bind_some, if_neg (by rw [hne]; decide), hob]))
  refine codeAny_call_builtin S0.slot.plain S0.entry (@PySem.W.check_slot (model P w) _ _ ⟨m, gn, dr, tn, sy⟩
    "object.__setattr__" "object" "__setattr__" (.ref x) [.str nm tk, v] [] _ S0.kind S0.split isObj (S0.args (.ref x) (.str nm tk) v) ?_)
  have mroL : PySem.W.Looks (model P w) m (mroOf (.ref C)) cd.mro := (PySem.W.looks_clsIn X hcd).andThen .now
  have takeL : PySem.W.Looks (model P w) m (storeTaker? none) none := .now
  have clsL : PySem.W.Looks (model P w) m (classData C) cd := PySem.W.looks_clsIn X hcd
  rw [PySem.W.osa_eq, refuse_eq]
  refine wpAny_bind (wpAny_bind (J.type.at (wpAny_bind (mroL.at ?_))))
  rw [hps]
  refine wpAny_pure (wpAny_bind (J.type.at (wpAny_bind ((PySem.W.looks_findIn X hno).at (wpAny_bind (takeL.at ?_))))))
  show wpAny _ _ (storeInOwnDict (.ref x) (.ref C) (.str nm tk) nm v false) _ _ _
  obtain ⟨cn, bs, mro, ns, qn, hd, sn, sb, ab, col, del⟩ := cd
  dsimp only at hh
  subst hh
  unfold storeInOwnDict ownDictForStores
  repeat (first
    | with_reducible refine PySem.HandSPX.store_in_new ?_ ?_
    | with_reducible refine wpAny_loadPart_at hx ?_
    | with_reducible refine clsL.at ?_
    | wp_step)
  · exact ⟨_, #[], _, (Heap.get?_update_ne _ _ _ _ nx.symm).trans (Heap.get?_push_at rfl rfl), rfl, fun z hz => absurd hz (by simp), fun _ => rfl⟩
  · intro m' tk' ns' same
    have hx1 : (m.push { cls := .type "dict", data := .dict #[] }).get? x = some { cls := .ref C, data := .fields fv } := Heap.get?_push_of_some _ hx
    refine fin m' tk' m.objs.size (fun b o nb ob => ?_) (Nat.le_refl _) nx.symm ?_ ns'
    · exact (same.2 b (Nat.ne_of_lt (Heap.lt_size ob))).trans ((Heap.get?_update_ne _ _ _ _ nb).trans (Heap.get?_push_of_some _ ob))
    · exact (same.2 x nx).trans (Heap.get?_update_self _ hx1 rfl)
variable {nm qn : Str} {C N : Addr} {bs bm bmB : List Value} {hdct : Bool} {sn : List Str} {sub : List Value} {ab : Bool} {col : Option Bool} {dd : Option Addr}
variable {k0 k1 k2 k3 k5 : Option Value} {B newId initId : String}
theorem chk_new {M : Model} (F : ExcBaseFacts B newId initId bmB) (hT : ∀ Y : String, bm.contains (.type Y) = bmB.contains (.type Y))
    {us : List Value} {kw : List (Str × Value)} {Q : Unit → Shared → Prop}
    (hC : m.get? C = some (excClassObj nm qn C N bs bm hdct sn sub ab col dd k0 k1 k2 k3 k5 newId)) (fin : Q () ⟨m, gn, dr, tn, sy⟩) :
    wpAny M A (checkBuiltinCall newId ⟨.ref C :: us, kw⟩) Q E ⟨m, gn, dr, tn, sy⟩ := by
  have inB : (Value.ref C :: bm).contains (.type B) = true := by rw [List.contains_cons, hT, F.hasB, Bool.or_true]
  have ns := F.noStar
  simp only [checkBuiltinCall, F.newKind, F.newSplit, F.newRow]
  repeat (first
    | refine wpAny_loadPart_at hC ?_
    | (refine wpAny_isSubtype_exc hC ?_; rw [inB])
    | refine wpAny_staticBase_exc hC ?_
    | refine wpAny_madeBy_exc hC ?_
    | simp only [bne_self_eq_false, Bool.false_eq_true, if_false]
    | wp_step)
  exact fin
theorem new_kw (F : ExcBaseFacts B newId initId bmB) (hT : ∀ Y : String, bm.contains (.type Y) = bmB.contains (.type Y))
    {us : List Value} {kw : List (Str × Value)}
    (hC : m.get? C = some (excClassObj nm qn C N bs bm hdct sn sub ab col dd k0 k1 k2 k3 k5 newId))
    (fin : R (.ok (.ret (.ref (m.objs.size + 1)))) ⟨(m.push (PySem.W.kdv_tup us)).push (PySem.HandSPX.excO C m.objs.size), gn, dr, tn, sy⟩) (hus : us.length ≤ sizeLine) :
    codeAny (model P w) A (.builtin newId ⟨.ref C :: us, kw⟩) R ⟨m, gn, dr, tn, sy⟩ := by
  have he := F.ends
  have inB : (Value.ref C :: bm).contains (.type B) = true := by rw [List.contains_cons, hT, F.hasB, Bool.or_true]
  have inA : (Value.ref C :: bm).contains (.type "AttributeError") = false := by rw [List.contains_cons, hT, F.noAttr]; rfl
  have inN : (Value.ref C :: bm).contains (.type "NameError") = false := by rw [List.contains_cons, hT, F.noName]; rfl
  refine codeAny_builtinAt F.entry ?_
  unfold Builtin.«BaseException.__new__»
  refine wpAt_bind ?_
  show wpAt _ _ _ (stack >>= _) _ _ _
  refine wpAt_bind (wpAt_stack fun p below => wpAt_of_wpAny ?_)
  wp_walk
  refine wpAt_of_wpAny ?_
  rw [F.owner]
  repeat (first
    | with_reducible refine wpAny_madeHere_exc F.canon hC ?_
    | with_reducible refine wpAny_loadPart_at hC ?_
    | (with_reducible refine wpAny_isSubtype_exc hC ?_; first | rw [inB] | rw [inA] | rw [inN])
    | wp_step)
  show R _ _
  rw [Heap.size_push]
  exact fin
theorem tcall_kw (F : ExcBaseFacts B newId initId bmB) (hT : ∀ Y : String, bm.contains (.type Y) = bmB.contains (.type Y))
    {us : List Value} {kw : List (Str × Value)} {fI : Addr} {Q : Fin → Shared → Prop}
    (hC : m.get? C = some (excClassObj nm qn C N bs bm hdct sn sub ab col dd k0 k1 k2 k3 k5 newId))
    (hi : PySem.W.Looks (model P w) m (typeLookup (.ref C) "__init__") (some (.ref fI)))
    (hb : ∀ self, PySem.W.Looks (model P w) m (bindSpecial (.ref fI) self) (.ref fI, [self])) (hus : us.length ≤ sizeLine)
    (go : codeAny (model P w) A (.call (.ref fI) ⟨.ref (m.objs.size + 1) :: us, kw⟩)
      (fun r s' => match r with
        | .ok (.ret v) => v = .none ∧ Q (.done (.ret (.ref (m.objs.size + 1)))) s'
        | .ok _ => False
        | .error e => E e s')
      ⟨(m.push (PySem.W.kdv_tup us)).push (PySem.HandSPX.excO C m.objs.size), gn, dr, tn, sy⟩) :
    wpAny (model P w) A (Builtin.«type.__call__» ⟨.ref C :: us, kw⟩) Q E ⟨m, gn, dr, tn, sy⟩ := by
  repeat (first | with_reducible refine wpAny_loadPart_at hC ?_ | with_reducible refine wpAny_madeBy_exc hC ?_ | wp_step)
  refine codeAny_call_builtin_code (Code.quiet_builtin _ F.quiet) (chk_new F hT hC ?_)
  refine new_kw F hT hC ?_ hus
  show wpAny _ _ _ _ _ _
  have keep : ∀ b o, m.get? b = some o → ((m.push (PySem.W.kdv_tup us)).push (PySem.HandSPX.excO C m.objs.size)).get? b = some o :=
    fun b o e => Heap.get?_push_of_some _ (Heap.get?_push_of_some _ e)
  have hC1 := keep _ _ hC
  have hnew : ((m.push (PySem.W.kdv_tup us)).push (PySem.HandSPX.excO C m.objs.size)).get? (m.objs.size + 1) = some (PySem.HandSPX.excO C m.objs.size) := by heap_get
  have inC : (Value.ref C :: bm).contains (.ref C) = true := by simp
  have i1 := hi.keeps keep
  have b1 := (hb (.ref (m.objs.size + 1))).keeps keep
  unfold isInstance
  repeat (first
    | with_reducible refine wpAny_loadPart_at hnew ?_
    | (with_reducible refine wpAny_isSubtype_exc hC1 ?_; rw [inC])
    | wp_step)
  show wpAny _ _ (typeLookup (.ref C) _) _ _ _
  refine i1.at ?_
  refine wpAny_holding (wpAny_bind (b1.at ?_))
  refine wpAny_bind (wpAny_call (codeAny_mono go fun r s' z => ?_))
  rcases r with e | (v | _ | _ | _) <;> first | exact z | exact z.elim | skip
  obtain ⟨rfl, z⟩ := z
  first
    | exact wpAny_pure (wpAny_pure z)
    | (wp_walk; exact z)
theorem chk_tcall {M : Model} {us : List Value} {kw : List (Str × Value)} {Q : Unit → Shared → Prop}
    (hC : m.get? C = some (excClassObj nm qn C N bs bm hdct sn sub ab col dd k0 k1 k2 k3 k5 newId)) (fin : Q () ⟨m, gn, dr, tn, sy⟩) :
    wpAny M A (checkBuiltinCall "type.__call__" ⟨.ref C :: us, kw⟩) Q E ⟨m, gn, dr, tn, sy⟩ := by
  have f3 := tc_sub
  have hty : (⟨m, gn, dr, tn, sy⟩ : Shared).TypeIs (.ref C) "type" := ⟨_, hC, rfl⟩
  simp only [checkBuiltinCall, tc_kind, tc_split]
  repeat (any_goals (first
    | assumption
    | with_reducible refine wpAny_loadPart_at hC ?_
    | with_reducible refine wpAny_onRaise ?_
    | with_reducible refine wpAny_map ?_
    | wp_step))
theorem call_kw (F : ExcBaseFacts B newId initId bmB) (hT : ∀ Y : String, bm.contains (.type Y) = bmB.contains (.type Y))
    {us : List Value} {kw : List (Str × Value)} {fI : Addr}
    (hC : m.get? C = some (excClassObj nm qn C N bs bm hdct sn sub ab col dd k0 k1 k2 k3 k5 newId))
    (hi : PySem.W.Looks (model P w) m (typeLookup (.ref C) "__init__") (some (.ref fI)))
    (hb : ∀ self, PySem.W.Looks (model P w) m (bindSpecial (.ref fI) self) (.ref fI, [self])) (hus : us.length ≤ sizeLine)
    (go : codeAny (model P w) (A.under (.builtin "type.__call__" ⟨.ref C :: us, kw⟩)) (.call (.ref fI) ⟨.ref (m.objs.size + 1) :: us, kw⟩)
      (PySem.W.InitBack (m.objs.size + 1) R) ⟨(m.push (PySem.W.kdv_tup us)).push (PySem.HandSPX.excO C m.objs.size), gn, dr, tn, sy⟩) :
    codeAny (model P w) A (.call (.ref C) ⟨us, kw⟩) R ⟨m, gn, dr, tn, sy⟩ := by
  have f1 := tc_lookup
  have f2 := tc_bind (.ref C)
  have hty : (⟨m, gn, dr, tn, sy⟩ : Shared).TypeIs (.ref C) "type" := ⟨_, hC, rfl⟩
  refine codeAny_of_tree ?_
  show wpAny _ _ (callAny (.ref C) _) _ _ _
  repeat (any_goals (first | assumption | with_reducible refine wpAny_loadPart_at hC ?_ | wp_step))
  refine ⟨rfl, ?_⟩
  refine codeAny_call_builtin_at (Code.quiet_builtin _ (by decide +kernel)) entry_typeCall (chk_tcall hC (tcall_kw F hT hC hi hb hus ?_))
  refine codeAny_mono go fun r s' z => ?_
  rcases r with e | (v | _ | _ | _) <;> exact z
end XvL
end PySem
namespace Xv
open PySem PySem.Spec PyProof.Rows L2
structure XC (K : PySem.W.Frag) (C : Addr) (newId : String) (bmB : List Value) : Prop where
  cls : ∃ nm qn N bs sn sub ab col dd k0 k1 k2 k3 k5,
    K.lookup C = some (excClassObj nm qn C N bs bmB true sn sub ab col dd k0 k1 k2 k3 k5 newId)
  sa : PySem.W.findIn K (.ref C) "__setattr__" = some (some (.builtin "object.__setattr__"))
  kC : PySem.W.keepIn K (.ref C) = true
  is : ExcC K C
structure BF (B newId initId : String) (bmB : List Value) : Prop where
  ex : ExcBaseFacts B newId initId bmB
  st : StoreFacts B bmB "object.__setattr__" "object"
  ob : bmB.contains (.type "object") = true
  stub : Manifest.isStub B = false
  typ : typeOf (.type B) = pure (.type "type")
  hand : PySem.W.handedIn (.builtin initId) = true
theorem bfV : BF "ValueError" "ValueError.__new__" "ValueError.__init__" [.type "ValueError", .type "Exception", .type "BaseException", .type "object"] :=
  ⟨PySem.F.excBase_ValueError, PySem.F.store_ValueError, by decide +kernel, by decide +kernel, by kernel_rfl, by decide +kernel⟩
end Xv
namespace Xv
open PySem PySem.Spec PyProof.Rows L2
section
variable {X : Cx} {pins : List (Addr × Obj)} {σ : L2.St} {H : Hp} {s : Shared} {a C dx : Addr} {f : Str} {y : V} {u : Value}
variable {newId initId B : String} {bmB : List Value} {A : Around} {E : Value → Shared → Prop}
theorem XC.data {K : PySem.W.Frag} (T : XC K C newId bmB) : ∃ cd : ClassData, PySem.W.clsIn K C = some cd ∧ cd.mro = .ref C :: bmB ∧ cd.hasDict = true := by
  obtain ⟨nm, qn, N, bs, sn, sub, ab, col, dd, k0, k1, k2, k3, k5, hC⟩ := T.cls
  refine ⟨_, by unfold PySem.W.clsIn; rw [hC] <;> rfl, rfl, rfl⟩
theorem put_first {Q : Unit → Shared → Prop} (T : XC X.K C newId bmB) (F : BF B newId initId bmB) (I : Inv X pins σ H s) (ea : H a = some (exo a C none))
    (hno : PySem.W.findIn X.K (.ref C) f = some none) (ry : RelV y u)
    (k : ∀ dx s', H dx = none → dx ≠ a → Inv X pins σ (upd (upd H dx (exd dx [(f, y)])) a (exo a C (some dx))) s' → Q () s') :
    wpAny (model X.prog X.w) A (setAttr (.ref a) f u) Q E s := by
  obtain ⟨cd, hcd, hmro, hdi⟩ := T.data
  obtain ⟨t1, ho⟩ := exo_at I.hok ea
  obtain ⟨m, gn, dr, tn, sy⟩ := s
  have hne : cd.mro.isEmpty = false := by rw [hmro]; rfl
  have hob : cd.mro.contains (.type "object") = true := by rw [hmro, List.contains_cons, F.ob, Bool.or_true]
  have hps : ∀ self, refuseLoop self "__setattr__" cd.mro = pure () := fun self => by rw [hmro, refuseLoop_ref]; exact F.st.passes self
  refine PySem.W.set_plain I.kIn (ox := { cls := .ref C, dict := none, data := .fields #[.ref t1, .none, .none, .none, .bool false, .none] })
    (od := none) ⟨ho, rfl, rfl, trivial⟩ T.sa ?_
  refine PySem.XvL.osa_first I.kIn ho hcd hne hob hps hdi hno (fun m' tk' dx keep dn dne hx hn => ?_)
  have nH : H dx = none := I.hok.fresh dn
  have old : ∀ {b : Addr} {o : Obj}, m.get? b = some o → b ≠ dx := fun {b o} q => Nat.ne_of_lt (Nat.lt_of_lt_of_le (Heap.lt_size q) dn)
  have nota : ∀ {b : Addr}, H b = none → b ≠ a := fun {b} n z => by
    rw [z, ea] at n
    cases n
  have W : Un X.fs [] H (upd (upd H dx (exd dx [(f, y)])) a (exo a C (some dx))) m m' := {
    keep := fun b o q n _ _ => keep b o (nota n) q
    slot := fun b o q n _ _ => ⟨o.slots, keep b o (nota n) q⟩
    free := fun b o q n _ => by
      rw [upd_ne (nota n), upd_ne (old q)]
      exact n
    there := fun b o q _ => by
      by_cases hb : b = a
      · subst hb
        exact ⟨_, hx⟩
      · exact ⟨o, keep b o hb q⟩
    tups := fun b xs q => by
      rw [upd_ne (at_ne ea q exo_tup), upd_ne (ne_of_none q nH)]
      exact q
    frzs := fun b o v q => by
      rw [upd_ne (at_ne ea q exo_frz), upd_ne (ne_of_none q nH)]
      exact q
    tbls := fun b ps q => ⟨#[], by
      rw [upd_ne (at_ne ea q exo_tbl), upd_ne (ne_of_none q nH), q]
      simp⟩ }
  refine k dx _ nH dne (I.un (t' := tk') W fun b o q => ?_)
  by_cases hb : b = a
  · subst hb
    rw [upd_same] at q
    cases q
    exact exo_ok hx
  · rw [upd_ne hb] at q
    by_cases hd : b = dx
    · subst hd
      rw [upd_same] at q
      cases q
      exact exd_ok hn (relO_put (fs := []) ry fun g => True.intro)
    · rw [upd_ne hd] at q
      refine (I.hok b o q).stay (fun c v hc z => keep c v ?_ z) (fun c hc => ?_) (fun c xs hc => ?_)
      · rcases hc with hc | hc
        · rw [hc]
          exact hb
        · exact at_ne ea hc exo_own
      · rw [upd_ne (at_ne ea hc exo_own), upd_ne (ne_of_none hc nH)]
        exact hc
      · rw [upd_ne (at_ne ea hc exo_tup), upd_ne (ne_of_none hc nH)]
        exact hc
theorem base_init {us : List Value} {Q : Value → Shared → Prop} (T : XC X.K C newId bmB) (F : BF B newId initId bmB) (I : Inv X pins σ H s)
    (ea : H a = some (exo a C none)) (hl : us.length ≤ sizeLine) (k : ∀ s', Inv X pins σ H s' → Q .none s') :
    wpAny (model X.prog X.w) A (call (.builtin initId) (.ref a :: us)) Q E s := by
  obtain ⟨nm, qn, N, bs, sn, sub, ab, col, dd, k0, k1, k2, k3, k5, hC⟩ := T.cls
  obtain ⟨t1, ho⟩ := exo_at I.hok ea
  obtain ⟨m, gn, dr, tn, sy⟩ := s
  refine wpAny_call (PySem.HandSPX.init_base F.ex (fun _ => rfl) (I.kIn _ _ hC) ho hl fun m' t2 keep hx => ?_)
  have J := I.write (t' := tn) (x := a) (e := a) (o := exo a C none) (by rw [ea]; exact True.intro) (.inl rfl) keep ⟨_, hx⟩ (exo_ok hx)
  have eu : upd H a (exo a C none) = H := by
    funext b
    by_cases hb : b = a
    · subst hb
      rw [upd_same, ea]
    · rw [upd_ne hb]
  rw [eu] at J
  exact k _ J
end
def tBI (K : PySem.W.Frag) (newId : String) (bmB : List Value) (ta : TA) : TE := fun σ H Q => ta σ H fun vs H1 =>
  ∃ (a C : Addr) (ws : List V), vs = .ref a :: ws ∧ ws.length ≤ 1000 ∧ XC K C newId bmB ∧ H1 a = some (exo a C none) ∧ Q .non H1
def tPF (K : PySem.W.Frag) (newId : String) (bmB : List Value) (f : Str) (to te : TE) : TS := fun D σ H => te σ H fun y H1 => to σ H1 fun x H2 =>
  ∃ a C : Addr, x = .ref a ∧ XC K C newId bmB ∧ PySem.W.findIn K (.ref C) f = some none ∧ H2 a = some (exo a C none) ∧
    ∀ dx, H2 dx = none → dx ≠ a → D.nx σ (upd (upd H2 dx (exd dx [(f, y)])) a (exo a C (some dx)))
section
variable {X : Cx} {e o : Expr} {es : List Expr} {to te : TE} {ta : TA} {f B : Str} {p p' p1 p2 pos : Pos} {newId initId Bs : String} {bmB : List Value}
theorem pe_binit {pl : Sem Bool} (F : BF Bs newId initId bmB) (hg : Gl X B) (hm : X.mg B = none) (hbt : bootBuiltins B = some (.type Bs)) (hn1 : B ≠ "__name__") (hd1 : (B == ("__debug__" : Str)) = false)
    (vV : PySem.W.findCls X.K (.type Bs) (.type "type") "__init__" = some (.val (.builtin initId))) (ha : PA X (e :: es) ta)
    (hc : eval (.Call (.Attribute (.Name B p1) "__init__" p2) (e :: es) [] pos) X.env = (do
      let ov ← eval (.Name B p1) X.env
      standAt p2.atName
      let (f, first) ← holding [ov] (getMethod ov "__init__" pl)
      callWith pos f first (backTo pos (starEach (e :: es) X.env)) (backToKw pos (keywordEach [] X.env))) := by rfl)
    (he : starEach (e :: es) X.env = (false, eval e X.env) :: starEach es X.env := by rfl) (hpl : (backTo pos (starEach es X.env)).any (·.1) = false := by rfl) :
    PE X (.Call (.Attribute (.Name B p1) "__init__" p2) (e :: es) [] pos) (tBI X.K newId bmB ta) := by
  refine ⟨fun pins s σ H Q I h => ?_⟩
  refine PySem.W.methodCall_KW (ld_blt I hg hm hbt ?_ hn1 hd1) hc
  obtain ⟨m, fr⟩ := I.fr
  refine PySem.W.method_type fr I.ok.mod.kin F.typ F.stub vV F.hand ?_
  show wpAny _ _ (callWith pos (Value.builtin initId) [] (backTo pos (starEach (e :: es) X.env)) []) _ _ _
  refine PyProof.Rows.callWith_method1 (thn (ha.run pos pins _ σ H _ (I.tok _) h) fun us s1 hh => ?_) he hpl
  obtain ⟨vs, H1, I1, r1, a, C, ws, rfl, hl, T, ea, q⟩ := hh
  cases r1 with
  | @cons _ u0 _ ur ra rw' =>
    obtain rfl : u0 = Value.ref a := ra
    have hlen : ur.length ≤ sizeLine := by
      rw [← Paired.length rw', sizeLine_eq]
      omega
    exact base_init T F I1 ea hlen fun s' J => ⟨.non, H1, J, rfl, q⟩
theorem ps_put (F : BF Bs newId initId bmB) (ho : PE X o to) (he : PE X e te) (hs : swapsWith e (some (.Attribute o f p')) pos.line X.env = pure false := by rfl) :
    PS X (.Assign [.Attribute o f p'] e pos) (tPF X.K newId bmB f to te) := by
  refine ⟨fun pins s σ H D I h => ?_⟩
  refine plainObj_wpAny_Assign_Attribute (thn (he.run pins s σ H _ I h) fun v s1 ⟨y, H1, I1, r1, q1⟩ => thn (ho.run pins s1 σ H1 _ I1 q1) fun u s2 hh => ?_) hs
  obtain ⟨x, H2, I2, r2, a, C, rfl, T, hno, ea, q⟩ := hh
  obtain rfl : u = Value.ref a := r2
  exact put_first T F I2 ea hno r1 fun dx s' n ne J => ⟨σ, _, J, q dx n ne⟩
end
end Xv
namespace Xv
open PySem PySem.Spec PyProof.Rows L2
section
variable {X : Cx} {k : Nat} {C fI : Addr} {fd : FuncData} {ps : List Str} {sp : Sp} {x kn : Str} {p pos kpos : Pos} {e : Expr} {es : List Expr} {te : TE} {ta : TA}
variable {newId initId Bs : String} {bmB : List Value}
end
def ExAt (H : Hp) (a C : Addr) (fs : List (Str × V)) : Prop := (fs = [] ∧ H a = some (exo a C none)) ∨ ∃ dx, H a = some (exo a C (some dx)) ∧ H dx = some (exd dx fs)
theorem ExAt.mono {H H' : Hp} {a C : Addr} {fs : List (Str × V)} (h : ExAt H a C fs) (e : Evl.Ex H H') : ExAt H' a C fs := by
  rcases h with ⟨h1, h2⟩ | ⟨dx, h1, h2⟩
  · exact .inl ⟨h1, e _ _ h2⟩
  · exact .inr ⟨dx, e _ _ h1, e _ _ h2⟩
def tGet (K : PySem.W.Frag) (f : Str) (te : TE) : TE := fun σ H Q => te σ H fun x H1 => ∃ (a C : Addr) (fs : List (Str × V)) (v : V),
  x = .ref a ∧ ExcC K C ∧ PySem.W.findIn K (.ref C) f = some none ∧ ExAt H1 a C fs ∧ fs.lookup f = some v ∧ Q v H1
theorem pe_get {X : Cx} {e : Expr} {te : TE} {pos : Pos} {f : Str} (he : PE X e te) (hb : attributeBase e f X.env (eval e X.env) = eval e X.env := by rfl) :
    PE X (.Attribute e f pos) (tGet X.K f te) := by
  refine ⟨fun pins s σ H Q I h => ?_⟩
  refine attr_of hb (thn (he.run pins s σ H _ I h) fun u s1 hh => ?_)
  obtain ⟨x, H1, I1, rx, a, C, fs, v, rfl, T, hno, hx, l, q⟩ := hh
  obtain rfl : u = Value.ref a := rx
  rcases hx with ⟨rfl, _⟩ | ⟨dd, ea, ed⟩
  · cases l
  obtain ⟨t1, ho⟩ := exo_at I1.hok ea
  obtain ⟨mA, hns, rel⟩ := exd_at I1.hok ed
  obtain ⟨od, hod, hl⟩ := lookIn_ns hns
  obtain ⟨u, hu, ru⟩ := RelO.some_of (v := v) (o := mA f) (by rw [← l]; exact rel f)
  have J : PySem.W.InstAt s1.heap a { cls := .ref C, dict := some dd, data := .fields #[.ref t1, .none, .none, .none, .bool false, .none] } C (some od) := ⟨ho, rfl, rfl, hod⟩
  exact HandSPX.exc_get I1.kIn J T.hg T.hk T.hs (PySem.W.findObj_own T.hd hno rfl (by rw [hl, hu])) (handed_of ru) ⟨v, H1, I1.tok _, ru, q⟩
end Xv
namespace PySem.W
open PySem PySem.Spec PySem.Calls PyProof.Rows
section
variable {prog : Program} {w : World} {A : Around} {E : Value → Shared → Prop} {s : Shared} {K : Frag} {x D : Addr} {ox : Obj} {od : Option Obj}
theorem xv_class {Q : Option Value → Shared → Prop} (T : L2.ExcC K D) (X : K.In s.heap) (J : InstAt s.heap x ox D od)
    (hf : findObj K D od "__class__" = some (.bind (.builtin "getset_descriptor.__get__") (.builtin "object.__class__")))
    (fin : Q (some (.ref D)) { s with toks := s.toks + 1 }) : wpAny (model prog w) A (getAttr? (.ref x) "__class__") Q E s := by
  obtain ⟨m, gn, dr, tn, sy⟩ := s
  have lT := J.type (M := model prog w)
  have lG := looks_findIn (M := model prog w) X T.hg
  have lK := looks_findIn (M := model prog w) X T.hk
  have lF := looks_find (M := model prog w) X J hf
  have isB : Looks (model prog w) m (isInstance (.ref x) (.type "BaseException")) true := lT.andThen (looks_subIn X T.hs)
  have n0 : (false && onTheHeap (Value.builtin "BaseException.__getattribute__")) = false := rfl
  have n2 : (Value.builtin "BaseException.__getattribute__" == Value.builtin "object.__getattribute__") = false := by decide +kernel
  have n1 : (onTheHeap (Value.ref D) && Value.builtin "BaseException.__getattribute__" == Value.builtin "object.__getattribute__") = false := by
    rw [n2]
    rfl
  unfold getAttr? getAttrBy? getAttrBy
  refine wpAny_bind (wpAny_mkText (wpAny_bind (wpAny_attempt (wpAny_holding (wpAny_bind (lT.at (wpAny_bind (lG.at ?_))))))))
  show wpAny _ _ (ite ((onTheHeap (Value.ref D) && Value.builtin "BaseException.__getattribute__" == Value.builtin "object.__getattribute__") = true) _ _) _ _ _
  rw [n1, if_neg Bool.false_ne_true]
  unfold getAttrByItsOwn hookBefore
  refine wpAny_bind ?_
  rw [if_pos (show onTheHeap (Value.ref D) = true from rfl)]
  refine lK.at ?_
  refine wpAny_bind (wpAny_attempt (wpAny_holding ?_))
  unfold callGetattribute
  rw [n0, if_neg Bool.false_ne_true]
  unfold boundAndCalled
  rw [PySem.F.excAttr_ValueError.ga.bind (.ref x)]
  refine wpAny_bind (wpAny_pure ?_)
  show wpAny _ _ (call (.builtin "BaseException.__getattribute__") [.ref x, .str "__class__" tn]) _ _ _
  refine wpAny_call (codeAny_call_builtin PySem.F.excAttr_ValueError.ga.plain PySem.F.entry_bexc_ga ?_)
  refine @check_slot (model prog w) _ _ ⟨m, gn, dr, tn + 1, sy⟩ "BaseException.__getattribute__" "BaseException" "__getattribute__"
    (.ref x) [.str "__class__" tn] [] _ (by decide +kernel) (by decide +kernel) isB (PySem.F.args_bexc_ga (.ref x) (.str "__class__" tn)) ?_
  unfold Builtin.«object.__getattribute__»
  refine wpAny_bind (wpAny_of_eq (a := ((Value.ref x : Value), [Value.str "__class__" tn])) (by first | rfl | (simp only [slotArgs]; rfl)) ?_)
  refine wpAny_bind (wpAny_pure (wpAny_bind (lT.at (wpAny_bind (lF.at ?_)))))
  show wpAny _ _ (holding [Value.builtin "object.__class__"] (call (.builtin "getset_descriptor.__get__") [.builtin "object.__class__", .ref x, .ref D]) >>= ret) _ _ _
  refine wpAny_bind (wpAny_holding (wpAny_call (class_get (s := ⟨m, gn, dr, tn + 1, sy⟩) (ox := ox) (od := od) X J T.hm ?_)))
  refine wpAny_pure ?_
  show wpAny _ _ (handedOut (.ref D)) _ _ _
  rw [handedOut_of (v := .ref D) rfl]
  first
    | exact wpAny_pure (wpAny_pure fin)
    | exact wpAny_pure fin
    | exact wpAny_pure (wpAny_bind (wpAny_pure (wpAny_pure fin)))
theorem xv_kit (T : L2.ExcC K D) (hf : findObj K D od "__class__" = some (.bind (.builtin "getset_descriptor.__get__") (.builtin "object.__class__"))) :
    KitX K (.ref x) (.ref D) (fun h => InstAt h x ox D od) where
  ty := fun _ _ _ J => J.type
  it := fun M h X _ => by
    have z := handS_kitx_exc (K := K) (x := x) (D := D) (ox := ox) T.hg T.hk T.hs T.hd T.ha T.hn T.ht T.hm
    obtain ⟨cd, hc, _⟩ := any_some T.hd
    unfold clsIn at hc
    split at hc
    · rename_i c1 d1 cd1 sl1 ho
      intro A' Q' E' s' k q
      unfold isType loadHead
      exact wpAny_bind (wpAny_loadPart (k _ _ (X _ _ ho)) (wpAny_pure q))
    · cases hc
  ne := fun h tp dd its n sl X htp => by
    obtain ⟨cd, hc, _⟩ := any_some T.hd
    refine Bool.eq_false_iff.mpr fun q => ?_
    obtain rfl : D = tp := Value.ref.inj (beq_iff_eq.mp q)
    unfold clsIn at hc
    split at hc
    · rename_i c1 d1 cd1 sl1 ho
      have z := (X _ _ ho).symm.trans htp
      cases z
    · cases hc
  ca := fun X J k => xv_class T X J hf k
end
end PySem.W
namespace Xv
open PySem PySem.Spec PyProof.Rows L2
section
variable {X : Cx}
theorem ex_inst {pins : List (Addr × Obj)} {σ : L2.St} {H : Hp} {s : Shared} {a C : Addr} {fs : List (Str × V)} (I : Inv X pins σ H s) (T : ExcC X.K C) (h : ExAt H a C fs) :
    ∃ ox od, PySem.W.InstAt s.heap a ox C od ∧ PySem.W.findObj X.K C od "__class__" = some (.bind (.builtin "getset_descriptor.__get__") (.builtin "object.__class__")) := by
  have hc : (PySem.W.clsIn X.K C).isSome = true := by
    obtain ⟨cd, hc, _⟩ := PySem.W.any_some T.hd
    rw [hc]
    rfl
  rcases h with ⟨_, ea⟩ | ⟨dx, ea, ed⟩
  · obtain ⟨t1, ho⟩ := exo_at I.hok ea
    exact ⟨_, none, ⟨ho, rfl, rfl, trivial⟩, PySem.W.findObj_dataN hc T.ha T.hn T.ht⟩
  · obtain ⟨t1, ho⟩ := exo_at I.hok ea
    obtain ⟨mA, hns, rel⟩ := exd_at I.hok ed
    obtain ⟨od, hod, hl⟩ := lookIn_ns hns
    exact ⟨_, some od, ⟨ho, rfl, rfl, hod⟩, PySem.W.findObj_data hc T.ha T.hn T.ht⟩
def rIsX (K : PySem.W.Frag) : List V → Hp → VK → Prop := fun xs H Q => ∃ (a C : Addr) (fs : List (Str × V)) (c : V) (u : Value) (b : Bool),
  xs = [.ref a, c] ∧ ClsV c u ∧ ExcC K C ∧ ExAt H a C fs ∧ PySem.W.kitOne K (.ref C) u = some b ∧ Q (.bl b) H
def rIsXT (K : PySem.W.Frag) : List V → Hp → VK → Prop := fun xs H Q => ∃ (a C tp : Addr) (fs : List (Str × V)) (cs : List V) (us : List Value) (b : Bool),
  xs = [.ref a, .ref tp] ∧ H tp = some (.tup cs) ∧ Paired ClsV cs us ∧ ExcC K C ∧ ExAt H a C fs ∧ PySem.W.kitAny K (.ref C) us = some b ∧ Q (.bl b) H
theorem call_isX : CallR X (.builtin "isinstance") (rIsX X.K) := by
  intro pins s σ H xs us Q I r h
  obtain ⟨a, C, fs, c, u, b, rfl, k, T, hx, e, q⟩ := h
  obtain ⟨u1, u2, rfl, r1, r2⟩ := vals2 r
  obtain rfl : u1 = Value.ref a := r1
  have e2 := k.eq r2
  subst e2
  obtain ⟨ox, od, J, hf⟩ := ex_inst I T hx
  exact PySem.W.kia_one (PySem.W.xv_kit T hf) I.kIn J e (fun z => nomatch z) fun tk => ⟨.bl b, H, I.tok tk, rfl, q⟩
theorem call_isXT : CallR X (.builtin "isinstance") (rIsXT X.K) := by
  intro pins s σ H xs us Q I r h
  obtain ⟨a, C, tp, fs, cs, ws, b, rfl, hT, k, T, hx, e, q⟩ := h
  obtain ⟨u1, u2, rfl, r1, r2⟩ := vals2 r
  obtain rfl : u1 = Value.ref a := r1
  cases (show u2 = Value.ref tp from r2)
  obtain ⟨ox, od, J, hf⟩ := ex_inst I T hx
  obtain ⟨_, its, rv, o, h1, h2, n, h3⟩ := (show ObjOk X.prog X.w H s.heap tp (.tup cs) from I.hok tp _ hT)
  have e3 := ClsV.all k rv
  subst e3
  obtain ⟨oc, odd, dt, sl⟩ := o
  simp only at h2 h3
  subst h2 h3
  exact PySem.W.kia_tup (PySem.W.xv_kit T hf) I.kIn J h1 e (fun z => nomatch z) fun tk => ⟨.bl b, H, I.tok tk, rfl, q⟩
end
end Xv
namespace Xg
open PySem PySem.Spec PyProof.Rows L2
theorem pe_or {X : Cx} {e : Expr} {t u : TE} (a : PE X e t) (b : PE X e u) : PE X e (fun σ H Q => t σ H Q ∨ u σ H Q) :=
  ⟨fun pins s σ H Q I h => h.elim (a.run pins s σ H Q I) (b.run pins s σ H Q I)⟩
theorem pg_or {X : Cx} {e : Expr} {t u : TG} (a : PG X e t) (b : PG X e u) : PG X e (fun v σ H Q => t v σ H Q ∨ u v σ H Q) :=
  ⟨fun pins s σ H v z Q I r h => h.elim (a.run pins s σ H v z Q I r) (b.run pins s σ H v z Q I r)⟩
theorem op_or {X : Cx} {f : Value → Value → Sem Value} {r1 r2 : R2} (a : OpR X f r1) (b : OpR X f r2) : OpR X f (fun x y H Q => r1 x y H Q ∨ r2 x y H Q) :=
  fun pins s σ H x y v u Q I rx ry h => h.elim (a pins s σ H x y v u Q I rx ry) (b pins s σ H x y v u Q I rx ry)
def KwOnly (K : PySem.W.Frag) (fd : FuncData) (ps ks : List Str) (g : {α : Type} → List α → List α) : Prop :=
  ∀ (s : Shared) (ws : List Value), K.In s.heap → ws.length = ks.length → BindsTo s fd ⟨[], ks.zip ws⟩ (ps.zip (g ws))
structure FnG (P : Program) (w : World) (K : PySem.W.Frag) (mg : Str → Option Value) (base : Heap) (k : Nat) (f : Addr) (fd : FuncData) (ps : List Str) (sp : Sp) : Prop where
  len : ∀ vs H Q, sp vs H Q E0 → vs.length = ps.length
  run : ∀ (A : Around) (outer : List Env) (s : Shared) (H : Hp) (args : Args) (us : List Value) (vs : List V) (Q : VK), A.guards = some [] → Room k A → Env0 P w K mg base A outer s H →
    BindsTo s fd args (ps.zip us) → Vals vs us → sp vs H Q E0 → codeAny (model P w) A (.call (.ref f) args) (CR CX0 outer P w H s Q E0) s
section
variable {P : Program} {w : World} {K : PySem.W.Frag} {mg : Str → Option Value} {base : Heap}
theorem okG {x qual : Str} {st : Stmt} {f : Addr} {fd : FuncData} {N ps : List Str} {k : Nat} {sp : Sp} (F : Fun K x qual st f fd) (S : FnScope N ps (defScope st)) (len : ∀ vs H Q, sp vs H Q E0 → vs.length = ps.length)
    (hbody : ∀ (cdv : Value) (A : Around) (outer : List Env) (s : Shared) (H : Hp) (vs : List V) (Q : VK), (A.deeper (envOfC qual (defScope st) s.heap.objs.size f cdv)).guards = some [] →
      Room k (A.deeper (envOfC qual (defScope st) s.heap.objs.size f cdv)) → sp vs H Q E0 →
      ∃ t, PSs (cxOf CX0 P w K mg base N qual (defScope st) f cdv A outer s H E0).nox (defBody st) t ∧ t { nx := fun _ H' => Q .non H', rt := Q } (L2.start N vs) H) :
    FnG P w K mg base (k + 1) f fd ps sp := by
  obtain ⟨oc, od, kV, doc, pm, an, cdv, ct, osl, rfl, lk, hcd⟩ := F.ex
  refine ⟨len, fun A outer s H args us vs Q hG hr e0 hb r hsp => ?_⟩
  have inH : K.In s.heap := e0.mod.kin.keeps fun c u z => (e0.bs c u z).1
  have noL : s.heap.NoLimit := e0.mod.nolimit.keeps fun c u z => (e0.bs c u z).1
  refine codeAny_call_function hr.depth (inH _ _ lk) rfl S.co S.gen rfl (PySem.W.codeRec_of inH hcd) (hb _ _ _ _ ?_)
  refine wpAny_newFunctionEnv_cells S.kind (fun ⟨n, v⟩ hy => ?_) fun env he s1 ic => ?_
  · rcases S.par n (List.of_mem_zip hy).1 with z | z
    · exact .inl z
    · exact .inr ⟨z, PySem.W.cellsFrom_some _ _ _ (.inl z)⟩
  subst he
  refine ⟨noL.keeps ic.toInCall.keep, codeAny_func ?_⟩
  obtain ⟨t, ht0, hq⟩ := hbody cdv A outer s H vs Q hG (hr.deeper _) hsp
  have ht := ht0.nox
  have J0 : Inv (cxOf CX0 P w K mg base N qual (defScope st) f cdv A outer s H E0) [] (L2.start N vs) H s1 := inv_start S hr.hd e0 (len _ _ _ hsp) r ic
  refine wpAny_mono (ht.run [] s1 (L2.start N vs) H _ J0 hq) (fun fl s' hs => ?_) fun e s' hs => hs
  cases fl with
  | ret u =>
    obtain ⟨v, σ', H', J, rv, q⟩ := hs
    exact ⟨v, H', J.os, J.bare, J.base, J.hok, rv, q⟩
  | next =>
    obtain ⟨σ', H', J, q⟩ := hs
    exact ⟨V.non, H', J.os, J.bare, J.base, J.hok, rfl, q⟩
  | brk =>
    obtain ⟨_, _, _, q⟩ := hs
    exact False.elim q
  | cont =>
    obtain ⟨_, _, _, q⟩ := hs
    exact False.elim q
def tCallG (sp : Sp) (t : TA) : TE := fun σ H Q => t σ H fun vs H1 => sp vs H1 Q E0
theorem pe_callG {X : Cx} {k : Nat} {f : Addr} {fd : FuncData} {ps : List Str} {sp : Sp} {x : Str} {p pos : Pos} {e : Expr} {es : List Expr} {t : TA} (F : FnG X.prog X.w X.K X.mg X.base k f fd ps sp) (hG : X.A.guards = some []) (hr : Room k X.A)
    (hg : Gl X x) (hm : X.mg x = some (.ref f)) (hk : PySem.W.keepIn X.K (.ref f) = true) (hb : L2.Binds X.K fd ps []) (ha : PA X (e :: es) t) (hdb : (x == ("__debug__" : Str)) = false := by decide)
    (he : starEach (e :: es) X.env = (false, eval e X.env) :: starEach es X.env := by rfl) (hpl : (backTo pos (starEach es X.env)).any (·.1) = false := by rfl) :
    PE X (.Call (.Name x p) (e :: es) [] pos) (tCallG sp t) := by
  refine ⟨fun pins s σ H Q I h => ?_⟩
  refine wpAny_Call_Name_kw (ld_glob I hg hm ?_ hdb)
  refine PySem.W.callWith_K (h₀ := X.base) I.ok.mod.kin hk (thn (ha.run pos pins s σ H _ I h) fun us s1 ⟨vs, H1, I1, r, q⟩ => ⟨I1.kIn, ?_⟩) he hpl
  have hb1 := hb s1 us I1.kIn (by rw [List.append_nil, ← r.length]; exact F.len _ _ _ q)
  rw [List.append_nil] at hb1
  refine wpAny_call (codeAny_mono (F.run X.A X.stack s1 H1 ⟨us, []⟩ us vs Q hG hr I1.env0 hb1 r q) fun res s' hq => ?_)
  cases res with
  | error er => exact hq.elim
  | ok fl =>
    cases fl with
    | ret u => exact I1.after hq
    | next => exact False.elim hq
    | brk => exact False.elim hq
    | cont => exact False.elim hq
end
end Xg
namespace Ex
open PySem PySem.Spec PyProof.Rows L2 Xv
def ca (K : PySem.W.Frag) (x : Str) : Addr := match PySem.W.nsIn K mainGlobals x with
  | some (some (.ref C)) => C
  | _ => 0
theorem ca_of {K : PySem.W.Frag} {x : Str} {C : Addr} (h : PySem.W.nsIn K mainGlobals x = some (some (.ref C))) : ca K x = C := by
  unfold ca
  rw [h]
def exg (a : Addr) (cls : Value) (d : Option Addr) : HO := .ext fun h => ∃ (oe : Obj) (vs : Array Value), h.get? a = some oe ∧ Zc cls d oe ∧ oe.data = .fields vs
theorem exg_ok {P : Program} {w : World} {H : Hp} {h : Heap} {a : Addr} {cls : Value} {d : Option Addr} {oe : Obj} {vs : Array Value} (e : h.get? a = some oe) (z : Zc cls d oe) (hd : oe.data = .fields vs) : ObjOk P w H h a (exg a cls d) :=
  ⟨⟨oe, vs, e, z, hd⟩, ⟨oe, e⟩, fun _ _ ⟨o, v, q, r⟩ k => ⟨o, v, k o q, r⟩⟩
theorem exg_at {P : Program} {w : World} {H : Hp} {h : Heap} {a : Addr} {cls : Value} {d : Option Addr} (hok : HOk P w H h) (e : H a = some (exg a cls d)) : ∃ oe vs, h.get? a = some oe ∧ Zc cls d oe ∧ oe.data = .fields vs := by
  obtain ⟨z, _⟩ := hok a _ e
  exact z
def ExAt (H : Hp) (a C : Addr) (fs : List (Str × V)) : Prop := (fs = [] ∧ H a = some (exg a (.ref C) none)) ∨ ∃ dx, H a = some (exg a (.ref C) (some dx)) ∧ H dx = some (.xd fs)
theorem ExAt.mono {H H' : Hp} {a C : Addr} {fs : List (Str × V)} (h : ExAt H a C fs) (e : Evl.Ex H H') : ExAt H' a C fs := by
  rcases h with ⟨h1, h2⟩ | ⟨dx, h1, h2⟩
  · exact .inl ⟨h1, e _ _ h2⟩
  · exact .inr ⟨dx, e _ _ h1, e _ _ h2⟩
def tGet (K : PySem.W.Frag) (f : Str) (te : TE) : TE := fun σ H Q => te σ H fun x H1 => ∃ (a C : Addr) (fs : List (Str × V)) (v : V),
  x = .ref a ∧ ExcC K C ∧ PySem.W.findIn K (.ref C) f = some none ∧ ExAt H1 a C fs ∧ fs.lookup f = some v ∧ Q v H1
theorem pe_get {X : Cx} {e : Expr} {te : TE} {pos : Pos} {f : Str} (he : PE X e te) (hb : attributeBase e f X.env (eval e X.env) = eval e X.env := by rfl) :
    PE X (.Attribute e f pos) (tGet X.K f te) := by
  refine ⟨fun pins s σ H Q I h => ?_⟩
  refine attr_of hb (thn (he.run pins s σ H _ I h) fun u s1 hh => ?_)
  obtain ⟨x, H1, I1, rx, a, C, fs, v, rfl, T, hno, hx, l, q⟩ := hh
  obtain rfl : u = Value.ref a := rx
  rcases hx with ⟨rfl, _⟩ | ⟨dd, ea, ed⟩
  · cases l
  obtain ⟨oe, vs, ho, hz, hd⟩ := exg_at I1.hok ea
  obtain ⟨mA, hns, rel⟩ := (show ObjOk X.prog X.w H1 s1.heap dd (.xd fs) from I1.hok dd _ ed)
  obtain ⟨od, hod, hl⟩ := lookIn_ns hns
  obtain ⟨u, hu, ru⟩ := RelO.some_of (v := v) (o := mA f) (by rw [← l]; exact rel f)
  have J : PySem.W.InstAt s1.heap a oe C (some od) := ⟨ho, hz.1, by unfold PySem.W.notCls; rw [hd] <;> rfl, by rw [hz.2]; exact hod⟩
  exact HandSPX.exc_get I1.kIn J T.hg T.hk T.hs (PySem.W.findObj_own T.hd hno rfl (by rw [hl, hu])) (handed_of ru) ⟨v, H1, I1.tok _, ru, q⟩
theorem ex_inst {X : Cx} {pins : List (Addr × Obj)} {σ : L2.St} {H : Hp} {s : Shared} {a C : Addr} {fs : List (Str × V)} (I : Inv X pins σ H s) (T : ExcC X.K C) (h : ExAt H a C fs) :
    ∃ ox od, PySem.W.InstAt s.heap a ox C od ∧ PySem.W.findObj X.K C od "__class__" = some (.bind (.builtin "getset_descriptor.__get__") (.builtin "object.__class__")) := by
  have hc : (PySem.W.clsIn X.K C).isSome = true := by
    obtain ⟨cd, hc, _⟩ := PySem.W.any_some T.hd
    rw [hc]
    rfl
  rcases h with ⟨_, ea⟩ | ⟨dx, ea, ed⟩
  · obtain ⟨oe, vs, ho, hz, hd⟩ := exg_at I.hok ea
    exact ⟨oe, none, ⟨ho, hz.1, by unfold PySem.W.notCls; rw [hd] <;> rfl, by rw [hz.2]; trivial⟩, PySem.W.findObj_dataN hc T.ha T.hn T.ht⟩
  · obtain ⟨oe, vs, ho, hz, hd⟩ := exg_at I.hok ea
    obtain ⟨mA, hns, rel⟩ := (show ObjOk X.prog X.w H s.heap dx (.xd fs) from I.hok dx _ ed)
    obtain ⟨od, hod, hl⟩ := lookIn_ns hns
    exact ⟨oe, some od, ⟨ho, hz.1, by unfold PySem.W.notCls; rw [hd] <;> rfl, by rw [hz.2]; exact hod⟩, PySem.W.findObj_data hc T.ha T.hn T.ht⟩
def rIsX (K : PySem.W.Frag) : List V → Hp → VK → Prop := fun xs H Q => ∃ (a C : Addr) (fs : List (Str × V)) (c : V) (u : Value) (b : Bool),
  xs = [.ref a, c] ∧ ClsV c u ∧ ExcC K C ∧ ExAt H a C fs ∧ PySem.W.kitOne K (.ref C) u = some b ∧ Q (.bl b) H
def rIsXT (K : PySem.W.Frag) : List V → Hp → VK → Prop := fun xs H Q => ∃ (a C tp : Addr) (fs : List (Str × V)) (cs : List V) (us : List Value) (b : Bool),
  xs = [.ref a, .ref tp] ∧ H tp = some (.tup cs) ∧ Paired ClsV cs us ∧ ExcC K C ∧ ExAt H a C fs ∧ PySem.W.kitAny K (.ref C) us = some b ∧ Q (.bl b) H
theorem call_isX {X : Cx} : CallR X (.builtin "isinstance") (rIsX X.K) := by
  intro pins s σ H xs us Q I r h
  obtain ⟨a, C, fs, c, u, b, rfl, k, T, hx, e, q⟩ := h
  obtain ⟨u1, u2, rfl, r1, r2⟩ := vals2 r
  obtain rfl : u1 = Value.ref a := r1
  have e2 := k.eq r2
  subst e2
  obtain ⟨ox, od, J, hf⟩ := ex_inst I T hx
  exact PySem.W.kia_one (PySem.W.xv_kit T hf) I.kIn J e (fun z => nomatch z) fun tk => ⟨.bl b, H, I.tok tk, rfl, q⟩
theorem call_isXT {X : Cx} : CallR X (.builtin "isinstance") (rIsXT X.K) := by
  intro pins s σ H xs us Q I r h
  obtain ⟨a, C, tp, fs, cs, ws, b, rfl, hT, k, T, hx, e, q⟩ := h
  obtain ⟨u1, u2, rfl, r1, r2⟩ := vals2 r
  obtain rfl : u1 = Value.ref a := r1
  cases (show u2 = Value.ref tp from r2)
  obtain ⟨ox, od, J, hf⟩ := ex_inst I T hx
  obtain ⟨_, its, rv, o, h1, h2, n, h3⟩ := (show ObjOk X.prog X.w H s.heap tp (.tup cs) from I.hok tp _ hT)
  have e3 := ClsV.all k rv
  subst e3
  obtain ⟨oc, odd, dt, sl⟩ := o
  simp only at h2 h3
  subst h2 h3
  exact PySem.W.kia_tup (PySem.W.xv_kit T hf) I.kIn J h1 e (fun z => nomatch z) fun tk => ⟨.bl b, H, I.tok tk, rfl, q⟩
section
variable {X : Cx} {pins : List (Addr × Obj)} {σ : L2.St} {H : Hp} {s : Shared}
theorem promote {a : Addr} {o : HO} (I : Inv X pins σ H s) (na : H a = none) (nL : a ≠ X.env.locals) (n0 : X.s_0.heap.get? a = none) (np : ∀ p ∈ X.pn ++ pins, p.1 ≠ a) (nc : ∀ v, ¬ s.heap.IsCell a v)
    (new : ObjOk X.prog X.w (upd H a o) s.heap a o) : Inv X pins σ (upd H a o) s := by
  have ne0 : ∀ {b : Addr} {o : Obj}, X.s_0.heap.get? b = some o → b ≠ a := fun {b o} e z => by
    rw [z, n0] at e
    cases e
  have neH : ∀ {b : Addr} {u : HO}, H b = some u → b ≠ a := fun {b u} e => ne_of_none e na
  refine ⟨I.ok, I.os, I.bare, ⟨I.base.keep, I.base.slot, fun b o e n hx => ?_, I.base.there, fun b xs e => ?_, fun b o u e => ?_, fun b ps e => ?_⟩, I.loc, I.cell, ?_, fun x c e => ?_, fun p hp => ?_, fun b u e => ?_, I.len⟩
  · rw [upd_ne (ne0 e)]
    exact I.base.free b o e n hx
  · have q := I.base.tups b xs e
    rw [upd_ne (neH q)]
    exact q
  · have q := I.base.frzs b o u e
    rw [upd_ne (neH q)]
    exact q
  · obtain ⟨m, q⟩ := I.base.tbls b ps e
    exact ⟨m, by rw [upd_ne (neH q)]; exact q⟩
  · rw [upd_ne (Ne.symm nL)]
    exact I.free
  · have : c ≠ a := fun z => by
      obtain ⟨v, q⟩ := I.cell x c e
      exact nc v (z ▸ q)
    rw [upd_ne this]
    exact I.freeC x c e
  · obtain ⟨e, n, ne, nf, d⟩ := I.pin p hp
    exact ⟨e, by rw [upd_ne (np p hp)]; exact n, ne, nf, d⟩
  · by_cases hb : b = a
    · subst hb
      rw [upd_same] at e
      cases e
      exact new
    · rw [upd_ne hb] at e
      exact (I.hok b u e).stay (fun c v _ q => q) (fun c q => by rw [upd_ne (neH q)]; exact q) fun c xs q => by rw [upd_ne (neH q)]; exact q
end
def HTest (X : Cx) (ty : Expr) (cls : Value) (b : Bool) : Prop := ∀ (a : Addr) (pn : List (Addr × Obj)) (A : Around) (E : Value → Shared → Prop) (Q : Bool → Shared → Prop) (s : Shared) (σ : L2.St) (H : Hp),
  Inv (X.suite a pn) [] σ H s → PySem.W.Looks (model X.prog X.w) s.heap (typeOf (.ref a)) cls →
  (∀ h', (∀ q o, s.heap.get? q = some o → h'.get? q = some o) → Q b { s with heap := h' }) →
  wpAny (model X.prog X.w) (X.A.mark (some (.ref a))) (eval ty X.env) (fun c s₁ => wpAny (model X.prog X.w) A (excMatches (.ref a) c) Q E s₁) E s
theorem flying_keeps {B h h' : Heap} {l : List Env} {e : Addr} {Z : Obj → Prop} (x : HandSPX.FlyingZ B l e Z h) (k : ∀ b o, h.get? b = some o → h'.get? b = some o) : HandSPX.FlyingZ B l e Z h' := by
  obtain ⟨k1, k2, k3, oe, vs, T, oT, ts, he, hz, hd, h1, h2, h3, h4, h5, h6⟩ := x
  exact ⟨fun b o q => k _ _ (k1 b o q), k2, Heap.FunFrames.of_keeps (fun b o e _ => ⟨o, k b o e, rfl⟩) k3, oe, vs, T, oT, ts, k _ _ he, hz, hd, h1, h2, h3, k _ _ h4, h5, h6⟩
def wKeep (ok : Value → Prop) (i j : Nat) (D : Ends) : WX := fun cls d σ H => ok cls ∧ ∀ a, H a = none → D.nx (((σ.set i (some (.ref a))).set j (some (.ref a))).set i none) (upd H a (exg a cls d))
section
variable {X : Cx} {n m : Str} {i j : Nat} {body : List Stmt} {ty : Expr} {mp np ap pos pos' : Pos} {tb : WX → TS} {ok : Value → Prop}
theorem ps_tryK (hs : X.stack = X.env :: X.outer) (hf : X.env.frame = some X.env.locals) (hex : X.ex = []) (hN : X.N.Nodup) (hi : X.N[i]? = some n) (hln : X.env.kindOf n = some .local)
    (ht : ∀ cls, ok cls → HTest X ty cls true)
    (hb : ∀ (W : WX) (pn : List (Addr × Obj)) (xe : Value → Shared → Prop), Takes (X.tr pn xe) W → PassesOwn (model X.prog X.w) X.A X.env xe → PSs (X.tr pn xe) body (tb W))
    (hsu : ∀ (a : Addr) (pn : List (Addr × Obj)), PSs (X.suite a pn) [.Assign [.Name m mp] (.Name n np) ap] (tAsg (tVar i) (gName j))) (il : ∀ (pins : List (Addr × Obj)) (σ : L2.St) (H : Hp) (s : Shared), Inv X pins σ H s → i < σ.length) :
    PS X (.Try body [.ExceptHandler (some ty) (some n) [.Assign [.Name m mp] (.Name n np) ap] pos'] [] [] pos) (fun D σ H => tb (wKeep ok i j D) D σ H) := by
  refine ⟨fun pins s σ H D I h => ?_⟩
  have ok0 := I.ok
  have hfr : X.A.frames = some (X.env :: X.outer) := by rw [ok0.frames, hs]
  have hloc : Loc X.env.scope n := .inl hln
  refine wpAny_Try_except ?_
  refine wpAny_mono ((hb (wKeep ok i j D) (X.pn ++ pins) (fun e s₁ => wpAny (model X.prog X.w) X.A (noteFrame e X.env) (fun _ s₂ => wpAny (model X.prog X.w) X.A (setFlight e none) (fun _ s₃ =>
    wpAny (model X.prog X.w) X.A (handleBy e X.env [.ExceptHandler (some ty) (some n) [.Assign [.Name m mp] (.Name n np) ap] pos']) (SP X pins D) X.xe s₃) X.xe s₂) X.xe s₁) (fun u s' xx => ?_) PassesOwn.looking).run [] s σ H D (I.toTry _) h) (fun f s1 hsp => ?_) (fun e s1 he => he)
  · obtain ⟨a, B, sI, pins', σ', H', cls, d, rfl, J', nb, up, sky, na, os, ag, hok, hyes⟩ := xx
    have J : Inv X pins σ' H' sI := J'.ofTry ok0
    have sky' : Sky B (X.env :: X.outer) a (Zc cls d) X.env.locals s'.heap := by rw [← hs]; exact sky
    show wpAny (model X.prog X.w) X.A (noteFrame (.ref a) X.env) _ _ _
    refine Sky.land Zc.steady hfr hf sky' fun h3 fl3 up3 => ?_
    have J3 : Inv X pins σ' H' { s' with heap := h3 } := J.landed nb fl3.1 (up.trans up3) os ag
    obtain ⟨oe3, vs3, he3, hz3, hd3⟩ := fl3.there
    have nfr : a ∉ frs (X.env :: X.outer) := fun hm => by
      obtain ⟨_, o', e', hnf⟩ := fl3.2.2.1.mem hm
      rw [he3] at e'
      cases e'
      exact hnf _ hd3
    have nL : a ≠ X.env.locals := fun z => nfr (List.mem_filterMap.mpr ⟨X.env, List.mem_cons_self, by rw [hf, z]⟩)
    have nF : a ∉ X.fs := fun hm => by
      obtain ⟨e, he, q⟩ := List.mem_filterMap.mp hm
      exact nfr (List.mem_filterMap.mpr ⟨e, List.mem_cons_of_mem _ he, q⟩)
    have nfs : a ∉ frs X.stack := by rw [hs]; exact nfr
    have noI : ∀ {b : Addr} {o : Obj}, sI.heap.get? b = some o → b ∉ frs X.stack → b ≠ a := fun {b o} e nf z => by
      have q := nb b o e nf
      rw [z, fl3.2.1] at q
      cases q
    have n0 : X.s_0.heap.get? a = none := by
      cases e : X.s_0.heap.get? a with
      | none => rfl
      | some o =>
        obtain ⟨o', e'⟩ := J.base.there a o e (by rw [hex]; exact fun z => nomatch z)
        exact absurd rfl (noI e' nfs)
    have np' : ∀ p ∈ X.pn ++ pins, p.1 ≠ a := fun p hp => by
      obtain ⟨e, nn, ne, nf, dd⟩ := J.pin p hp
      exact noI e fun z => by
        rcases List.mem_cons.mp (J.stkSub _ z) with z | z
        · exact ne z
        · exact nf z
    have S3 := J3.suite he3 hd3 na nL nF
    refine wpAny_handleBy_cons (codeAny_handlers_test ?_) (by intro q; cases q)
    have LT : PySem.W.Looks (model X.prog X.w) h3 (typeOf (.ref a)) cls := fun A Q E s k q => wpAny_typeOf_ref (k _ _ he3) (by rw [hz3.1]; exact q)
    refine ht cls hok a _ _ _ _ _ _ _ S3 LT fun h3' k3 => ?_
    refine codeAny_handlers_suite_as ?_
    have J3' : Inv X pins σ' H' { s' with heap := h3' } := J3.kept (t' := s'.toks) k3
    refine HandSPX.lands_againZ (flying_keeps fl3 k3) fun h4 fl4 up4 => ?_
    have J4 : Inv X pins σ' H' { s' with heap := h4 } := J.landed nb fl4.1 (((up.trans up3).trans (Heap.UpToSlots.of_keeps k3)).trans up4) os ag
    obtain ⟨oe4, vs4, he4, hz4, hd4⟩ := fl4.there
    have S4 := J4.suite he4 hd4 na nL nF
    refine store_ok (X := X.suite a ((a, oe4) :: (X.pn ++ pins))) (v := .ref a) S4 hN hi hloc rfl (fun s5 S5 => ?_) (.inr hln)
    have hw : tAsg (tVar i) (gName j) { nx := fun σ6 H6 => σ6 = (σ'.set i (some (.ref a))).set j (some (.ref a)) ∧ H6 = H', rt := fun _ _ => False } (σ'.set i (some (.ref a))) H' := by
      have l : i < σ'.length := il _ _ _ _ J
      exact ⟨.ref a, by rw [List.getElem?_set_self l], rfl, rfl⟩
    refine wpAny_mono ((hsu a ((a, oe4) :: (X.pn ++ pins))).run [] s5 _ H' _ S5 hw) (fun f s6 hsp => ?_) (fun _ _ z => False.elim z)
    cases f with
    | next =>
      obtain ⟨σ6, H6, S6, rfl, rfl⟩ := hsp
      obtain ⟨he6, n6, _, _, ncell⟩ := S6.pin (a, oe4) (List.mem_append_left _ List.mem_cons_self)
      have J6 := S6.unsuite ok0
      have J7 := promote (o := exg a cls d) J6 n6 nL n0 np' (fun v ⟨o, e, z⟩ => by
        rw [he6] at e
        cases e
        exact ncell v z) (exg_ok he6 hz4 hd4)
      exact gone_ok J7 hN hi hln fun s8 J8 => ⟨_, _, J8, hyes a na⟩
    | brk => exact (let ⟨_, _, _, q⟩ := hsp; q.elim)
    | cont => exact (let ⟨_, _, _, q⟩ := hsp; q.elim)
    | ret u => exact (let ⟨_, _, _, _, _, q⟩ := hsp; q.elim)
  · cases f with
    | next =>
      obtain ⟨σ', H', J', q⟩ := hsp
      exact wpAny_execs_nil ⟨σ', H', J'.ofTry ok0, q⟩
    | brk =>
      obtain ⟨σ', H', J', q⟩ := hsp
      exact ⟨σ', H', J'.ofTry ok0, q⟩
    | cont =>
      obtain ⟨σ', H', J', q⟩ := hsp
      exact ⟨σ', H', J'.ofTry ok0, q⟩
    | ret u =>
      obtain ⟨v, σ', H', J', r, q⟩ := hsp
      exact ⟨v, σ', H', J'.ofTry ok0, r, q⟩
end
end Ex
namespace Dv
open PySem PySem.Spec PyProof.Rows L2
open Classical
abbrev LIM : Nat := 900000000
def isT : HO → Bool
  | .tbl _ => true
  | _ => false
theorem isT_ne {o : HO} (h : isT o = false) : ∀ ps, o ≠ .tbl ps := fun ps e => by
  subst e
  cases h
theorem ne_isT {o : HO} (h : ∀ ps, o ≠ .tbl ps) : isT o = false := by
  cases o <;> first | rfl | exact absurd rfl (h _)
noncomputable def rm (H : Hp) (S : Addr → Prop) : Hp := fun a => if S a ∨ ∃ ps, H a = some (.tbl ps) then none else H a
theorem rm_some {H : Hp} {S : Addr → Prop} {a : Addr} {o : HO} (h : rm H S a = some o) : ¬ S a ∧ H a = some o := by
  unfold rm at h
  split at h
  · cases h
  · rename_i n
    exact ⟨fun z => n (.inl z), h⟩
theorem rm_nt {H : Hp} {S : Addr → Prop} {a : Addr} {o : HO} (h : rm H S a = some o) : isT o = false := by
  unfold rm at h
  split at h
  · cases h
  · rename_i n
    refine ne_isT fun ps e => n (.inr ⟨ps, ?_⟩)
    rw [← e]
    exact h
theorem rm_in {H : Hp} {S : Addr → Prop} {a : Addr} {o : HO} (n : ¬ S a) (h : H a = some o) (t : isT o = false := by rfl) : rm H S a = some o := by
  unfold rm
  rw [if_neg fun z => z.elim n fun ⟨ps, e⟩ => isT_ne t ps (Option.some.inj (h.symm.trans e))]
  exact h
theorem rm_le {H : Hp} {S : Addr → Prop} : Evl.Ex (rm H S) H := fun a o h => (rm_some h).2
theorem rm_mono {H H' : Hp} {S : Addr → Prop} (e : ∀ a o, ¬ S a → isT o = false → H a = some o → H' a = some o) : Evl.Ex (rm H S) (rm H' S) := fun a o h => by
  obtain ⟨n, g⟩ := rm_some h
  exact rm_in n (e a o n (rm_nt h) g) (rm_nt h)
theorem rm_sub {H : Hp} {S T : Addr → Prop} (h : ∀ a, T a → S a) : Evl.Ex (rm H S) (rm H T) := fun a o g => by
  obtain ⟨n, g'⟩ := rm_some g
  exact rm_in (fun z => n (h a z)) g' (rm_nt g)
theorem rm_ex {H H' : Hp} {S : Addr → Prop} (e : Evl.Ex H H') : Evl.Ex (rm H S) (rm H' S) := rm_mono fun a o _ _ h => e a o h
mutual
inductive Da (K : PySem.W.Frag) (H : Hp) : V → PyData → Prop
  | non : Da K H .non .none
  | bl (b : Bool) : Da K H (.bl b) (.bool b)
  | int (i : Int) : Da K H (.int i) (.int i)
  | str (x : Str) : Da K H (.str x) (.str x)
  | lst {a : Addr} {xs : List V} {ds : List PyData} : H a = some (.lst xs) → DaL K H xs ds → Da K H (.ref a) (.list ds)
  | tup {a : Addr} {xs : List V} {ds : List PyData} : H a = some (.tup xs) → DaL K H xs ds → Da K H (.ref a) (.tuple ds)
inductive DaL (K : PySem.W.Frag) (H : Hp) : List V → List PyData → Prop
  | nil : DaL K H [] []
  | cons {v : V} {vs : List V} {d : PyData} {ds : List PyData} : Da K H v d → DaL K H vs ds → DaL K H (v :: vs) (d :: ds)
end
section
variable {K : PySem.W.Frag} {H H' : Hp} {S : Addr → Prop}
mutual
theorem Da.mono (e : Evl.Ex H H') : ∀ {v : V} {d : PyData}, Da K H v d → Da K H' v d
  | _, _, .non => .non
  | _, _, .bl b => .bl b
  | _, _, .int i => .int i
  | _, _, .str x => .str x
  | _, _, .lst h g => .lst (e _ _ h) (DaL.mono e g)
  | _, _, .tup h g => .tup (e _ _ h) (DaL.mono e g)
theorem DaL.mono (e : Evl.Ex H H') : ∀ {vs : List V} {ds : List PyData}, DaL K H vs ds → DaL K H' vs ds
  | _, _, .nil => .nil
  | _, _, .cons h g => .cons (Da.mono e h) (DaL.mono e g)
end
mutual
theorem Da.dp : ∀ {v : V} {d : PyData}, Da K H v d → Dp K H v d
  | _, _, .non => .non
  | _, _, .bl b => .bl b
  | _, _, .int i => .int i
  | _, _, .str x => .str x
  | _, _, .lst h g => .lst (.inl (.inl h)) (DaL.dp g)
  | _, _, .tup h g => .tup (.inl (.inl h)) (DaL.dp g)
theorem DaL.dp : ∀ {vs : List V} {ds : List PyData}, DaL K H vs ds → DpAll K H vs ds
  | _, _, .nil => .nil
  | _, _, .cons h g => .cons (Da.dp h) (DaL.dp g)
end
theorem DaL.len : ∀ {vs : List V} {ds : List PyData}, DaL K H vs ds → vs.length = ds.length
  | _, _, .nil => rfl
  | _, _, .cons _ g => by rw [List.length_cons, List.length_cons, DaL.len g]
theorem DaL.at_ : ∀ {vs : List V} {ds : List PyData} {i : Nat} {d : PyData}, DaL K H vs ds → ds[i]? = some d → ∃ v, vs[i]? = some v ∧ Da K H v d
  | _, _, _, _, .nil, e => by simp at e
  | _, _, 0, _, .cons h g, e => by
    simp at e
    subst e
    exact ⟨_, rfl, h⟩
  | _, _, i + 1, _, .cons h g, e => DaL.at_ (i := i) g (by simpa using e)
theorem DaL.at' : ∀ {vs : List V} {ds : List PyData} {i : Nat} {v : V}, DaL K H vs ds → vs[i]? = some v → ∃ d, ds[i]? = some d ∧ Da K H v d
  | _, _, _, _, .nil, e => by simp at e
  | _, _, 0, _, .cons h g, e => by
    simp at e
    subst e
    exact ⟨_, rfl, h⟩
  | _, _, i + 1, _, .cons h g, e => DaL.at' (i := i) g (by simpa using e)
theorem DaL.app : ∀ {vs ws : List V} {ds es : List PyData}, DaL K H vs ds → DaL K H ws es → DaL K H (vs ++ ws) (ds ++ es)
  | _, _, _, _, .nil, h => h
  | _, _, _, _, .cons h g, k => .cons h (DaL.app g k)
theorem DaL.of_at : ∀ {vs : List V} {ds : List PyData}, vs.length = ds.length → (∀ (i : Nat) (v : V) (d : PyData), vs[i]? = some v → ds[i]? = some d → Da K H v d) → DaL K H vs ds
  | [], [], _, _ => .nil
  | v :: vs, d :: ds, l, h => .cons (h 0 v d rfl rfl) (DaL.of_at (by simpa using l) fun i x y e g => h (i + 1) x y (by simpa using e) (by simpa using g))
  | [], _ :: _, l, _ => by simp at l
  | _ :: _, [], l, _ => by simp at l
theorem DaL.take {vs : List V} {ds : List PyData} (h : DaL K H vs ds) (n : Nat) : DaL K H (vs.take n) (ds.take n) :=
  .of_at (by rw [List.length_take, List.length_take, h.len]) fun i v d e g => by
    rw [List.getElem?_take] at e g
    split at e <;> rename_i z
    · rw [if_pos z] at g
      obtain ⟨d', k1, k2⟩ := h.at' e
      rw [g] at k1; cases k1
      exact k2
    · cases e
theorem DaL.drop {vs : List V} {ds : List PyData} (h : DaL K H vs ds) (n : Nat) : DaL K H (vs.drop n) (ds.drop n) :=
  .of_at (by rw [List.length_drop, List.length_drop, h.len]) fun i v d e g => by
    rw [List.getElem?_drop] at e g
    obtain ⟨d', k1, k2⟩ := h.at' e
    rw [g] at k1; cases k1
    exact k2
theorem DaL.bools_inv : ∀ {bs : List Bool} {vs : List V}, DaL K H vs (bs.map PyData.bool) → vs = bs.map V.bl
  | [], _, .nil => rfl
  | n :: r, _, .cons h g => by
    cases h
    rw [DaL.bools_inv g]
    rfl
theorem DaL.atI {vs : List V} {ds : List PyData} {i : Int} {d : PyData} (h : DaL K H vs ds) (e : L2.atI ds i = some d) : ∃ v, L2.atI vs i = some v ∧ Da K H v d := by
  unfold L2.atI at e ⊢
  rw [h.len]
  cases z : ixN ds.length i with
  | none => rw [z] at e; cases e
  | some j =>
    rw [z] at e
    exact h.at_ e
end
def isTp : HO → Bool
  | .tup _ => true
  | _ => false
def Al (S : Addr → Prop) (H : Hp) : Prop := ∀ a, S a → ∃ o, H a = some o ∧ isTp o = false
theorem Al.no {S : Addr → Prop} {H : Hp} (h : Al S H) (a : Addr) (s : S a) (n : H a = none) : False := by
  obtain ⟨o, e, _⟩ := h a s
  rw [n] at e
  cases e
theorem Al.ex {S : Addr → Prop} {H H' : Hp} (h : Al S H) (e : Evl.Ex H H') : Al S H' := fun a s => let ⟨o, z, t⟩ := h a s; ⟨o, e a o z, t⟩
theorem Al.new {S : Addr → Prop} {H : Hp} {p : Addr} (h : Al S H) (n : H p = none) : ¬ S p := fun s => h.no p s n
section
variable {K : PySem.W.Frag} {H : Hp} {S : Addr → Prop} {p : Addr} {xs : List V} {ds : List PyData}
theorem new_tup (al : Al S H) (n : H p = none) (h : DaL K (rm H S) xs ds) : Da K (rm (upd H p (.tup xs)) S) (.ref p) (.tuple ds) := by
  exact .tup (rm_in (al.new n) upd_same) (h.mono (rm_ex (Evl.Ex.new n)))
theorem new_lst (al : Al S H) (n : H p = none) (h : DaL K (rm H S) xs ds) : Da K (rm (upd H p (.lst xs)) S) (.ref p) (.list ds) := by
  exact .lst (rm_in (al.new n) upd_same) (h.mono (rm_ex (Evl.Ex.new n)))
end
inductive Vw (K : PySem.W.Frag) (b : Option Addr) (S : Addr → Prop) (H : Hp) : V → PyData → Prop
  | st {v : V} {d : PyData} : Da K (rm H S) v d → Vw K b S H v d
  | ow {p : Addr} {vs : List V} {ds : List PyData} : b ≠ some p → H p = some (.lst vs) → DaL K (rm H S) vs ds → Vw K b S H (.ref p) (.list ds)
section
variable {K : PySem.W.Frag} {b : Option Addr} {H H' : Hp} {S : Addr → Prop} {v : V} {d : PyData} {ds : List PyData}
theorem Vw.dp (h : Vw K b S H v d) : Dp K H v d := by
  cases h with
  | st h => exact (h.mono rm_le).dp
  | ow _ h g => exact .lst (.inl (.inl h)) (g.mono rm_le).dp
theorem Vw.list (h : Vw K b S H v (.list ds)) : ∃ p vs, v = .ref p ∧ H p = some (.lst vs) ∧ DaL K (rm H S) vs ds := by
  cases h with
  | st h =>
    cases h with
    | lst h g => exact ⟨_, _, rfl, rm_le _ _ h, g⟩
  | ow _ h g => exact ⟨_, _, rfl, h, g⟩
theorem Vw.tuple (h : Vw K b S H v (.tuple ds)) : ∃ p vs, v = .ref p ∧ SqT K H p vs ∧ DaL K (rm H S) vs ds := by
  cases h with
  | st h =>
    cases h with
    | tup h g => exact ⟨_, _, rfl, .inl (.inl (rm_le _ _ h)), g⟩
theorem Vw.int {i : Int} (h : Vw K b S H v (.int i)) : v = .int i := by
  cases h with
  | st h => cases h; rfl
theorem Vw.bool {k : Bool} (h : Vw K b S H v (.bool k)) : v = .bl k := by
  cases h with
  | st h => cases h; rfl
theorem Vw.str {x : Str} (h : Vw K b S H v (.str x)) : v = .str x := by
  cases h with
  | st h => cases h; rfl
theorem Vw.none (h : Vw K b S H v .none) : v = .non := by
  cases h with
  | st h => cases h; rfl
end
def VD (md : Bool) (K : PySem.W.Frag) (b : Option Addr) (S : Addr → Prop) (H : Hp) (v : V) (d : PyData) : Prop := match md with
  | true => Da K (rm H S) v d
  | false => Vw K b S H v d
theorem VD.vw {md : Bool} {K : PySem.W.Frag} {b : Option Addr} {S : Addr → Prop} {H : Hp} {v : V} {d : PyData} (h : VD md K b S H v d) : Vw K b S H v d := by
  cases md with
  | true => exact .st h
  | false => exact h
def BxO : Option Addr → Hp → Nat → Prop
  | none, _, _ => True
  | some b, H, m => ∃ x y z : Int, 0 ≤ x ∧ 0 ≤ y ∧ y < 1000000000000 ∧ 0 ≤ z ∧ z ≤ m ∧ H b = some (.lst [.int x, .int y, .int z])
def lamDefs : List Str := ["when", "rests_when", "slowest"]
def lamQ (x : Str) : Str := x ++ ".<locals>." ++ "<lambda>"
def Tof (K : PySem.W.Frag) : List (Addr × Str) := lamDefs.filterMap fun x => (PySem.W.tabIn K x).map fun p => (p.2, lamQ x)
abbrev Tbs (K : PySem.W.Frag) (H : Hp) : Prop := LamX.Tabs (Tof K) H
def HoLe (K : PySem.W.Frag) (H H' : Hp) (c : Addr) (o : HO) : Prop := match o with
  | .tbl _ => (∃ qs, H' c = some (.tbl qs)) ∧ ∀ q, (c, q) ∈ Tof K → LamX.TabS H c q → LamX.TabS H' c q
  | o => H' c = some o
theorem HoLe.eq {K : PySem.W.Frag} {H H' : Hp} {c : Addr} {o : HO} (h : HoLe K H H' c o) (t : isT o = false) : H' c = some o := by
  cases o <;> first | exact h | cases t
theorem HoLe.of {K : PySem.W.Frag} {H H' : Hp} {c : Addr} {o : HO} (e : Evl.Ex H H') (h : H c = some o) : HoLe K H H' c o := by
  cases o with
  | tbl ps => exact ⟨⟨ps, e _ _ h⟩, fun q _ t => t.ext e⟩
  | _ => exact e _ _ h
theorem HoLe.nt {K : PySem.W.Frag} {H H' : Hp} {c : Addr} {o : HO} (t : isT o = false) (h : H' c = some o) : HoLe K H H' c o := by
  cases o <;> first | exact h | cases t
theorem HoLe.ne {K : PySem.W.Frag} {H H' : Hp} {c : Addr} {o : HO} (h : HoLe K H H' c o) : H' c ≠ none := by
  cases o with
  | tbl ps =>
    obtain ⟨⟨qs, e⟩, _⟩ := h
    rw [e]
    simp
  | _ =>
    rw [show H' c = _ from h]
    simp
theorem HoLe.trans {K : PySem.W.Frag} {H H1 H2 : Hp} {c : Addr} {o : HO} (h : HoLe K H H1 c o) (g : ∀ o, H1 c = some o → HoLe K H1 H2 c o) : HoLe K H H2 c o := by
  cases o with
  | tbl ps =>
    obtain ⟨⟨qs, e⟩, f⟩ := h
    obtain ⟨e2, f2⟩ := g _ e
    exact ⟨e2, fun q m t => f2 q m (f q m t)⟩
  | _ => exact (g _ h)
theorem tabS_chg {H : Hp} {p c : Addr} {q : Str} {o : HO} (h : LamX.TabS H c q) (n : ∀ ps, H p ≠ some (.tbl ps)) (n2 : ∀ q, H p ≠ some (LamX.CodeO p q)) : LamX.TabS (upd H p o) c q := by
  obtain ⟨ps, e, r1, r2⟩ := h
  refine ⟨ps, by rw [upd_ne fun z => n ps (by rw [← z]; exact e)]; exact e, r1, fun pos cv hc => ?_⟩
  obtain ⟨c, e1, e2⟩ := r2 pos cv hc
  exact ⟨c, e1, by rw [upd_ne fun z => n2 _ (by rw [z] at e2; exact e2)]; exact e2⟩
theorem HoLe.chg {K : PySem.W.Frag} {H : Hp} {c p : Addr} {u o : HO} (ne : c ≠ p) (h : H c = some u) (n : ∀ ps, H p ≠ some (.tbl ps)) (n2 : ∀ q, H p ≠ some (LamX.CodeO p q)) : HoLe K H (upd H p o) c u := by
  cases u with
  | tbl ps => exact ⟨⟨ps, by rw [upd_ne ne]; exact h⟩, fun q _ t => tabS_chg t n n2⟩
  | _ =>
    show upd H p o c = _
    rw [upd_ne ne]
    exact h
theorem HoLe.lst {K : PySem.W.Frag} {H : Hp} {c p : Addr} {u o : HO} {xs : List V} (ne : c ≠ p) (h : H c = some u) (e : H p = some (.lst xs)) : HoLe K H (upd H p o) c u := .chg ne h (fun ps z => by rw [e] at z; cases z) fun q z => by rw [e] at z; unfold LamX.CodeO at z; cases z
theorem HoLe.ins {K : PySem.W.Frag} {H : Hp} {c p C dx : Addr} {u o : HO} {xs : List (Str × V)} (ne : c ≠ p) (h : H c = some u) (e : H p = some (.ins C dx xs)) : HoLe K H (upd H p o) c u := .chg ne h (fun ps z => by rw [e] at z; cases z) fun q z => by rw [e] at z; unfold LamX.CodeO at z; cases z
def Stp (K : PySem.W.Frag) (b : Option Addr) (H H' : Hp) : Prop := ∀ c o, b ≠ some c → H c = some o → HoLe K H H' c o
section
variable {K : PySem.W.Frag} {b : Option Addr} {S : Addr → Prop} {H H1 H2 H' : Hp} {m n : Nat} {v : V} {d : PyData} {md : Bool}
theorem Stp.refl : Stp K b H H := fun _ _ _ h => HoLe.of (Evl.Ex.refl _) h
theorem Stp.trans (h : Stp K b H H1) (g : Stp K b H1 H2) : Stp K b H H2 := fun c o n e => (h c o n e).trans fun o' e' => g c o' n e'
theorem Stp.ex (e : Evl.Ex H H') : Stp K b H H' := fun c o _ h => HoLe.of e h
theorem BxO.ex (h : BxO b H m) (e : Evl.Ex H H') : BxO b H' m := by
  cases b with
  | none => trivial
  | some b =>
    obtain ⟨x, y, z, h1, h2, h3, h4, h5, h6⟩ := h
    exact ⟨x, y, z, h1, h2, h3, h4, h5, e _ _ h6⟩
theorem BxO.le (h : BxO b H m) (l : m ≤ n) : BxO b H n := by
  cases b with
  | none => trivial
  | some b =>
    obtain ⟨x, y, z, h1, h2, h3, h4, h5, h6⟩ := h
    exact ⟨x, y, z, h1, h2, h3, h4, by omega, h6⟩
theorem Stp.rm (h : Stp K b H H') (bs : ∀ p, b = some p → S p) : Evl.Ex (rm H S) (rm H' S) := rm_mono fun a o n t g => (h a o (fun e => n (bs a e)) g).eq t
theorem Vw.step (h : Vw K b S H v d) (st : Stp K b H H') (bs : ∀ p, b = some p → S p) : Vw K b S H' v d := by
  cases h with
  | st h => exact .st (h.mono (st.rm bs))
  | ow n h g => exact .ow n (st _ _ n h) (g.mono (st.rm bs))
theorem VD.step (h : VD md K b S H v d) (st : Stp K b H H') (bs : ∀ p, b = some p → S p) : VD md K b S H' v d := by
  cases md with
  | true => exact Da.mono (st.rm bs) h
  | false => exact Vw.step h st bs
end
structure TbF (K : PySem.W.Frag) (C : Addr) : Prop where
  at_ : PySem.W.nsIn K mainGlobals "Table" = some (some (.ref C))
  cl : L2.Cls K C
  n1 : L2.NoAttr K C "made_of"
  n2 : L2.NoAttr K C "many"
  n3 : L2.NoAttr K C "grid"
def TbO (K : PySem.W.Frag) (H : Hp) (v : V) (g : PyData) : Prop := ∃ (p C dx : Addr) (vM vG : V) (dM : PyData) (n : Int) (dG : PyData), v = .ref p ∧ TbF K C ∧ H p = some (.ins C dx [("made_of", vM), ("many", .int n), ("grid", vG)]) ∧ Da K H vM dM ∧ Da K H vG dG ∧ g = .tuple [dM, .int n, dG]
theorem TbO.mono {K : PySem.W.Frag} {H H' : Hp} {v : V} {g : PyData} (e : Evl.Ex H H') (h : TbO K H v g) : TbO K H' v g := by
  obtain ⟨p, C, dx, vM, vG, dM, n, dG, e1, f, e2, d1, d2, e3⟩ := h
  exact ⟨p, C, dx, vM, vG, dM, n, dG, e1, f, e p _ e2, Da.mono e d1, Da.mono e d2, e3⟩
def LfO (f : Addr) (F : NdefX.NF) (body : Expr) : HO := .ext fun h => ∃ (od : Option Addr) (sl : Array (Option Value)) (pm ctv : Value), h.get? f = some (⟨.type "function", od, .func (PySem.W.kla_fn "<lambda>" F.qual F.params body F.scope F.cl pm (.ref F.c) ctv), sl⟩ : Obj)
def CelO (o : Obj) : HO := .frz o (.ext fun _ => True)
abbrev par1 (x : Str) (p : Pos) : Arguments := { posonlyargs := [], args := [{ arg := x, annotation := none, pos := p }], vararg := none, kwonlyargs := [], kw_defaults := [], kwarg := none, defaults := [] }
def lamFr : Nat → List Str
  | 0 => ["gate", "many"]
  | 1 => ["last"]
  | _ => ["parts"]
def lamPar : Nat → Str
  | 2 => "one"
  | _ => "told"
def lamN (k : Nat) : List Str := lamPar k :: lamFr k
inductive LamB : Nat → Expr → Prop
  | when (a b c d e : Pos) : LamB 0 (.Compare (.Subscript (.Name "told" a) (.Name "gate" b) c) [.GtE] [.Name "many" d] e)
  | rests (a b c : Pos) : LamB 1 (.Compare (.Name "told" a) [.Eq] [.Name "last" b] c)
  | slow (j1 j2 j3 : Nat) (a b c d e f g h i j k l m : Pos) : LamB 2 (.BinOp (.Subscript (.Name "one" a) (.Constant (.int 0) j1 b) c) .Mult (.BinOp (.Name "parts" d) .FloorDiv (.BinOp (.Call (.Name "len" e) [.Subscript (.Name "one" f) (.Constant (.int 1) j2 g) h] [] i) .Sub (.Constant (.int 1) j3 j) k) l) m)
structure LamTxt (k : Nat) (F : NdefX.NF) (body : Expr) : Prop where
  par : ∃ p, F.params = par1 (lamPar k) p
  body : LamB k body
  sc : NdefX.NScope (lamN k) [lamPar k] (lamFr k) F.scope
  gl : k = 2 → F.scope.names.lookup ("len" : Str) = some NameKind.globalImplicit
inductive Cap (H : Hp) (cl : List (Str × Addr)) : List Str → List Addr → List V → Prop
  | nil : Cap H cl [] [] []
  | cons {y : Str} {c : Addr} {o : Obj} {u : Value} {v : V} {fr : List Str} {cs : List Addr} {vs : List V} : cl.lookup y = some c → H c = some (CelO o) → o.data = .cell (some u) → L2.RelV v u → c ∉ cs → Cap H cl fr cs vs → Cap H cl (y :: fr) (c :: cs) (v :: vs)
theorem Cap.mono {H H' : Hp} {cl : List (Str × Addr)} (e : Evl.Ex H H') : ∀ {fr : List Str} {cs : List Addr} {vs : List V}, Cap H cl fr cs vs → Cap H' cl fr cs vs
  | _, _, _, .nil => .nil
  | _, _, _, .cons a b c d n r => .cons a (e _ _ b) c d n (Cap.mono e r)
def LamV (K : PySem.W.Frag) (H : Hp) (v : V) (k : Nat) (ds : List PyData) : Prop := ∃ (f : Addr) (F : NdefX.NF) (body : Expr) (cs : List Addr) (vs : List V), v = .ref f ∧ LamTxt k F body ∧ H f = some (LfO f F body) ∧ H F.c = some (LamX.CodeO F.c F.qual) ∧
  Cap H F.cl (lamFr k) cs vs ∧ (∀ y c, F.cl.lookup y = some c → y ∈ lamFr k) ∧ DaL K H vs ds
theorem LamV.mono {K : PySem.W.Frag} {H H' : Hp} {v : V} {k : Nat} {ds : List PyData} (e : Evl.Ex H H') (h : LamV K H v k ds) : LamV K H' v k ds := by
  obtain ⟨f, F, body, cs, vs, e1, t, e2, e3, c, cc, d⟩ := h
  exact ⟨f, F, body, cs, vs, e1, t, e _ _ e2, e _ _ e3, c.mono e, cc, DaL.mono e d⟩
def ExV (K : PySem.W.Frag) (H : Hp) (v : V) (x : Str) (d : Option (Str × PyData)) : Prop := ∃ (a : Addr) (fs : List (Str × V)), v = .ref a ∧ ExcC K (Ex.ca K x) ∧ Ex.ExAt H a (Ex.ca K x) fs ∧ match d with
  | none => fs = []
  | some p => ∃ w, fs = [(p.1, w)] ∧ Da K H w p.2
theorem ExV.mono {K : PySem.W.Frag} {H H' : Hp} {v : V} {x : Str} {d : Option (Str × PyData)} (e : Evl.Ex H H') (h : ExV K H v x d) : ExV K H' v x d := by
  obtain ⟨a, fs, e1, c, g, r⟩ := h
  refine ⟨a, fs, e1, c, g.mono e, ?_⟩
  cases d with
  | none => exact r
  | some p =>
    obtain ⟨w, r1, r2⟩ := r
    exact ⟨w, r1, Da.mono e r2⟩
inductive DaK (K : PySem.W.Frag) (H : Hp) : List (List L2.Key × V) → List (List L2.Key × PyData) → Prop
  | nil : DaK K H [] []
  | cons {k : List L2.Key} {v : V} {d : PyData} {ws : List (List L2.Key × V)} {kvs : List (List L2.Key × PyData)} : Da K H v d → DaK K H ws kvs → DaK K H ((k, v) :: ws) ((k, d) :: kvs)
theorem DaK.mono {K : PySem.W.Frag} {H H' : Hp} (e : Evl.Ex H H') : ∀ {ws : List (List L2.Key × V)} {kvs : List (List L2.Key × PyData)}, DaK K H ws kvs → DaK K H' ws kvs
  | _, _, .nil => .nil
  | _, _, .cons h g => .cons (Da.mono e h) (DaK.mono e g)
def DcO (K : PySem.W.Frag) (H : Hp) (v : V) (kvs : List (List L2.Key × PyData)) : Prop := ∃ (p : Addr) (ws : List (List L2.Key × V)), v = .ref p ∧ H p = some (.dT ws) ∧ DaK K H ws kvs
theorem DcO.mono {K : PySem.W.Frag} {H H' : Hp} {v : V} {kvs : List (List L2.Key × PyData)} (e : Evl.Ex H H') (h : DcO K H v kvs) : DcO K H' v kvs := let ⟨p, ws, e1, e2, g⟩ := h; ⟨p, ws, e1, e _ _ e2, g.mono e⟩
def FtO (K : PySem.W.Frag) (H : Hp) (v : V) (ds : List PyData) : Prop := ∃ (p : Addr) (o : Obj) (vs : List V), v = .ref p ∧ H p = some (.frz o (.tup vs)) ∧ o.cls = .type "tuple" ∧ o.dict = none ∧ DaL K H vs ds
theorem FtO.mono {K : PySem.W.Frag} {H H' : Hp} {v : V} {ds : List PyData} (e : Evl.Ex H H') (h : FtO K H v ds) : FtO K H' v ds := let ⟨p, o, vs, e1, e2, e3, e4, g⟩ := h; ⟨p, o, vs, e1, e _ _ e2, e3, e4, DaL.mono e g⟩
inductive Sl where
  | no
  | dt (d : PyData)
  | own (ds : List PyData)
  | box
  | scr (ns : List Int)
  | op (g : PyData)
  | fn (k : Nat) (ds : List PyData)
  | exc (c : Str) (d : Option (Str × PyData))
  | dct (kvs : List (List L2.Key × PyData))
  | dck (kvs : List (List L2.Key × PyData))
  | frt (ds : List PyData)
def isOw : Sl → Bool
  | .own _ => true
  | .dct _ => true
  | _ => false
def SlR (K : PySem.W.Frag) (b : Option Addr) (S : Addr → Prop) (H : Hp) (x : Option (Option V)) : Sl → Prop
  | .no => True
  | .dt d => ∃ v, x = some (some v) ∧ Da K (rm H S) v d
  | .own ds => ∃ p vs, x = some (some (.ref p)) ∧ S p ∧ b ≠ some p ∧ H p = some (.lst vs) ∧ DaL K (rm H S) vs ds
  | .box => ∃ p, x = some (some (.ref p)) ∧ b = some p
  | .scr ns => ∃ p, x = some (some (.ref p)) ∧ SqL K (rm H S) p (ns.map V.int)
  | .op g => ∃ v, x = some (some v) ∧ TbO K (rm H S) v g
  | .fn k ds => ∃ v, x = some (some v) ∧ LamV K (rm H S) v k ds
  | .exc c d => ∃ v, x = some (some v) ∧ ExV K (rm H S) v c d
  | .dct kvs => ∃ p ws, x = some (some (.ref p)) ∧ S p ∧ b ≠ some p ∧ H p = some (.dT ws) ∧ DaK K (rm H S) ws kvs
  | .dck kvs => ∃ v, x = some (some v) ∧ DcO K (rm H S) v kvs
  | .frt ds => ∃ v, x = some (some v) ∧ FtO K (rm H S) v ds
structure DEnv (K : PySem.W.Frag) (b : Option Addr) (S : Addr → Prop) (m : Nat) (H : Hp) (σ : L2.St) (ρ : List Sl) : Prop where
  len : σ.length = ρ.length
  sl : ∀ (i : Nat) (s : Sl), ρ[i]? = some s → SlR K b S H σ[i]? s
  bx : BxO b H m
  bs : ∀ p, b = some p → S p
  al : Al S H
  tb : Tbs K H
section
variable {K : PySem.W.Frag} {b : Option Addr} {S : Addr → Prop} {H H' : Hp} {m n : Nat} {σ : L2.St} {ρ : List Sl}
theorem SlR.step {x : Option (Option V)} {s : Sl} (h : SlR K b S H x s) (st : Stp K b H H') (bs : ∀ p, b = some p → S p) : SlR K b S H' x s := by
  cases s with
  | no => trivial
  | dt d =>
    obtain ⟨v, e, g⟩ := h
    exact ⟨v, e, g.mono (st.rm bs)⟩
  | own ds =>
    obtain ⟨p, vs, e, s1, n, g, k⟩ := h
    exact ⟨p, vs, e, s1, n, st _ _ n g, k.mono (st.rm bs)⟩
  | box => exact h
  | scr ns =>
    obtain ⟨p, e, g⟩ := h
    exact ⟨p, e, Evl.ex_l (st.rm bs) g⟩
  | op g =>
    obtain ⟨v, e, g⟩ := h
    exact ⟨v, e, g.mono (st.rm bs)⟩
  | fn k ds =>
    obtain ⟨v, e, g⟩ := h
    exact ⟨v, e, g.mono (st.rm bs)⟩
  | exc c d =>
    obtain ⟨v, e, g⟩ := h
    exact ⟨v, e, g.mono (st.rm bs)⟩
  | dct kvs =>
    obtain ⟨p, ws, e, s1, n, g, k⟩ := h
    exact ⟨p, ws, e, s1, n, st _ _ n g, k.mono (st.rm bs)⟩
  | dck kvs =>
    obtain ⟨v, e, g⟩ := h
    exact ⟨v, e, g.mono (st.rm bs)⟩
  | frt ds =>
    obtain ⟨v, e, g⟩ := h
    exact ⟨v, e, g.mono (st.rm bs)⟩
theorem Al.step (h : Al S H) (st : Stp K b H H') (bx : BxO b H' n) : Al S H' := fun a s => by
  by_cases z : b = some a
  · subst z
    obtain ⟨_, _, _, _, _, _, _, _, e⟩ := bx
    exact ⟨_, e, rfl⟩
  · obtain ⟨o, q, t⟩ := h a s
    have g := st a o z q
    cases y : isT o with
    | false => exact ⟨o, g.eq y, t⟩
    | true =>
      cases o with
      | tbl ps =>
        obtain ⟨⟨qs, e⟩, _⟩ := g
        exact ⟨_, e, rfl⟩
      | _ => cases y
theorem Tbs.step (h : Tbs K H) (bx : BxO b H m) (st : Stp K b H H') : Tbs K H' := fun p hp => by
  obtain ⟨ps, e, r⟩ := h p hp
  refine (st p.1 _ (fun z => ?_) e).2 p.2 hp ⟨ps, e, r⟩
  subst z
  obtain ⟨_, _, _, _, _, _, _, _, e2⟩ := bx
  rw [e] at e2
  cases e2
theorem Tbs.chg {p : Addr} {o : HO} (h : Tbs K H) (n : ∀ ps, H p ≠ some (.tbl ps)) (n2 : ∀ q, H p ≠ some (LamX.CodeO p q)) : Tbs K (upd H p o) := fun t ht => tabS_chg (h t ht) n n2
theorem Tbs.lst {p : Addr} {o : HO} {xs : List V} (h : Tbs K H) (e : H p = some (.lst xs)) : Tbs K (upd H p o) := h.chg (fun ps z => by rw [e] at z; cases z) fun q z => by rw [e] at z; unfold LamX.CodeO at z; cases z
theorem Tbs.ins {p C dx : Addr} {o : HO} {xs : List (Str × V)} (h : Tbs K H) (e : H p = some (.ins C dx xs)) : Tbs K (upd H p o) := h.chg (fun ps z => by rw [e] at z; cases z) fun q z => by rw [e] at z; unfold LamX.CodeO at z; cases z
theorem Tbs.ex (h : Tbs K H) (e : Evl.Ex H H') : Tbs K H' := LamX.Tabs.ext h e
theorem DEnv.both (h : DEnv K b S m H σ ρ) : Al S H ∧ Tbs K H := ⟨h.al, h.tb⟩
theorem DEnv.step (h : DEnv K b S m H σ ρ) (st : Stp K b H H') (bx : BxO b H' n) : DEnv K b S n H' σ ρ :=
  ⟨h.len, fun i s e => (h.sl i s e).step st h.bs, bx, h.bs, h.al.step st bx, h.tb.step h.bx st⟩
theorem DEnv.le (h : DEnv K b S m H σ ρ) (l : m ≤ n) : DEnv K b S n H σ ρ := ⟨h.len, h.sl, h.bx.le l, h.bs, h.al, h.tb⟩
end
abbrev FE := List Sl → (PyData → Prop) → Prop
structure Snd (md : Bool) (K : PySem.W.Frag) (t : TE) (c : Nat) (f : FE) : Prop where
  mono : ∀ (ρ : List Sl) (P P' : PyData → Prop), (∀ d, P d → P' d) → f ρ P → f ρ P'
  run : ∀ (b : Option Addr) (S : Addr → Prop) (m : Nat) (σ : L2.St) (H : Hp) (ρ : List Sl) (Q : VK), DEnv K b S m H σ ρ → m + c ≤ LIM →
    f ρ (fun d => ∀ v H', Stp K b H H' → BxO b H' (m + c) → VD md K b S H' v d → Q v H') → t σ H Q
theorem Snd.go {md : Bool} {K : PySem.W.Frag} {t : TE} {c : Nat} {f : FE} (a : Snd md K t c f) {b : Option Addr} {S : Addr → Prop} {m : Nat} {σ : L2.St} {H : Hp} {ρ : List Sl} {Q : VK} {P : PyData → Prop} (E : DEnv K b S m H σ ρ) (hm : m + c ≤ LIM) (hf : f ρ P)
    (k : ∀ d v H', P d → Stp K b H H' → BxO b H' (m + c) → VD md K b S H' v d → Q v H') : t σ H Q :=
  a.run b S m σ H ρ Q E hm (a.mono ρ _ _ (fun d p v H' s x y => k d v H' p s x y) hf)
theorem Snd.v {md : Bool} {K : PySem.W.Frag} {t : TE} {c : Nat} {f : FE} (a : Snd md K t c f) : Snd false K t c f :=
  ⟨a.mono, fun b S m σ H ρ Q E hm hf => a.go E hm hf fun d v H' p st bx vd => p v H' st bx vd.vw⟩
end Dv
namespace Dv
open PySem PySem.Spec PyProof.Rows L2
open Classical
abbrev FT := List Sl → (Bool → Prop) → Prop
abbrev FD := List Sl → (List PyData → Prop) → Prop
abbrev FA := List Sl → (List Sl → Prop) → Prop
structure SndT (K : PySem.W.Frag) (t : TT) (c : Nat) (f : FT) : Prop where
  mono : ∀ (ρ : List Sl) (P P' : Bool → Prop), (∀ d, P d → P' d) → f ρ P → f ρ P'
  go : ∀ {b : Option Addr} {S : Addr → Prop} {m : Nat} {σ : L2.St} {H : Hp} {ρ : List Sl} {Q : Bool → Hp → Prop} {P : Bool → Prop}, DEnv K b S m H σ ρ → m + c ≤ LIM → f ρ P →
    (∀ k H', P k → Stp K b H H' → BxO b H' (m + c) → Q k H') → t σ H Q
inductive VwL (md : Bool) (K : PySem.W.Frag) (b : Option Addr) (S : Addr → Prop) (H : Hp) : List V → List PyData → Prop
  | nil : VwL md K b S H [] []
  | cons {v : V} {vs : List V} {d : PyData} {ds : List PyData} : VD md K b S H v d → VwL md K b S H vs ds → VwL md K b S H (v :: vs) (d :: ds)
theorem VwL.dal {K : PySem.W.Frag} {b : Option Addr} {S : Addr → Prop} {H : Hp} : ∀ {vs : List V} {ds : List PyData}, VwL true K b S H vs ds → DaL K (rm H S) vs ds
  | _, _, .nil => .nil
  | _, _, .cons h g => .cons h (VwL.dal g)
structure SndD (md : Bool) (K : PySem.W.Frag) (t : TA) (n : Nat) (c : Nat) (f : FD) : Prop where
  mono : ∀ (ρ : List Sl) (P P' : List PyData → Prop), (∀ d, P d → P' d) → f ρ P → f ρ P'
  go : ∀ {b : Option Addr} {S : Addr → Prop} {m : Nat} {σ : L2.St} {H : Hp} {ρ : List Sl} {Q : List V → Hp → Prop} {P : List PyData → Prop}, DEnv K b S m H σ ρ → m + c ≤ LIM → f ρ P →
    (∀ ds vs H', P ds → vs.length = n → Stp K b H H' → BxO b H' (m + c) → VwL md K b S H' vs ds → Q vs H') → t σ H Q
def ArgR (K : PySem.W.Frag) (b : Option Addr) (S : Addr → Prop) (H : Hp) (v : V) : Sl → Prop
  | .dt d => Da K (rm H S) v d
  | .box => ∃ p, v = .ref p ∧ b = some p
  | .scr ns => ∃ p, v = .ref p ∧ SqL K (rm H S) p (ns.map V.int)
  | .op g => TbO K (rm H S) v g
  | .fn k ds => LamV K (rm H S) v k ds
  | .dck kvs => DcO K (rm H S) v kvs
  | _ => False
inductive ArgL (K : PySem.W.Frag) (b : Option Addr) (S : Addr → Prop) (H : Hp) : List V → List Sl → Prop
  | nil : ArgL K b S H [] []
  | cons {v : V} {vs : List V} {s : Sl} {as : List Sl} : ArgR K b S H v s → ArgL K b S H vs as → ArgL K b S H (v :: vs) (s :: as)
structure SndA (K : PySem.W.Frag) (t : TA) (c : Nat) (f : FA) : Prop where
  mono : ∀ (ρ : List Sl) (P P' : List Sl → Prop), (∀ d, P d → P' d) → f ρ P → f ρ P'
  go : ∀ {b : Option Addr} {S : Addr → Prop} {m : Nat} {σ : L2.St} {H : Hp} {ρ : List Sl} {Q : List V → Hp → Prop} {P : List Sl → Prop}, DEnv K b S m H σ ρ → m + c ≤ LIM → f ρ P →
    (∀ as vs H', P as → Stp K b H H' → BxO b H' (m + c) → ArgL K b S H' vs as → Q vs H') → t σ H Q
theorem mk_snd {md : Bool} {K : PySem.W.Frag} {t : TE} {c : Nat} {f : FE} (mono : ∀ (ρ : List Sl) (P P' : PyData → Prop), (∀ d, P d → P' d) → f ρ P → f ρ P')
    (go : ∀ {b : Option Addr} {S : Addr → Prop} {m : Nat} {σ : L2.St} {H : Hp} {ρ : List Sl} {Q : VK} {P : PyData → Prop}, DEnv K b S m H σ ρ → m + c ≤ LIM → f ρ P →
      (∀ d v H', P d → Stp K b H H' → BxO b H' (m + c) → VD md K b S H' v d → Q v H') → t σ H Q) : Snd md K t c f :=
  ⟨mono, fun b S m σ H ρ Q E hm hf => go E hm hf fun d v H' p s x y => p v H' s x y⟩
section
variable {K : PySem.W.Frag} {md md2 : Bool} {ta tb : TE} {ca cb c : Nat} {fa fb : FE}
abbrev eVar (i : Nat) : FE := fun ρ Q => match ρ[i]? with
  | some (.dt d) => Q d
  | _ => False
abbrev eVarV (i : Nat) : FE := fun ρ Q => match ρ[i]? with
  | some (.dt d) => Q d
  | some (.own ds) => Q (.list ds)
  | _ => False
theorem snd_var {i : Nat} : Snd true K (tVar i) 0 (eVar i) := mk_snd
  (fun ρ P P' h g => by
    unfold eVar at g ⊢
    split at g
    · exact h _ g
    · exact g.elim)
  (fun {b S m σ H ρ Q P} E hm hf k => by
    unfold eVar at hf
    split at hf
    · rename_i d e
      obtain ⟨v, e1, e2⟩ := E.sl i _ e
      exact ⟨v, e1, k d v H hf Stp.refl E.bx e2⟩
    · exact hf.elim)
theorem sndV_var {i : Nat} : Snd false K (tVar i) 0 (eVarV i) := mk_snd
  (fun ρ P P' h g => by
    unfold eVarV at g ⊢
    split at g
    · exact h _ g
    · exact h _ g
    · exact g.elim)
  (fun {b S m σ H ρ Q P} E hm hf k => by
    unfold eVarV at hf
    split at hf
    · rename_i d e
      obtain ⟨v, e1, e2⟩ := E.sl i _ e
      exact ⟨v, e1, k d v H hf Stp.refl E.bx (.st e2)⟩
    · rename_i ds e
      obtain ⟨p, vs, e1, e2, e3, e4, e5⟩ := E.sl i _ e
      exact ⟨.ref p, e1, k _ _ H hf Stp.refl E.bx (.ow e3 e4 e5)⟩
    · exact hf.elim)
abbrev eC (d : PyData) : FE := fun _ Q => Q d
theorem snd_int {i : Int} : Snd true K (tC (.int i)) 0 (eC (.int i)) := mk_snd (fun ρ P P' h g => h _ g) (fun E hm hf k => k _ _ _ hf Stp.refl E.bx (.int i))
theorem snd_bl {i : Bool} : Snd true K (tC (.bl i)) 0 (eC (.bool i)) := mk_snd (fun ρ P P' h g => h _ g) (fun E hm hf k => k _ _ _ hf Stp.refl E.bx (.bl i))
theorem snd_str {i : Str} : Snd true K (tC (.str i)) 0 (eC (.str i)) := mk_snd (fun ρ P P' h g => h _ g) (fun E hm hf k => k _ _ _ hf Stp.refl E.bx (.str i))
theorem snd_non : Snd true K (tC .non) 0 (eC .none) := mk_snd (fun ρ P P' h g => h _ g) (fun E hm hf k => k _ _ _ hf Stp.refl E.bx .non)
structure OpSnd (K : PySem.W.Frag) (r : R2) (g : PyData → PyData → (PyData → Prop) → Prop) : Prop where
  mono : ∀ x y (P P' : PyData → Prop), (∀ d, P d → P' d) → g x y P → g x y P'
  run : ∀ {b : Option Addr} {S : Addr → Prop} {H : Hp} {x y : V} {dx dy : PyData} {Q : VK} {P : PyData → Prop}, Al S H → Vw K b S H x dx → Vw K b S H y dy → g dx dy P →
    (∀ d v H', P d → Evl.Ex H H' → Da K (rm H' S) v d → Q v H') → r x y H Q
abbrev eBin (g : PyData → PyData → (PyData → Prop) → Prop) (fa fb : FE) : FE := fun ρ Q => fa ρ fun x => fb ρ fun y => g x y Q
theorem snd_op {r : R2} {g : PyData → PyData → (PyData → Prop) → Prop} (o : OpSnd K r g) (a : Snd md K ta ca fa) (b : Snd md2 K tb cb fb) : Snd true K (tOp r ta tb) (ca + cb) (eBin g fa fb) := mk_snd
  (fun ρ P P' h q => a.mono _ _ _ (fun x => b.mono _ _ _ fun y => o.mono x y _ _ h) q)
  (fun E hm hf k => a.go E (by omega) hf fun x vx H1 h1 s1 b1 d1 => b.go (E.step s1 b1) (by omega) h1 fun y vy H2 h2 s2 b2 d2 =>
    o.run ((E.step s1 b1).step s2 b2).al (d1.vw.step s2 E.bs) d2.vw h2 fun d v H' p e q => k d v H' p ((s1.trans s2).trans (Stp.ex e)) ((b2.ex e).le (by omega)) q)
structure UnSnd (K : PySem.W.Frag) (r : V → Hp → VK → Prop) (g : PyData → (PyData → Prop) → Prop) : Prop where
  mono : ∀ x (P P' : PyData → Prop), (∀ d, P d → P' d) → g x P → g x P'
  run : ∀ {b : Option Addr} {S : Addr → Prop} {H : Hp} {x : V} {dx : PyData} {Q : VK} {P : PyData → Prop}, Al S H → Vw K b S H x dx → g dx P →
    (∀ d v H', P d → Evl.Ex H H' → Da K (rm H' S) v d → Q v H') → r x H Q
abbrev eUn (g : PyData → (PyData → Prop) → Prop) (fa : FE) : FE := fun ρ Q => fa ρ fun x => g x Q
theorem snd_un0 {r : V → Hp → VK → Prop} {g : PyData → (PyData → Prop) → Prop} (o : UnSnd K r g) (a : Snd md K ta ca fa) : Snd true K (fun σ H Q => ta σ H fun x H1 => r x H1 Q) ca (eUn g fa) := mk_snd
  (fun ρ P P' h q => a.mono _ _ _ (fun x => o.mono x _ _ h) q)
  (fun E hm hf k => a.go E (by omega) hf fun x vx H1 h1 s1 b1 d1 =>
    o.run (E.step s1 b1).al d1.vw h1 fun d v H' p e q => k d v H' p (s1.trans (Stp.ex e)) (b1.ex e) q)
theorem snd_un {r : V → Hp → VK → Prop} {g : PyData → (PyData → Prop) → Prop} (o : UnSnd K r g) (a : Snd md K ta ca fa) : Snd true K (tUn r ta) ca (eUn g fa) := snd_un0 (r := r) o a
abbrev asB (Q : Bool → Prop) : PyData → Prop
  | .bool k => Q k
  | _ => False
theorem asB_mono {P P' : Bool → Prop} (h : ∀ k, P k → P' k) : ∀ d, asB P d → asB P' d := fun d g => by
  cases d <;> first | exact h _ g | exact g.elim
abbrev fTest (f : FE) : FT := fun ρ Q => f ρ (asB Q)
theorem asB_of {md : Bool} {b : Option Addr} {S : Addr → Prop} {H : Hp} {Q : Bool → Prop} {d : PyData} {v : V} (h : asB Q d) (g : VD md K b S H v d) : ∃ k, v = .bl k ∧ Q k := by
  cases d with
  | bool k => exact ⟨k, g.vw.bool, h⟩
  | _ => exact h.elim
theorem sndt_test (a : Snd md K ta ca fa) : SndT K (tTest ta) ca (fTest fa) :=
  ⟨fun ρ P P' h g => a.mono _ _ _ (asB_mono h) g, fun E hm hf k => a.go E hm hf fun d v H' p s x y => by
    obtain ⟨q, rfl, z⟩ := asB_of p y
    exact ⟨q, rfl, k q H' z s x⟩⟩
theorem sndt_B (a : Snd md K ta ca fa) : SndT K (tB ta) ca (fTest fa) :=
  ⟨fun ρ P P' h g => a.mono _ _ _ (asB_mono h) g, fun E hm hf k => a.go E hm hf fun d v H' p s x y => by
    obtain ⟨q, rfl, z⟩ := asB_of p y
    exact ⟨q, rfl, k q H' z s x⟩⟩
abbrev truD (Q : Bool → Prop) : PyData → Prop
  | .none => Q false
  | .bool k => Q k
  | .int i => Q (i != 0)
  | .list ds => Q (!ds.isEmpty)
  | .tuple ds => Q (!ds.isEmpty)
  | _ => False
theorem DaL.empty {H : Hp} {vs : List V} {ds : List PyData} (h : DaL K H vs ds) : (!vs.isEmpty) = !ds.isEmpty := by
  cases h <;> rfl
theorem truD_mono {P P' : Bool → Prop} (h : ∀ k, P k → P' k) : ∀ d, truD P d → truD P' d := fun d g => by
  cases d <;> first | exact h _ g | exact g.elim
abbrev fTru (f : FE) : FT := fun ρ Q => f ρ (truD Q)
theorem sndt_tru (a : Snd md K ta ca fa) : SndT K (fun σ H Q => ta σ H fun x H' => ∃ k, TruV K x H' k ∧ Q k H') ca (fTru fa) :=
  ⟨fun ρ P P' h g => a.mono _ _ _ (truD_mono h) g, fun E hm hf k => a.go E hm hf fun d v H' p s x y => by
    have y := y.vw
    cases d with
    | none => rw [y.none]; exact ⟨false, rfl, k _ _ p s x⟩
    | bool q => rw [y.bool]; exact ⟨q, rfl, k _ _ p s x⟩
    | int i => rw [y.int]; exact ⟨_, rfl, k _ _ p s x⟩
    | list ds =>
      obtain ⟨q, vs, rfl, e, g⟩ := y.list
      exact ⟨_, .inl ⟨vs, .inl (.inl e), rfl⟩, by rw [g.empty]; exact k _ _ p s x⟩
    | tuple ds =>
      obtain ⟨q, vs, rfl, e, g⟩ := y.tuple
      exact ⟨_, .inr (.inl ⟨vs, e, rfl⟩), by rw [g.empty]; exact k _ _ p s x⟩
    | str _ => exact p.elim
    | dict _ => exact p.elim⟩
abbrev fAnd (f g : FT) : FT := fun ρ Q => f ρ fun k => if k = true then g ρ Q else Q false
abbrev fOr (f g : FT) : FT := fun ρ Q => f ρ fun k => if k = true then Q true else g ρ Q
abbrev fNot (f : FT) : FT := fun ρ Q => f ρ fun k => Q (!k)
variable {tt tu : TT} {ft fu : FT} {ct cu : Nat}
theorem sndt_and (a : SndT K tt ct ft) (b : SndT K tu cu fu) : SndT K (tAnd tt tu) (ct + cu) (fAnd ft fu) :=
  ⟨fun ρ P P' h g => a.mono _ _ _ (fun k q => by
      cases k with
      | true => exact b.mono _ _ _ h q
      | false => exact h _ q) g,
   fun E hm hf k => a.go E (by omega) hf fun q H1 p s1 b1 => by
    cases q with
    | true => exact b.go (E.step s1 b1) (by omega) p fun q2 H2 p2 s2 b2 => k _ _ p2 (s1.trans s2) (b2.le (by omega))
    | false => exact k _ _ p s1 (b1.le (by omega))⟩
theorem sndt_or (a : SndT K tt ct ft) (b : SndT K tu cu fu) : SndT K (tOr tt tu) (ct + cu) (fOr ft fu) :=
  ⟨fun ρ P P' h g => a.mono _ _ _ (fun k q => by
      cases k with
      | false => exact b.mono _ _ _ h q
      | true => exact h _ q) g,
   fun E hm hf k => a.go E (by omega) hf fun q H1 p s1 b1 => by
    cases q with
    | false => exact b.go (E.step s1 b1) (by omega) p fun q2 H2 p2 s2 b2 => k _ _ p2 (s1.trans s2) (b2.le (by omega))
    | true => exact k _ _ p s1 (b1.le (by omega))⟩
theorem sndt_not (a : SndT K tt ct ft) : SndT K (tNot tt) ct (fNot ft) :=
  ⟨fun ρ P P' h g => a.mono _ _ _ (fun k q => h _ q) g, fun E hm hf k => a.go E hm hf fun q H1 p s1 b1 => k _ _ p s1 b1⟩
abbrev eAnd (f g : FE) : FE := fun ρ Q => f ρ (asB fun k => if k = true then g ρ Q else Q (.bool false))
abbrev eOr (f g : FE) : FE := fun ρ Q => f ρ (asB fun k => if k = true then Q (.bool true) else g ρ Q)
theorem snd_and (a : Snd md K ta ca fa) (b : Snd true K tb cb fb) : Snd true K (tAndV ta tb) (ca + cb) (eAnd fa fb) := mk_snd
  (fun ρ P P' h q => a.mono _ _ _ (asB_mono fun k z => by
      cases k with
      | true => exact b.mono _ _ _ h z
      | false => exact h _ z) q)
  (fun E hm hf k => a.go E (by omega) hf fun x vx H1 h1 s1 b1 d1 => by
    obtain ⟨q, rfl, z⟩ := asB_of h1 d1
    refine ⟨q, rfl, ?_⟩
    cases q with
    | true => exact b.go (E.step s1 b1) (by omega) z fun y vy H2 h2 s2 b2 d2 => k _ _ _ h2 (s1.trans s2) (b2.le (by omega)) d2
    | false => exact k _ _ _ z s1 (b1.le (by omega)) (.bl false))
theorem snd_or (a : Snd md K ta ca fa) (b : Snd true K tb cb fb) : Snd true K (tOrV ta tb) (ca + cb) (eOr fa fb) := mk_snd
  (fun ρ P P' h q => a.mono _ _ _ (asB_mono fun k z => by
      cases k with
      | false => exact b.mono _ _ _ h z
      | true => exact h _ z) q)
  (fun E hm hf k => a.go E (by omega) hf fun x vx H1 h1 s1 b1 d1 => by
    obtain ⟨q, rfl, z⟩ := asB_of h1 d1
    refine ⟨q, rfl, ?_⟩
    cases q with
    | false => exact b.go (E.step s1 b1) (by omega) z fun y vy H2 h2 s2 b2 d2 => k _ _ _ h2 (s1.trans s2) (b2.le (by omega)) d2
    | true => exact k _ _ _ z s1 (b1.le (by omega)) (.bl true))
abbrev eIf (t : FT) (f g : FE) : FE := fun ρ Q => t ρ fun k => if k = true then f ρ Q else g ρ Q
theorem snd_if (t : SndT K tt ct ft) (a : Snd true K ta ca fa) (b : Snd true K tb cb fb) : Snd true K (tIf tt ta tb) (ct + (ca + cb)) (eIf ft fa fb) := mk_snd
  (fun ρ P P' h q => t.mono _ _ _ (fun k z => by
      cases k with
      | true => exact a.mono _ _ _ h z
      | false => exact b.mono _ _ _ h z) q)
  (fun E hm hf k => t.go E (by omega) hf fun q H1 p s1 b1 => by
    cases q with
    | true => exact a.go (E.step s1 b1) (by omega) p fun y vy H2 h2 s2 b2 d2 => k _ _ _ h2 (s1.trans s2) (b2.le (by omega)) d2
    | false => exact b.go (E.step s1 b1) (by omega) p fun y vy H2 h2 s2 b2 d2 => k _ _ _ h2 (s1.trans s2) (b2.le (by omega)) d2)
abbrev dNil : FD := fun _ Q => Q []
abbrev dCons (f : FE) (g : FD) : FD := fun ρ Q => f ρ fun d => g ρ fun ds => Q (d :: ds)
theorem VwL.step {b : Option Addr} {S : Addr → Prop} {H H' : Hp} (st : Stp K b H H') (bs : ∀ p, b = some p → S p) : ∀ {vs : List V} {ds : List PyData}, VwL md K b S H vs ds → VwL md K b S H' vs ds
  | _, _, .nil => .nil
  | _, _, .cons h g => .cons (h.step st bs) (VwL.step st bs g)
theorem sndd_nil : SndD md K tNil 0 0 dNil := ⟨fun ρ P P' h g => h _ g, fun E hm hf k => k _ _ _ hf rfl Stp.refl E.bx .nil⟩
variable {tr : TA} {fr : FD} {n cr : Nat}
theorem sndd_cons (a : Snd md K ta ca fa) (r : SndD md K tr n cr fr) : SndD md K (tCons ta tr) (n + 1) (ca + cr) (dCons fa fr) :=
  ⟨fun ρ P P' h g => a.mono _ _ _ (fun d => r.mono _ _ _ fun ds => h _) g, fun E hm hf k => a.go E (by omega) hf fun d v H1 h1 s1 b1 d1 =>
    r.go (E.step s1 b1) (by omega) h1 fun ds vs H2 h2 l s2 b2 d2 => k _ _ _ h2 (by rw [List.length_cons, l]) (s1.trans s2) (b2.le (by omega)) (.cons (d1.step s2 E.bs) d2)⟩
abbrev eTup (f : FD) : FE := fun ρ Q => f ρ fun ds => Q (.tuple ds)
abbrev eLst (f : FD) : FE := fun ρ Q => f ρ fun ds => Q (.list ds)
theorem snd_tup (r : SndD true K tr n cr fr) (hn : n ≤ sizeLine) : Snd true K (tTup tr) cr (eTup fr) := mk_snd
  (fun ρ P P' h g => r.mono _ _ _ (fun ds => h _) g)
  (fun E hm hf k => r.go E hm hf fun ds vs H1 h1 l s1 b1 d1 => ⟨by rw [l]; exact hn, fun p np => k _ _ _ h1 (s1.trans (Stp.ex (Evl.Ex.new np))) (b1.ex (Evl.Ex.new np)) (new_tup (E.step s1 b1).al np d1.dal)⟩)
structure SndL (K : PySem.W.Frag) (t : TE) (c : Nat) (f : FD) : Prop where
  mono : ∀ (ρ : List Sl) (P P' : List PyData → Prop), (∀ d, P d → P' d) → f ρ P → f ρ P'
  go : ∀ {b : Option Addr} {S : Addr → Prop} {m : Nat} {σ : L2.St} {H : Hp} {ρ : List Sl} {Q : VK} {P : List PyData → Prop}, DEnv K b S m H σ ρ → m + c ≤ LIM → f ρ P →
    (∀ ds vs p H', P ds → H p = none → Stp K b H H' → BxO b H' (m + c) → H' p = some (.lst vs) → DaL K (rm H' fun a => S a ∨ a = p) vs ds → Q (.ref p) H') → t σ H Q
theorem SndL.d {t : TE} {f : FD} (a : SndL K t c f) : Snd true K t c (fun ρ Q => f ρ fun ds => Q (.list ds)) := mk_snd
  (fun ρ P P' h g => a.mono _ _ _ (fun ds => h _) g)
  (fun E hm hf k => a.go E hm hf fun ds vs p H' h n st bx e g => k _ _ _ h st bx (.lst (rm_in (E.al.new n) e) (g.mono (rm_sub fun a z => .inl z))))
theorem back {b : Option Addr} {H H1 : Hp} {p : Addr} {k : Nat} (st : Stp K b H H1) (bx : BxO b H1 k) (np : H1 p = none) : H p = none := by
  cases z : H p with
  | none => rfl
  | some o =>
    exfalso
    by_cases q : b = some p
    · rw [q] at bx
      obtain ⟨_, _, _, _, _, _, _, _, e2⟩ := bx
      rw [np] at e2
      cases e2
    · exact (st p o q z).ne np
theorem DaL.fresh {S : Addr → Prop} {H : Hp} {p : Addr} {o : HO} {vs : List V} {ds : List PyData} (h : DaL K (rm H S) vs ds) (np : H p = none) : DaL K (rm (upd H p o) fun a => S a ∨ a = p) vs ds := h.mono fun a o z => by
  obtain ⟨g1, g2⟩ := rm_some z
  have ne : a ≠ p := fun w => by rw [w, np] at g2; cases g2
  exact rm_in (fun w => w.elim g1 ne) (by rw [upd_ne ne]; exact g2) (rm_nt z)
theorem sndl_lst (r : SndD true K tr n cr fr) (hn : n ≤ sizeLine) : SndL K (tLst tr) cr fr := ⟨r.mono,
  (fun E hm hf k => r.go E hm hf fun ds vs H1 h1 l s1 b1 d1 => ⟨by rw [l]; exact hn, fun p np =>
    k _ _ _ _ h1 (back s1 b1 np) (s1.trans (Stp.ex (Evl.Ex.new np))) (b1.ex (Evl.Ex.new np)) upd_same (d1.dal.fresh np)⟩)⟩
end
end Dv
namespace RT
open PySem PySem.Spec PyProof.Rows
section
variable {prog : Program} {w : World} {A : Around} {E : Value → Shared → Prop} {s : Shared}
end
end RT
namespace Xg
open PySem PySem.Spec PyProof.Rows L2
end Xg
namespace Xg
open PySem PySem.Spec PyProof.Rows L2
theorem tuple_mul1 (l : Addr) (items : Array Value) (n : Nat) (dd : Option Addr) (sl : Array (Option Value)) (u : Tok) :
    Meets (Builtin.«tuple.__mul__» ⟨[.ref l, .int 1 u], []⟩) (fun _ R s => s.heap.get? l = some { cls := .type "tuple", dict := dd, data := .seq items n, slots := sl } ∧ R (.ok (.ret (Value.ref l))) s) :=
  .of_wp fun prog w A R s h => by
    obtain ⟨hp, g, d, tk, os⟩ := s
    obtain ⟨hl, h⟩ := h
    have f1 := AutoSeq1.idx_int
    have c1 : (items.isEmpty || (1 : Int) == 1) = true := by simp
    wp_walk using wpAny_loadPart' hl
    exact ⟨_, rfl, h⟩
def rRep1 (K : PySem.W.Frag) : R2 := fun x y H Q => ∃ l xs, x = .ref l ∧ y = .int 1 ∧ SqT K H l xs ∧ Q (.ref l) H
theorem op_rep1 {X : Cx} : OpR X (binaryOp .Mult) (rRep1 X.K) := by
  intro pins s σ H x y v u Q I rx ry h
  obtain ⟨l, xs, rfl, rfl, hT, q⟩ := h
  cases rx
  obtain ⟨t, rfl⟩ := ry
  obtain ⟨its, r, ⟨⟨cls, dd, data, sl⟩, ho, hc, n, hd⟩, hs⟩ := I.tuple hT
  simp only at hc hd
  subst hc hd
  refine wpAny_binaryOp_repeat_ref (T := "tuple") (U := "int") (by decide) ⟨_, ho, rfl⟩ (fun s' => typeIs_int s' 1 t) noFill_tuple_mul F.fills_int_mul F.slot_int_rmul repeat_tuple F.slot_int_index.lookup
    (call_meets F.slot_int_rmul (typeIs_int s 1 t) F.entry_int_rmul (F.args_int_rmul_2 _ _) (int_rmul_tuple 1 t l its.toArray n dd sl)
      ⟨ho, rfl, ⟨_, ho, rfl⟩, call_meets F.slot_tuple_mul ⟨_, ho, rfl⟩ F.entry_tuple_mul (F.args_tuple_mul_2 _ _) (tuple_mul1 l its.toArray n dd sl t) ⟨ho, ?_⟩⟩)
  exact ⟨.ref l, H, I, rfl, q⟩
theorem tuple_mul0 (l : Addr) (items : Array Value) (n : Nat) (dd : Option Addr) (sl : Array (Option Value)) (u : Tok) (c1 : (items.isEmpty || (0 : Int) == 1) = false) :
    Meets (Builtin.«tuple.__mul__» ⟨[.ref l, .int 0 u], []⟩) (fun _ R s => s.heap.get? l = some { cls := .type "tuple", dict := dd, data := .seq items n, slots := sl } ∧
      R (.ok (.ret (Value.ref s.heap.objs.size))) { s with heap := s.heap.push { cls := Value.type "tuple", data := Data.seq #[] }, toks := s.toks }) :=
  .of_wp fun prog w A R s h => by
    obtain ⟨hp, g, d, tk, os⟩ := s
    obtain ⟨hl, h⟩ := h
    have f1 := AutoSeq1.idx_int
    wp_walk using wpAny_loadPart' hl
    repeat (first
      | (refine wpAny_ite_false (decide_eq_false (by rw [c1]; exact Bool.false_ne_true)) ?_; wp_walk using wpAny_loadPart' hl))
    exact ⟨_, rfl, h⟩
def rRep0 (K : PySem.W.Frag) : R2 := fun x y H Q => ∃ l xs, x = .ref l ∧ y = .int 0 ∧ SqT K H l xs ∧ xs ≠ [] ∧ ∀ p, H p = none → Q (.ref p) (upd H p (.tup []))
theorem op_rep0 {X : Cx} : OpR X (binaryOp .Mult) (rRep0 X.K) := by
  intro pins s σ H x y v u Q I rx ry h
  obtain ⟨l, xs, rfl, rfl, hT, hne, q⟩ := h
  cases rx
  obtain ⟨t, rfl⟩ := ry
  obtain ⟨its, r, ⟨⟨cls, dd, data, sl⟩, ho, hc, n, hd⟩, hs⟩ := I.tuple hT
  simp only at hc hd
  subst hc hd
  have hle : its.length = xs.length := r.length.symm
  have hi : its.toArray.isEmpty = false := by
    cases its with
    | nil => exact absurd (List.eq_nil_of_length_eq_zero hle.symm) hne
    | cons a b => rfl
  refine wpAny_binaryOp_repeat_ref (T := "tuple") (U := "int") (by decide) ⟨_, ho, rfl⟩ (fun s' => typeIs_int s' 0 t) noFill_tuple_mul F.fills_int_mul F.slot_int_rmul repeat_tuple F.slot_int_index.lookup
    (call_meets F.slot_int_rmul (typeIs_int s 0 t) F.entry_int_rmul (F.args_int_rmul_2 _ _) (int_rmul_tuple 0 t l its.toArray n dd sl)
      ⟨ho, rfl, ⟨_, ho, rfl⟩, call_meets F.slot_tuple_mul ⟨_, ho, rfl⟩ F.entry_tuple_mul (F.args_tuple_mul_2 _ _) (tuple_mul0 l its.toArray n dd sl t (by rw [hi]; rfl)) ⟨ho, ?_⟩⟩)
  have hp : H s.heap.objs.size = none := I.hok.fresh (Nat.le_refl _)
  refine ⟨.ref s.heap.objs.size, _, I.laid (o := .tup []) (t' := s.toks) (fun b o e => Heap.get?_push_of_some _ e) (Nat.le_refl _) ?_, rfl, q _ hp⟩
  exact ⟨Nat.zero_le _, [], .nil, ⟨_, Heap.get?_push_size s.heap rfl, rfl, 0, rfl⟩⟩
end Xg
namespace Zq
open PySem PySem.Spec PyProof.Rows L2
open PySem.Sem (wp)
def itK (t : Bool) (g : Heap) (p l : Addr) (i : Nat) : Prop := bif t then g.IsTupleIter p l i else g.IsListIter p l i
theorem it_at {t : Bool} {g g' : Heap} {p l : Addr} {i : Nat} (x : itK t g p l i) (e : ∀ o, g.get? p = some o → g'.get? p = some o) : itK t g' p l i := by
  cases t
  · exact Heap.IsListIter.at x e
  · exact Heap.IsTupleIter.at x e
theorem it_obj {t : Bool} {g : Heap} {p l : Addr} {i : Nat} (x : itK t g p l i) : ∃ o, g.get? p = some o ∧ o.data = .fields #[.ref l, .int i 0] := by
  cases t
  · exact let ⟨o, e, _, d⟩ := x; ⟨o, e, d⟩
  · exact let ⟨o, e, _, d⟩ := x; ⟨o, e, d⟩
section
variable {prog : Program} {w : World} {A : Around} {E : Value → Shared → Prop} {s : Shared}
def Stay (g g' : Heap) (z T p1 p2 : Addr) : Prop := ∀ c o, c ≠ z → c ≠ T → c ≠ p1 → c ≠ p2 → g.get? c = some o → g'.get? c = some o
end
end Zq
namespace Zq
open PySem PySem.Spec PyProof.Rows L2
open PySem.Sem (wp)
section
variable {prog : Program} {w : World} {A : Around} {E : Value → Shared → Prop} {s : Shared}
abbrev e1 (g : Heap) (l1 : Addr) : Heap := g.push { cls := .type "tuple_iterator", data := .fields #[.ref l1, .int 0 0] }
abbrev e2 (g : Heap) (l1 l2 : Addr) : Heap := (e1 g l1).push { cls := .type "list_iterator", data := .fields #[.ref l2, .int 0 0] }
abbrev e3 (g : Heap) (l1 l2 : Addr) : Heap := (e2 g l1 l2).push { cls := .type "tuple", data := .seq #[.ref g.objs.size, .ref (e1 g l1).objs.size] }
abbrev e4 (g : Heap) (l1 l2 : Addr) : Heap := (e3 g l1 l2).push { cls := .type "tuple", data := .seq #[.none, .none] }
abbrev e5 (g : Heap) (l1 l2 : Addr) : Heap := (e4 g l1 l2).push { cls := .type "zip", data := .fields #[.none, .bool false, .bool false, .ref (e2 g l1 l2).objs.size, .ref (e3 g l1 l2).objs.size] }
end
end Zq
namespace Zq
open PySem PySem.Spec PyProof.Rows L2
theorem five {z S T p1 p2 c : Addr} {M : Prop} (h : c ∈ [z, S, T, p1, p2]) (m1 : c = z → M) (m2 : c = S → M) (m3 : c = T → M) (m4 : c = p1 → M) (m5 : c = p2 → M) : M := by
  simp only [List.mem_cons, List.not_mem_nil, or_false] at h
  exact h.elim m1 fun h => h.elim m2 fun h => h.elim m3 fun h => h.elim m4 m5
end Zq
namespace Zq
open PySem PySem.Spec PyProof.Rows L2
open PySem.Sem (wp)
section
variable {prog : Program} {w : World} {A : Around} {E : Value → Shared → Prop} {s : Shared}
abbrev u1 (g : Heap) (l1 : Addr) : Heap := g.push { cls := .type "list_iterator", data := .fields #[.ref l1, .int 0 0] }
abbrev u2 (g : Heap) (l1 l2 : Addr) : Heap := (u1 g l1).push { cls := .type "tuple_iterator", data := .fields #[.ref l2, .int 0 0] }
end
end Zq
namespace Pw
open PySem PySem.Spec PyProof.Rows L2 Xg
open AutoSeq1 (wpAny_loadPart')
theorem en_new (t : Addr) (us : Array Value) (k : Nat) (q : Option Addr) (z : Array (Option Value)) :
    Meets (Builtin.«enumerate.__new__» ⟨[.type "enumerate", .ref t], []⟩) (fun _ R s => s.heap.get? t = some { cls := .type "tuple", dict := q, data := .seq us k, slots := z } ∧
      R (.ok (.ret (.ref (s.heap.push { cls := .type "tuple_iterator", data := .fields #[.ref t, .int 0 0] }).objs.size)))
        { s with heap := (s.heap.push { cls := .type "tuple_iterator", data := .fields #[.ref t, .int 0 0] }).push { cls := .type "enumerate", data := .fields #[.none, .bool false, .ref s.heap.objs.size, rawInt 0, .none, .none] } }) :=
  .of_wp fun prog w A R s h => by
    obtain ⟨h0, g0, d0, k0, o0⟩ := s
    obtain ⟨ht, h⟩ := h
    have su := sub_enumerate
    have hT : Heap.IsTuple (Shared.heap ⟨h0, g0, d0, k0, o0⟩) t us := ⟨_, ht, rfl, k, rfl⟩
    wp_walk using wpAny_loadPart' ht
    refine wpAny_stack_any fun st => wpAny_pure ?_
    split
    · rename_i c _ _ _ _ _
      cases (c == Value.type "enumerate")
      · wp_walk using wpAny_loadPart' ht, wpAny_pyIter_tuple hT
        exact ⟨_, rfl, h⟩
      · wp_walk using wpAny_loadPart' ht, wpAny_pyIter_tuple hT
        exact ⟨_, rfl, h⟩
    · wp_walk using wpAny_loadPart' ht, wpAny_pyIter_tuple hT
      exact ⟨_, rfl, h⟩
theorem call_en {prog : Program} {w : World} {A : Around} {E : Value → Shared → Prop} {s : Shared} {t : Addr} {us : Array Value} {Q : Value → Shared → Prop} (hT : s.heap.IsTuple t us)
    (h : ∀ g, IsEnum g (s.heap.objs.size + 1) s.heap.objs.size 0 .none → g.IsTupleIter s.heap.objs.size t 0 → (∀ c o, s.heap.get? c = some o → g.get? c = some o) → Q (.ref (s.heap.objs.size + 1)) { s with heap := g }) :
    wpAny (model prog w) A (call (.type "enumerate") [.ref t]) Q E s := by
  obtain ⟨⟨c0, dd, dt, sl⟩, ht, hc, k, hd⟩ := hT
  obtain rfl : c0 = .type "tuple" := hc
  obtain rfl : dt = .seq us k := hd
  refine callType_new F.called_enumerate (by decide) (F.typeCall_enumerate_1 _) (F.newCall_enumerate_1 _) (fun o => F.args_object_init_2 o _) F.entry_enumerate_new (en_new t us k dd sl) ⟨ht, ?_⟩
  generalize e1 : ({ cls := .type "tuple_iterator", data := .fields #[.ref t, .int 0 0] } : Obj) = ob
  have sz : (s.heap.push ob).objs.size = s.heap.objs.size + 1 := Heap.size_push ..
  show _ ∧ _
  rw [sz]
  have he : IsEnum ((s.heap.push ob).push { cls := .type "enumerate", data := .fields #[.none, .bool false, .ref s.heap.objs.size, rawInt 0, .none, .none] }) (s.heap.objs.size + 1) s.heap.objs.size 0 .none := by
    have z := Heap.get?_push_size (s.heap.push ob) (o := { cls := .type "enumerate", data := .fields #[.none, .bool false, .ref s.heap.objs.size, rawInt 0, .none, .none] }) rfl
    rw [sz] at z
    exact z
  refine ⟨⟨_, he, rfl⟩, h _ he ⟨ob, Heap.get?_push_of_some _ (Heap.get?_push_size _ (by subst e1; rfl)), by subst e1; rfl, by subst e1; rfl⟩ fun c o x => Heap.get?_push_of_some _ (Heap.get?_push_of_some _ x)⟩
def ItE (K : PySem.W.Frag) (a : Addr) : It where
  go := fun i H => ∃ (xs : List V) (x : V), SqT K H a xs ∧ xs[i]? = some x
  yld := fun i H v H' => ∃ T x, v = .ref T ∧ H T = none ∧ H' = upd H T (.tup [.int (i : Nat), x]) ∧ ∀ xs, SqT K H a xs → xs[i]? = some x
  stop := fun i H => ∃ xs : List V, SqT K H a xs ∧ xs.length = i
theorem turn_E {P : Program} {w : World} {K : PySem.W.Frag} {es : List Expr} {kk : Nat} {tp : Pos} (a e it : Addr) (n1 : e ≠ it) (n2 : a ≠ it) (n3 : e ≠ a) :
    Turn P w K (.Tuple es kk tp) (ItE K a) [e, it] e (fun i h => (∃ old, IsEnum h e it ((i : Nat) : Int) old) ∧ h.IsTupleIter it a i) where
  mem := List.mem_cons_self ..
  obj := fun i h st c hc => by
    obtain ⟨⟨old, he⟩, o, ho, _, hd⟩ := st
    rcases List.mem_cons.mp hc with z | z
    · subst z
      exact ⟨_, he, fun v q => nomatch q⟩
    · rw [List.mem_singleton.mp z]
      exact ⟨o, ho, fun v q => by rw [hd] at q; cases q⟩
  keep := fun i h h' st k => ⟨let ⟨old, he⟩ := st.1; ⟨old, k e (by simp) _ he⟩, st.2.at fun o q => k it (by simp) o q⟩
  item := by
    intro X hP hw hK hc i pins s σ H E I hf st hg
    subst hP hw hK
    obtain ⟨⟨old, he⟩, hit⟩ := st
    obtain ⟨xs, x, hq, hx⟩ := hg
    obtain ⟨us, rv, p, _⟩ := I.tuple hq
    obtain ⟨u, hu, ru⟩ := rv.get hx
    have l1 : e < s.heap.objs.size := Heap.lt_size he
    have l2 : it < s.heap.objs.size := let ⟨_, q, _⟩ := hit; Heap.lt_size q
    have il : i < us.toArray.size := by
      rw [List.size_toArray]
      exact (List.getElem?_eq_some_iff.mp hu).1
    refine wpAny_pyNext_enum_itemD (Draws.tuple (A := X.A.in1) (I.ok.hd hc) it a n2 us.toArray) he ⟨hit, p⟩ il n1 (by simp [n1, n3]) fun y g tk hy ho hs hT _ hk => ?_
    obtain rfl : u = y := by
      rw [List.getElem?_toArray, hu] at hy
      exact Option.some.inj hy
    refine ⟨_, rfl, wpAny_letOwnedTupleGo_enum (s := { s with heap := g, toks := tk + 1 }) ho fun g2 he2 sb => ?_⟩
    have hT2 := (sb.2 _ (Nat.ne_of_gt l1)).trans hT
    have ok : ObjOk X.prog X.w (upd H s.heap.objs.size (.tup [.int (i : Nat), x])) g2 s.heap.objs.size (.tup [.int (i : Nat), x]) :=
      ⟨by show 2 ≤ sizeLine; decide, [.int i tk, u], .cons ⟨_, rfl⟩ (.cons ru .nil), ⟨_, hT2, rfl, _, rfl⟩⟩
    have J : Inv X pins σ (upd H s.heap.objs.size (.tup [.int (i : Nat), x])) { s with heap := g2, toks := tk + 1 } :=
      I.turnedNew (ch := [e, it]) (fun c ob hb q => by
        rw [List.mem_cons, List.mem_singleton, not_or] at hb
        exact (sb.2 c hb.1).trans (hk c ob hb.1 hb.2 q)) hf (Nat.le_refl _) ok
    refine ⟨.ref s.heap.objs.size, _, J, rfl, ⟨_, x, rfl, I.hok.fresh (Nat.le_refl _), rfl, fun ys hy => ?_⟩, ⟨⟨u, ?_⟩, hs.1.at fun o q => (sb.2 it n1.symm).trans q⟩, fun c hc => ?_⟩
    · rw [I.tuple_inj hy hq]
      exact hx
    · rw [show ((i + 1 : Nat) : Int) = (i : Int) + 1 by omega]
      exact he2
    · have lc : c < s.heap.objs.size := by
        rcases List.mem_cons.mp hc with z | z
        · rw [z]; exact l1
        · rw [List.mem_singleton.mp z]; exact l2
      rw [upd_ne (Nat.ne_of_lt lc)]
      exact (hf c hc).1
  done := by
    intro X hP hw hK hc i pins s σ H E I hf st hg
    subst hP hw hK
    obtain ⟨⟨old, he⟩, hit⟩ := st
    obtain ⟨xs, hq, hx⟩ := hg
    obtain ⟨us, rv, p, _⟩ := I.tuple hq
    obtain ⟨f0, f1, f2, f3, f4, f5⟩ := hf it (by simp)
    have ln : i = us.toArray.size := by
      rw [List.size_toArray, ← rv.length]
      exact hx.symm
    subst ln
    exact wpAny_pyNext_enum_endD (Draws.tuple (A := X.A.in1) (I.ok.hd hc) it a n2 us.toArray) he ⟨hit, p⟩ fun g eb => ⟨rfl, I.turned (t' := s.toks) (fun c o hb q => eb c o hb q) f0 f1 f3 f4 f5⟩
  self := fun A i s Q E st h => let ⟨⟨_, he⟩, _⟩ := st; wpAny_pyIter_enum he h
def iEnumX (K : PySem.W.Frag) (ta : TA) : TI := fun σ H R => ta σ H fun vs H1 => ∃ a xs, vs = [.ref a] ∧ ((SqL K H1 a xs ∧ R (Ite K a) H1) ∨ (SqT K H1 a xs ∧ R (ItE K a) H1))
theorem pi_enumX {X : Cx} {e : Expr} {ta : TA} {p pos tp : Pos} {es : List Expr} {kk : Nat} (hg : Gl X "enumerate") (hm : X.mg "enumerate" = none) (ha : PA X [e] ta) (hs : starEach [e] X.env = [(false, eval e X.env)] := by rfl) :
    PI X (.Tuple es kk tp) (.Call (.Name "enumerate" p) [e] [] pos) (iEnumX X.K ta) := by
  refine ⟨fun pins s σ H R I h => Call_ (ld_blt I hg hm boot_enumerate (PyProof.Rows.callWith_type1 (thn (ha.run pos pins s σ H _ I h) fun us s1 ⟨vs, H1, I1, r1, a, xs, ex, q⟩ => ?_) hs rfl))⟩
  subst ex
  cases r1 with
  | cons r rr =>
  cases rr
  cases r
  have fp : ∀ c ∈ [s1.heap.objs.size + 1, s1.heap.objs.size], FpOk X pins H1 c := fun c hc => by
    have le : s1.heap.objs.size ≤ c := by
      rcases List.mem_cons.mp hc with z | z
      · rw [z]; exact Nat.le_add_right _ 1
      · rw [List.mem_singleton.mp z]; exact Nat.le_refl _
    exact I1.fpOk le (I1.hok.fresh le)
  rcases q with ⟨hq, q⟩ | ⟨hq, q⟩
  · obtain ⟨is, _, m1, _⟩ := I1.list hq
    refine call_enumerate_list m1.isList fun g he hit _ hk => wpAny_pyIter_enum he ⟨_, _, _, _, H1, rfl, I1.kept (t' := s1.toks) hk, turn_enum a (s1.heap.objs.size + 1) s1.heap.objs.size, ⟨⟨.none, he⟩, hit, Nat.succ_ne_self _⟩, fp, q⟩
  · obtain ⟨is, _, m1, _⟩ := I1.tuple hq
    have la : a < s1.heap.objs.size := let ⟨_, e, _⟩ := id m1; Heap.lt_size e
    refine call_en (show s1.heap.IsTuple a is.toArray from m1) fun g he hit hk => wpAny_pyIter_enum he ⟨_, _, _, _, H1, rfl, I1.kept (t' := s1.toks) hk,
      turn_E a (s1.heap.objs.size + 1) s1.heap.objs.size (Nat.succ_ne_self _) (Nat.ne_of_lt la) (Nat.ne_of_gt (Nat.lt_succ_of_lt la)), ⟨⟨.none, he⟩, hit⟩, fp, q⟩
theorem walk_E {K : PySem.W.Frag} {a : Addr} {xs : List V} : Walk (ItE K a) xs.length (fun H => SqT K H a xs) (YPair (fun i => some (.int (i : Nat))) (fun i => xs[i]?)) :=
  ⟨fun i _ hi q => ⟨xs, xs[i], q, List.getElem?_eq_getElem _⟩, fun _ q => ⟨xs, q, rfl⟩, fun i H v H' _ q ⟨T, x, g1, g2, g3, g4⟩ => ⟨T, .int (i : Nat), x, g1, g2, g3, rfl, g4 xs q⟩⟩
def iSeq (K : PySem.W.Frag) (tl : TE) : TI := fun σ H R => tl σ H fun x H1 => ∃ a, x = .ref a ∧ (((∃ xs, SqL K H1 a xs) ∧ R (Itl K a) H1) ∨ ((∃ xs, SqT K H1 a xs) ∧ R (Itt K a) H1))
theorem pi_seq {X : Cx} {tg l : Expr} {tl : TE} (hl : PE X l tl) : PI X tg l (iSeq X.K tl) := by
  refine ⟨fun pins s σ H R I h => thn (hl.run pins s σ H _ I h) fun v s1 ⟨x, H1, I1, r1, a, e, q⟩ => ?_⟩
  subst e
  cases r1
  have fp : ∀ c ∈ [s1.heap.objs.size], FpOk X pins H1 c := fun c hc => by
    rw [List.mem_singleton.mp hc]
    exact I1.fpOk (Nat.le_refl _) (I1.hok.fresh (Nat.le_refl _))
  rcases q with ⟨⟨xs, hq⟩, q⟩ | ⟨⟨xs, hq⟩, q⟩
  · obtain ⟨is, _, m1, _⟩ := I1.list hq
    exact wpAny_pyIter_list m1.isList ⟨_, _, _, _, H1, rfl, I1.kept (t' := s1.toks) fun c o e => Heap.get?_push_of_some _ e, turn_list a _, ⟨_, Heap.get?_push_size _ rfl, rfl, rfl⟩, fp, q⟩
  · obtain ⟨is, _, m1, _⟩ := I1.tuple hq
    exact wpAny_pyIter_tuple (show s1.heap.IsTuple a is.toArray from m1) ⟨_, _, _, _, H1, rfl, I1.kept (t' := s1.toks) fun c o e => Heap.get?_push_of_some _ e, turn_tuple a _, ⟨_, Heap.get?_push_size _ rfl, rfl, rfl⟩, fp, q⟩
theorem sl_or {X : Cx} {r1 r2 : V → Option Int → Option Int → Hp → VK → Prop} (a : SlR X r1) (b : SlR X r2) : SlR X (fun x lo hi H Q => r1 x lo hi H Q ∨ r2 x lo hi H Q) :=
  fun pins s σ H x v vl vu lo hi sl Q I rx hs pl pu h => h.elim (a pins s σ H x v vl vu lo hi sl Q I rx hs pl pu) (b pins s σ H x v vl vu lo hi sl Q I rx hs pl pu)
end Pw
namespace Dv
open PySem PySem.Spec PyProof.Rows L2 Xg
open Classical
section
variable {K : PySem.W.Frag} {md : Bool} {ta tb te : TE} {ca cb c : Nat} {fa fb fe : FE}
abbrev aNil : FA := fun _ Q => Q []
abbrev aCons (f : FE) (g : FA) : FA := fun ρ Q => f ρ fun d => g ρ fun as => Q (.dt d :: as)
abbrev aBox (i : Nat) (g : FA) : FA := fun ρ Q => match ρ[i]? with
  | some .box => g ρ fun as => Q (.box :: as)
  | _ => False
abbrev aScr (i : Nat) (g : FA) : FA := fun ρ Q => match ρ[i]? with
  | some (.scr ns) => g ρ fun as => Q (.scr ns :: as)
  | _ => False
theorem ArgR.step {b : Option Addr} {S : Addr → Prop} {H H' : Hp} {v : V} {s : Sl} (h : ArgR K b S H v s) (st : Stp K b H H') (bs : ∀ p, b = some p → S p) : ArgR K b S H' v s := by
  cases s with
  | dt d => exact Da.mono (st.rm bs) h
  | box => exact h
  | scr ns =>
    obtain ⟨p, e, g⟩ := h
    exact ⟨p, e, Evl.ex_l (st.rm bs) g⟩
  | op g => exact TbO.mono (st.rm bs) h
  | fn k ds => exact LamV.mono (st.rm bs) h
  | exc k ds => exact h.elim
  | dct k => exact h.elim
  | dck k => exact DcO.mono (st.rm bs) h
  | frt k => exact h.elim
  | no => exact h.elim
  | own _ => exact h.elim
theorem snda_nil : SndA K tNil 0 aNil := ⟨fun ρ P P' h g => h _ g, fun E hm hf k => k _ _ _ hf Stp.refl E.bx .nil⟩
variable {tr : TA} {fr : FA} {cr n : Nat}
theorem snda_cons (a : Snd true K ta ca fa) (r : SndA K tr cr fr) : SndA K (tCons ta tr) (ca + cr) (aCons fa fr) :=
  ⟨fun ρ P P' h g => a.mono _ _ _ (fun d => r.mono _ _ _ fun ds => h _) g, fun E hm hf k => a.go E (by omega) hf fun d v H1 h1 s1 b1 d1 =>
    r.go (E.step s1 b1) (by omega) h1 fun ds vs H2 h2 s2 b2 d2 => k _ _ _ h2 (s1.trans s2) (b2.le (by omega)) (.cons (Da.mono (s2.rm E.bs) d1) d2)⟩
theorem snda_box {i : Nat} (r : SndA K tr cr fr) : SndA K (tCons (tVar i) tr) cr (aBox i fr) :=
  ⟨fun ρ P P' h g => by
      unfold aBox at g ⊢
      split at g
      · exact r.mono _ _ _ (fun ds => h _) g
      · exact g.elim,
   fun {b S m σ H ρ Q P} E hm hf k => by
      unfold aBox at hf
      split at hf
      · rename_i e
        obtain ⟨p, e1, e2⟩ := E.sl i _ e
        exact ⟨.ref p, e1, r.go E hm hf fun ds vs H2 h2 s2 b2 d2 => k _ _ _ h2 s2 b2 (.cons ⟨p, rfl, e2⟩ d2)⟩
      · exact hf.elim⟩
theorem snda_scr {i : Nat} (r : SndA K tr cr fr) : SndA K (tCons (tVar i) tr) cr (aScr i fr) :=
  ⟨fun ρ P P' h g => by
      unfold aScr at g ⊢
      split at g
      · exact r.mono _ _ _ (fun ds => h _) g
      · exact g.elim,
   fun {b S m σ H ρ Q P} E hm hf k => by
      unfold aScr at hf
      split at hf
      · rename_i ns e
        obtain ⟨p, e1, e2⟩ := E.sl i _ e
        exact ⟨.ref p, e1, r.go E hm hf fun ds vs H2 h2 s2 b2 d2 => k _ _ _ h2 s2 b2 (.cons ⟨p, rfl, Evl.ex_l (s2.rm E.bs) e2⟩ d2)⟩
      · exact hf.elim⟩
abbrev FF := List Sl → (PyData → Prop) → Prop
def spD (K : PySem.W.Frag) (c : Nat) (F : FF) : Sp := fun vs H Q _ => ∃ (b : Option Addr) (S : Addr → Prop) (m : Nat) (as : List Sl), ArgL K b S H vs as ∧ BxO b H m ∧ (∀ p, b = some p → S p) ∧ (Al S H ∧ Tbs K H) ∧ m + c ≤ LIM ∧
  F as (fun d => ∀ v H', Stp K b H H' → BxO b H' (m + c) → Da K (rm H' S) v d → Q v H')
def MonoF (F : FF) : Prop := ∀ as (P P' : PyData → Prop), (∀ d, P d → P' d) → F as P → F as P'
abbrev eCall (F : FF) (fr : FA) : FE := fun ρ Q => fr ρ fun as => F as Q
theorem snd_call {F : FF} (mF : MonoF F) (r : SndA K tr cr fr) : Snd true K (tCallG (spD K c F) tr) (cr + c) (eCall F fr) := mk_snd
  (fun ρ P P' h g => r.mono _ _ _ (fun as => mF as _ _ h) g)
  (fun {b S m σ H ρ Q P} E hm hf k => r.go E (by omega) hf fun as vs H1 h1 s1 b1 d1 => ⟨b, S, m + cr, as, d1, b1, E.bs, ⟨(E.step s1 b1).al, (E.step s1 b1).tb⟩, by omega,
    mF _ _ _ (fun d p v H' s2 b2 d2 => k _ _ _ p (s1.trans s2) (b2.le (by omega)) d2) h1⟩)
theorem VwL.args {b : Option Addr} {S : Addr → Prop} {H : Hp} (bs : ∀ p, b = some p → S p) : ∀ {vs : List V} {ds : List PyData}, VwL md K b S H vs ds → ArgL K b (fun a => b = some a) H vs (ds.map Sl.dt)
  | _, _, .nil => .nil
  | v :: vs, d :: ds, .cons h g => .cons (show Da K (rm H fun a => b = some a) v d from by
      cases h.vw with
      | st h1 => exact h1.mono (rm_sub bs)
      | ow n h1 g1 => exact .lst (rm_in n h1) (g1.mono (rm_sub bs))) (VwL.args bs g)
abbrev FG := PyData → List Sl → (List Sl → Prop) → Prop
abbrev FGs := List PyData → List Sl → (List Sl → Prop) → Prop
structure Kpt (vs : List Nat) (σ σ' : L2.St) (ρ ρ' : List Sl) : Prop where
  sg : wipe σ' vs = wipe σ vs
  own : ∀ (i : Nat) (s : Sl), ρ'[i]? = some s → isOw s = true → ρ[i]? = some s ∧ σ'[i]? = σ[i]?
theorem Kpt.refl {vs : List Nat} {σ : L2.St} {ρ : List Sl} : Kpt vs σ σ ρ ρ := ⟨rfl, fun i ds h _ => ⟨h, rfl⟩⟩
theorem Kpt.trans {vs : List Nat} {σ σ1 σ2 : L2.St} {ρ ρ1 ρ2 : List Sl} (h : Kpt vs σ σ1 ρ ρ1) (g : Kpt vs σ1 σ2 ρ1 ρ2) : Kpt vs σ σ2 ρ ρ2 :=
  ⟨g.sg.trans h.sg, fun i ds e o => let ⟨e1, e2⟩ := g.own i ds e o; let ⟨e3, e4⟩ := h.own i ds e1 o; ⟨e3, e2.trans e4⟩⟩
theorem wipe_set {x : Option V} {i : Nat} : ∀ {vs : List Nat} {σ : L2.St}, i ∈ vs → wipe (σ.set i x) vs = wipe σ vs
  | v :: vs, σ, h => by
    unfold wipe
    by_cases e : i ∈ vs
    · rw [wipe_set e]
    · have z : i = v := (List.mem_cons.mp h).resolve_right e
      subst z
      have q : ∀ {vs : List Nat} {σ : L2.St}, i ∉ vs → wipe (σ.set i x) vs = (wipe σ vs).set i x := by
        intro vs
        induction vs with
        | nil => intro σ _; rfl
        | cons v vs ih =>
          intro σ hn
          rw [List.mem_cons, not_or] at hn
          unfold wipe
          rw [ih hn.2, List.set_comm _ _ hn.1]
      rw [q e, List.set_set]
theorem wipe_get : ∀ {vs : List Nat} {σ : L2.St} {i : Nat}, (wipe σ vs)[i]? = if i ∈ vs then σ[i]?.map (fun _ => none) else σ[i]?
  | [], σ, i => by simp [wipe]
  | v :: vs, σ, i => by
    unfold wipe
    rw [List.getElem?_set, wipe_length, wipe_get (vs := vs)]
    by_cases e : v = i
    · subst e
      rw [if_pos rfl, if_pos (List.mem_cons_self ..)]
      split
      · rename_i l
        rw [List.getElem?_eq_getElem l]
        rfl
      · rename_i l
        rw [List.getElem?_eq_none (by omega)]
        rfl
    · rw [if_neg e]
      by_cases q : i ∈ vs
      · rw [if_pos q, if_pos (List.mem_cons_of_mem _ q)]
      · rw [if_neg q, if_neg (by rw [List.mem_cons, not_or]; exact ⟨fun z => e z.symm, q⟩)]
theorem wipe_wipe {vs : List Nat} {σ : L2.St} : wipe (wipe σ vs) vs = wipe σ vs := List.ext_getElem? fun i => by
  rw [wipe_get, wipe_get]
  by_cases q : i ∈ vs
  · rw [if_pos q, if_pos q]
    cases σ[i]? <;> rfl
  · rw [if_neg q, if_neg q]
structure SndG (K : PySem.W.Frag) (g : TG) (vs : List Nat) (f : FG) : Prop where
  mono : ∀ d (ρ : List Sl) (P P' : List Sl → Prop), (∀ d, P d → P' d) → f d ρ P → f d ρ P'
  go : ∀ {b : Option Addr} {S : Addr → Prop} {m : Nat} {σ : L2.St} {H : Hp} {ρ : List Sl} {Q : L2.St → Hp → Prop} {P : List Sl → Prop} {v : V} {d : PyData}, DEnv K b S m H σ ρ → Da K (rm H S) v d → f d ρ P →
    (∀ ρ' σ', P ρ' → DEnv K b S m H σ' ρ' → Kpt vs σ σ' ρ ρ' → Q σ' H) → g v σ H Q
structure SndGs (K : PySem.W.Frag) (g : TGs) (vs : List Nat) (f : FGs) : Prop where
  mono : ∀ d (ρ : List Sl) (P P' : List Sl → Prop), (∀ d, P d → P' d) → f d ρ P → f d ρ P'
  go : ∀ {b : Option Addr} {S : Addr → Prop} {m : Nat} {σ : L2.St} {H : Hp} {ρ : List Sl} {Q : L2.St → Hp → Prop} {P : List Sl → Prop} {us : List V} {ds : List PyData}, DEnv K b S m H σ ρ → DaL K (rm H S) us ds → f ds ρ P →
    (∀ ρ' σ', P ρ' → DEnv K b S m H σ' ρ' → Kpt vs σ σ' ρ ρ' → Q σ' H) → g us σ H Q
theorem DEnv.set {b : Option Addr} {S : Addr → Prop} {m : Nat} {σ : L2.St} {H : Hp} {ρ : List Sl} {i : Nat} {v : V} {s : Sl} (E : DEnv K b S m H σ ρ) (h : ∀ x, x = some (some v) → SlR K b S H x s) : DEnv K b S m H (σ.set i (some v)) (ρ.set i s) :=
  ⟨by rw [List.length_set, List.length_set, E.len], fun j t e => by
    rw [List.getElem?_set] at e
    rw [List.getElem?_set]
    by_cases z : i = j
    · rw [if_pos z] at e ⊢
      rw [E.len]
      split at e
      · rename_i l
        cases e
        rw [if_pos l]
        exact h _ rfl
      · cases e
    · rw [if_neg z] at e ⊢
      exact E.sl j t e, E.bx, E.bs, E.al, E.tb⟩
abbrev gN (i : Nat) : FG := fun d ρ Q => Q (ρ.set i (.dt d))
theorem kpt_set {vs : List Nat} {σ : L2.St} {ρ : List Sl} {i : Nat} {v : V} {d : PyData} (hi : i ∈ vs) : Kpt vs σ (σ.set i (some v)) ρ (ρ.set i (.dt d)) :=
  ⟨wipe_set hi, fun j ds e o => by
    rw [List.getElem?_set] at e
    by_cases z : i = j
    · rw [if_pos z] at e
      split at e
      · cases e
        exact absurd o Bool.false_ne_true
      · cases e
    · rw [if_neg z] at e
      exact ⟨e, by rw [List.getElem?_set, if_neg z]⟩⟩
theorem sndg_name {i : Nat} {vs : List Nat} (hi : i ∈ vs) : SndG K (gName i) vs (gN i) :=
  ⟨fun d ρ P P' h g => h _ g, fun E hd hf k => k _ _ hf (E.set fun x e => ⟨_, e, hd⟩) (kpt_set hi)⟩
abbrev gsNil : FGs := fun ds ρ Q => match ds with
  | [] => Q ρ
  | _ => False
abbrev gsCons (f : FG) (g : FGs) : FGs := fun ds ρ Q => match ds with
  | d :: r => f d ρ fun ρ' => g r ρ' Q
  | [] => False
theorem sndgs_nil {vs : List Nat} : SndGs K gNil vs gsNil := ⟨fun d ρ P P' h g => by
    cases d with
    | nil => exact h _ g
    | cons => exact g.elim, fun E hd hf k => by
    cases hd with
    | nil => exact ⟨rfl, k _ _ hf E Kpt.refl⟩
    | cons _ _ => exact hf.elim⟩
theorem sndgs_cons {vs : List Nat} {g : TG} {u : TGs} {f : FG} {fu : FGs} (a : SndG K g vs f) (r : SndGs K u vs fu) : SndGs K (gCons g u) vs (gsCons f fu) := ⟨fun d ρ P P' h g => by
    cases d with
    | nil => exact g.elim
    | cons => exact a.mono _ _ _ _ (fun ρ' => r.mono _ _ _ _ h) g, fun E hd hf k => by
    cases hd with
    | nil => exact hf.elim
    | cons h1 h2 => exact ⟨_, _, rfl, a.go E h1 hf fun ρ1 σ1 p1 E1 k1 => r.go E1 h2 p1 fun ρ2 σ2 p2 E2 k2 => k _ _ p2 E2 (k1.trans k2)⟩⟩
abbrev gT (g : FGs) : FG := fun d ρ Q => match d with
  | .tuple ds => g ds ρ Q
  | .list ds => g ds ρ Q
  | _ => False
theorem sndg_tup {vs : List Nat} {k : Nat} {u : TGs} {fu : FGs} (r : SndGs K u vs fu) (hn : ∀ ds ρ P, fu ds ρ P → ds.length = k) : SndG K (fun v σ H Q => gTup K k u v σ H Q ∨ gLst K k u v σ H Q) vs (gT fu) := ⟨fun d ρ P P' h g => by
    cases d <;> first | exact r.mono _ _ _ _ h g | exact g.elim, fun E hd hf q => by
    cases hd with
    | tup h1 h2 => exact .inl ⟨_, _, rfl, .inl (.inl (rm_le _ _ h1)), by rw [h2.len]; exact hn _ _ _ hf, r.go E h2 hf q⟩
    | lst h1 h2 => exact .inr ⟨_, _, rfl, .inl (.inl (rm_le _ _ h1)), by rw [h2.len]; exact hn _ _ _ hf, r.go E h2 hf q⟩
    | _ => exact hf.elim⟩
theorem gs_len0 : ∀ ds ρ P, gsNil ds ρ P → ds.length = 0 := fun ds ρ P h => by
  cases ds with
  | nil => rfl
  | cons => exact h.elim
theorem gs_lenS {f : FG} {g : FGs} {k : Nat} (mf : ∀ d (ρ : List Sl) (P : List Sl → Prop), f d ρ P → ∃ ρ', P ρ') (h : ∀ ds ρ P, g ds ρ P → ds.length = k) : ∀ ds ρ P, gsCons f g ds ρ P → ds.length = k + 1 := fun ds ρ P e => by
  cases ds with
  | nil => exact e.elim
  | cons d r =>
    obtain ⟨ρ', z⟩ := mf _ _ _ e
    rw [List.length_cons, h _ _ _ z]
def KG (K : PySem.W.Frag) (md : Bool) (b : Option Addr) (S : Addr → Prop) (H1 H2 : Hp) : Prop := match md with
  | true => Evl.Ex (rm H1 S) (rm H2 S)
  | false => Stp K b H1 H2
def Wk (md : Bool) (K : PySem.W.Frag) (b : Option Addr) (S : Addr → Prop) (H1 : Hp) (J : It) (ds : List PyData) : Prop :=
  Walk J ds.length (fun H2 => KG K md b S H1 H2) (fun i H v H' => ∀ T, Evl.Ex (rm H1 S) (rm H T) → Al T H → Evl.Ex H H' ∧ ∃ d, ds[i]? = some d ∧ Da K (rm H' T) v d)
theorem KG.ex {b : Option Addr} {S : Addr → Prop} {H1 H2 : Hp} (h : KG K md b S H1 H2) (bs : ∀ p, b = some p → S p) : Evl.Ex (rm H1 S) (rm H2 S) := by
  cases md with
  | true => exact h
  | false => exact Stp.rm h bs
theorem KG.refl {b : Option Addr} {S : Addr → Prop} {H1 : Hp} : KG K md b S H1 H1 := by
  cases md with
  | true => exact Evl.Ex.refl _
  | false => exact Stp.refl
structure SndI (md : Bool) (K : PySem.W.Frag) (wi : TI) (c : Nat) (f : FD) : Prop where
  mono : ∀ (ρ : List Sl) (P P' : List PyData → Prop), (∀ d, P d → P' d) → f ρ P → f ρ P'
  go : ∀ {b : Option Addr} {S : Addr → Prop} {m : Nat} {σ : L2.St} {H : Hp} {ρ : List Sl} {R : It → Hp → Prop} {P : List PyData → Prop}, DEnv K b S m H σ ρ → m + c ≤ LIM → f ρ P →
    (∀ ds J H1, P ds → Stp K b H H1 → BxO b H1 (m + c) → Wk md K b S H1 J ds → R J H1) → wi σ H R
abbrev sq (Q : List PyData → Prop) : PyData → Prop
  | .list ds => Q ds
  | .tuple ds => Q ds
  | _ => False
theorem sq_mono {P P' : List PyData → Prop} (h : ∀ k, P k → P' k) : ∀ d, sq P d → sq P' d := fun d g => by
  cases d <;> first | exact h _ g | exact g.elim
theorem VD.seq {b : Option Addr} {S : Addr → Prop} {H1 : Hp} {Q : List PyData → Prop} {v : V} {d : PyData} (h : VD md K b S H1 v d) (q : sq Q d) (bs : ∀ p, b = some p → S p) :
    ∃ p xs ds, v = .ref p ∧ Q ds ∧ DaL K (rm H1 S) xs ds ∧ ((d = .list ds ∧ ∀ H2, KG K md b S H1 H2 → SqL K H2 p xs) ∨ (d = .tuple ds ∧ ∀ H2, KG K md b S H1 H2 → SqT K H2 p xs)) := by
  have vw := h.vw
  cases d with
  | list ds =>
    cases md with
    | true =>
      cases h with
      | lst h g => exact ⟨_, _, ds, rfl, q, g, .inl ⟨rfl, fun H2 k => .inl (.inl (rm_le _ _ (KG.ex (b := b) k bs _ _ h)))⟩⟩
    | false =>
      cases h with
      | st h =>
        cases h with
        | lst h g => exact ⟨_, _, ds, rfl, q, g, .inl ⟨rfl, fun H2 k => .inl (.inl (rm_le _ _ (KG.ex (b := b) k bs _ _ h)))⟩⟩
      | ow n h g => exact ⟨_, _, ds, rfl, q, g, .inl ⟨rfl, fun H2 k => .inl (.inl (k _ _ n h))⟩⟩
  | tuple ds =>
    have h2 : Da K (rm H1 S) v (.tuple ds) := by
      cases md with
      | true => exact h
      | false =>
        cases h with
        | st h => exact h
    cases h2 with
    | tup h3 g => exact ⟨_, _, ds, rfl, q, g, .inr ⟨rfl, fun H2 k => .inl (.inl (rm_le _ _ (KG.ex (b := b) k bs _ _ h3)))⟩⟩
  | _ => exact q.elim
abbrev fIt (f : FE) : FD := fun ρ Q => f ρ (sq Q)
theorem wk_of {b : Option Addr} {S : Addr → Prop} {H1 : Hp} {J : It} {ds : List PyData} {n : Nat} {G : Hp → Prop} {Y : Nat → Hp → V → Hp → Prop} (w : Walk J n G Y) (hn : n = ds.length) (hG : ∀ H2, KG K md b S H1 H2 → G H2)
    (hY : ∀ i H x H', i < n → Y i H x H' → ∀ T, Evl.Ex (rm H1 S) (rm H T) → Al T H → Evl.Ex H H' ∧ ∃ d, ds[i]? = some d ∧ Da K (rm H' T) x d) : Wk md K b S H1 J ds := by
  subst hn
  exact w.mono hG fun i H x H' hi _ y => hY i H x H' hi y
theorem at_of {S T : Addr → Prop} {H1 H : Hp} {xs : List V} {ds : List PyData} {i : Nat} {x : V} (g : DaL K (rm H1 S) xs ds) (hT : Evl.Ex (rm H1 S) (rm H T)) (e : xs[i]? = some x) : ∃ d, ds[i]? = some d ∧ Da K (rm H T) x d := by
  obtain ⟨d, e1, e2⟩ := g.at' e
  exact ⟨d, e1, e2.mono hT⟩
theorem sndi_seq (a : Snd md K ta ca fa) : SndI md K (Pw.iSeq K ta) ca (fIt fa) := ⟨fun ρ P P' h g => a.mono _ _ _ (sq_mono h) g,
  fun {b S m σ H ρ R P} E hm hf k => a.go E hm hf fun d v H1 p st bx vd => by
    obtain ⟨p1, xs, ds, rfl, q, g, hh⟩ := vd.seq p E.bs
    rcases hh with ⟨_, hL⟩ | ⟨_, hL⟩
    · exact ⟨p1, rfl, .inl ⟨⟨xs, hL _ KG.refl⟩, k ds _ H1 q st bx (wk_of (walk_list (xs := xs)) g.len hL fun i H x H' hi y T hT al => by
        obtain ⟨rfl, e⟩ := y
        exact ⟨Evl.Ex.refl _, at_of g hT e⟩)⟩⟩
    · exact ⟨p1, rfl, .inr ⟨⟨xs, hL _ KG.refl⟩, k ds _ H1 q st bx (wk_of (walk_tup (xs := xs)) g.len hL fun i H x H' hi y T hT al => by
        obtain ⟨rfl, e⟩ := y
        exact ⟨Evl.Ex.refl _, at_of g hT e⟩)⟩⟩⟩
def rangeD (lo : Int) (n : Nat) : List PyData := (List.range n).map fun k => .int (lo + (k : Nat))
abbrev asI (Q : Int → Prop) : PyData → Prop
  | .int i => Q i
  | _ => False
theorem asI_mono {P P' : Int → Prop} (h : ∀ k, P k → P' k) : ∀ d, asI P d → asI P' d := fun d g => by
  cases d <;> first | exact h _ g | exact g.elim
theorem asI_of {b : Option Addr} {S : Addr → Prop} {H : Hp} {Q : Int → Prop} {d : PyData} {v : V} (h : asI Q d) (g : VD md K b S H v d) : ∃ k, v = .int k ∧ Q k := by
  cases d with
  | int k => exact ⟨k, g.vw.int, h⟩
  | _ => exact h.elim
theorem wk_range {b : Option Addr} {S : Addr → Prop} {H1 : Hp} {lo : Int} {n : Nat} : Wk md K b S H1 (Itr lo n) (rangeD lo n) :=
  wk_of (walk_range (lo := lo) (n := n)) (by unfold rangeD; rw [List.length_map, List.length_range]) (fun _ _ => trivial) fun i H x H' hi y T hT al => by
    obtain ⟨rfl, rfl⟩ := y
    refine ⟨Evl.Ex.refl _, .int (lo + (i : Nat)), ?_, .int _⟩
    unfold rangeD
    rw [List.getElem?_map, List.getElem?_range hi]
    rfl
abbrev fRange1 (f : FE) : FD := fun ρ Q => f ρ (asI fun n => (-(2 ^ 62) ≤ n ∧ n < 2 ^ 62) ∧ Q (rangeD 0 n.toNat))
theorem sndi_range1 (a : Snd md K ta ca fa) {md2 : Bool} : SndI md2 K (iRng1 (tCons ta tNil)) ca (fRange1 fa) := ⟨fun ρ P P' h g => a.mono _ _ _ (asI_mono fun n z => ⟨z.1, h _ z.2⟩) g,
  fun {b S m σ H ρ R P} E hm hf k => a.go E hm hf fun d v H1 p st bx vd => by
    obtain ⟨n, rfl, h1, h2⟩ := asI_of p vd
    exact ⟨n, rfl, h1.1, h1.2, k _ _ _ h2 st bx wk_range⟩⟩
def enumD : Nat → List PyData → List PyData
  | _, [] => []
  | k, d :: ds => .tuple [.int k, d] :: enumD (k + 1) ds
theorem enumD_at : ∀ {ds : List PyData} {k i : Nat}, (enumD k ds)[i]? = ds[i]?.map fun d => .tuple [.int ((k + i : Nat) : Int), d]
  | [], k, i => by simp [enumD]
  | d :: ds, k, 0 => by simp [enumD]
  | d :: ds, k, i + 1 => by
    rw [enumD, List.getElem?_cons_succ, List.getElem?_cons_succ, enumD_at (ds := ds), show k + 1 + i = k + (i + 1) by omega]
theorem enumD_len : ∀ {ds : List PyData} {k : Nat}, (enumD k ds).length = ds.length
  | [], _ => rfl
  | d :: ds, k => by rw [enumD, List.length_cons, List.length_cons, enumD_len]
abbrev fEnum (f : FE) : FD := fun ρ Q => f ρ (sq fun ds => Q (enumD 0 ds))
theorem sndi_enum (a : Snd md K ta ca fa) : SndI md K (Pw.iEnumX K (tCons ta tNil)) ca (fEnum fa) := ⟨fun ρ P P' h g => a.mono _ _ _ (sq_mono fun ds => h _) g,
  fun {b S m σ H ρ R P} E hm hf k => a.go E hm hf fun d v H1 p st bx vd => by
    obtain ⟨p1, xs, ds, rfl, q, g, hh⟩ := vd.seq p E.bs
    have turn : ∀ (i : Nat) (H : Hp) (x : V) (H' : Hp), YPair (fun i => some (.int (i : Nat))) (fun i => xs[i]?) i H x H' → ∀ T, Evl.Ex (rm H1 S) (rm H T) → Al T H → Evl.Ex H H' ∧ ∃ d, (enumD 0 ds)[i]? = some d ∧ Da K (rm H' T) x d := fun i H x H' y T hT al => by
      obtain ⟨T, u, w, rfl, nT, rfl, eu, ew⟩ := y
      cases eu
      obtain ⟨d, e1, e2⟩ := at_of g hT ew
      refine ⟨Evl.Ex.new nT, _, ?_, new_tup al nT (.cons (.int _) (.cons e2 .nil))⟩
      rw [enumD_at, e1, Nat.zero_add]
      rfl
    rcases hh with ⟨_, hL⟩ | ⟨_, hL⟩
    · exact ⟨p1, xs, rfl, .inl ⟨hL _ KG.refl, k _ _ H1 q st bx (wk_of (walk_enum (xs := xs)) (by rw [enumD_len, g.len]) hL fun i H x H' hi => turn i H x H')⟩⟩
    · exact ⟨p1, xs, rfl, .inr ⟨hL _ KG.refl, k _ _ H1 q st bx (wk_of (Pw.walk_E (xs := xs)) (by rw [enumD_len, g.len]) hL fun i H x H' hi => turn i H x H')⟩⟩⟩
def compD (g : FG) (tt : FT) (te : FE) (ρ : List Sl) : List PyData → List PyData → (List PyData → Prop) → Prop
  | [], acc, Q => Q acc
  | d :: ds, acc, Q => g d ρ fun ρ' => tt ρ' fun k => if k = true then te ρ' fun y => compD g tt te ρ ds (acc ++ [y]) Q else compD g tt te ρ ds acc Q
def wipeD (ρ : List Sl) : List Nat → List Sl
  | [] => ρ
  | v :: vs => (wipeD ρ vs).set v .no
abbrev fYes : FT := fun _ Q => Q true
theorem sndt_yes : SndT K tYes 0 fYes := ⟨fun ρ P P' h g => h _ g, fun E hm hf k => k _ _ hf Stp.refl E.bx⟩
theorem SlR.grow {b : Option Addr} {S T : Addr → Prop} {H H' : Hp} {x : Option (Option V)} {s : Sl} (h : SlR K b S H x s) (e : Evl.Ex (rm H S) (rm H' T)) (sub : ∀ a, S a → T a) (kp : Stp K b H H') : SlR K b T H' x s := by
  cases s with
  | no => trivial
  | dt d => exact let ⟨v, e1, g⟩ := h; ⟨v, e1, g.mono e⟩
  | own ds => exact let ⟨p, vs, e1, s1, n, g, k⟩ := h; ⟨p, vs, e1, sub _ s1, n, kp _ _ n g, k.mono e⟩
  | box => exact h
  | scr ns => exact let ⟨p, e1, g⟩ := h; ⟨p, e1, Evl.ex_l e g⟩
  | op g => exact let ⟨v, e1, g⟩ := h; ⟨v, e1, g.mono e⟩
  | fn k ds => exact let ⟨v, e1, g⟩ := h; ⟨v, e1, g.mono e⟩
  | exc k ds => exact let ⟨v, e1, g⟩ := h; ⟨v, e1, g.mono e⟩
  | dct k => exact let ⟨p, vs, e1, s1, n, g, k⟩ := h; ⟨p, vs, e1, sub _ s1, n, kp _ _ n g, k.mono e⟩
  | dck k => exact let ⟨v, e1, g⟩ := h; ⟨v, e1, g.mono e⟩
  | frt k => exact let ⟨v, e1, g⟩ := h; ⟨v, e1, g.mono e⟩
theorem wipe_at : ∀ {vs : List Nat} {σ : L2.St} {ρ : List Sl} {i : Nat} {s : Sl}, σ.length = ρ.length → (wipeD ρ vs)[i]? = some s → s = .no ∨ (ρ[i]? = some s ∧ (wipe σ vs)[i]? = σ[i]?)
  | [], σ, ρ, i, s, _, h => .inr ⟨h, rfl⟩
  | v :: vs, σ, ρ, i, s, l, h => by
    unfold wipeD at h
    unfold wipe
    rw [List.getElem?_set] at h ⊢
    by_cases e : v = i
    · rw [if_pos e] at h
      split at h
      · cases h
        exact .inl rfl
      · cases h
    · rw [if_neg e] at h ⊢
      exact wipe_at l h
theorem wipeD_len : ∀ {vs : List Nat} {ρ : List Sl}, (wipeD ρ vs).length = ρ.length
  | [], _ => rfl
  | v :: vs, ρ => by unfold wipeD; rw [List.length_set, wipeD_len]
theorem DEnv.wipe {b : Option Addr} {S : Addr → Prop} {m : Nat} {H : Hp} {σ : L2.St} {ρ : List Sl} {vs : List Nat} (E : DEnv K b S m H σ ρ) : DEnv K b S m H (L2.wipe σ vs) (wipeD ρ vs) :=
  ⟨by rw [wipe_length, wipeD_len, E.len], fun i s e => by
    rcases wipe_at E.len e with rfl | ⟨e1, e2⟩
    · trivial
    · rw [e2]
      exact E.sl i s e1, E.bx, E.bs, E.al, E.tb⟩
theorem DEnv.hold {b : Option Addr} {S : Addr → Prop} {m n : Nat} {H H' : Hp} {σ : L2.St} {ρ : List Sl} {D : Addr} (E : DEnv K b S m H σ ρ) (nD : H D = none) (st : Stp K b H H') (bx : BxO b H' n) (hD : ∃ o, H' D = some o ∧ isTp o = false) : DEnv K b (fun a => S a ∨ a = D) n H' σ ρ := by
  have ex : Evl.Ex (rm H S) (rm H' fun a => S a ∨ a = D) := fun a o h => by
    obtain ⟨n1, h1⟩ := rm_some h
    have ne : a ≠ D := fun z => by rw [z, nD] at h1; cases h1
    exact rm_in (fun z => z.elim n1 ne) ((st a o (fun z => n1 (E.bs a z)) h1).eq (rm_nt h)) (rm_nt h)
  exact ⟨E.len, fun i s e => (E.sl i s e).grow ex (fun a h => .inl h) st, bx, fun p e => .inl (E.bs p e), fun a h => by
    rcases h with h | rfl
    · exact E.al.step st bx a h
    · exact hD, E.tb.step E.bx st⟩
theorem stp_new {b : Option Addr} {H H' : Hp} {p : Addr} {o : HO} {xs : List V} (st : Stp K b H H') (np : H p = none) (e : H' p = some (.lst xs)) : Stp K b H (upd H' p o) := fun a u n h =>
  (st a u n h).trans fun u' h' => .lst (ne_of_none h np) h' e
variable {wi : TI} {fi : FD} {ci : Nat} {g : TG} {fg : FG} {vs : List Nat} {tt : TT} {ft : FT} {ct ce : Nat}
theorem compD_mono (hg : ∀ d (ρ : List Sl) (P P' : List Sl → Prop), (∀ d, P d → P' d) → fg d ρ P → fg d ρ P') (t : ∀ (ρ : List Sl) (P P' : Bool → Prop), (∀ d, P d → P' d) → ft ρ P → ft ρ P')
    (e : ∀ (ρ : List Sl) (P P' : PyData → Prop), (∀ d, P d → P' d) → fe ρ P → fe ρ P') {ρ : List Sl} {P P' : List PyData → Prop} (h : ∀ d, P d → P' d) : ∀ (ds acc : List PyData), compD fg ft fe ρ ds acc P → compD fg ft fe ρ ds acc P'
  | [], acc, q => h _ q
  | d :: ds, acc, q => hg _ _ _ _ (fun ρ' => t _ _ _ fun k z => by
      cases k with
      | true => exact e _ _ _ (fun y => compD_mono hg t e h ds _) z
      | false => exact compD_mono hg t e h ds _ z) q
abbrev fComp (N : Nat) (fi : FD) (vs : List Nat) (fg : FG) (ft : FT) (fe : FE) : FD := fun ρ Q => fi ρ fun ds => ds.length ≤ N ∧ compD fg ft fe (wipeD ρ vs) ds [] Q
theorem sndl_comp {N : Nat} (hN : N ≤ 1000000) (i : SndI false K wi ci fi) (hg : SndG K g vs fg) (t : SndT K tt ct ft) (e : Snd true K te ce fe) : SndL K (tLc wi g tt te vs) (ci + N * (ct + ce)) (fComp N fi vs fg ft fe) := by
  refine ⟨fun ρ P P' h q => i.mono _ _ _ (fun ds z => ⟨z.1, compD_mono hg.mono t.mono e.mono h _ _ z.2⟩) q, fun {b S m σ H ρ Q P} E hm hf k => i.go E (by omega) hf fun ds J H1 p st bx wk => ?_⟩
  obtain ⟨hn, hc⟩ := p
  intro D nD
  have E1 := E.step st bx
  have nD0 : H D = none := back st bx nD
  have bD : b ≠ some D := fun z => by
    rw [z] at bx
    obtain ⟨_, _, _, _, _, _, _, _, e2⟩ := bx
    rw [nD] at e2
    cases e2
  refine lc_it (w := wk) (fun j H2 => ∃ (acc : List PyData) (xs : List V), Stp K b H1 H2 ∧ BxO b H2 (m + ci + j * (ct + ce)) ∧ H2 D = some (.lst xs) ∧ xs.length ≤ j ∧ DaL K (rm H2 fun a => S a ∨ a = D) xs acc ∧ compD fg ft fe (wipeD ρ vs) (ds.drop j) acc P)
    ⟨[], [], Stp.ex (Evl.Ex.new nD), (bx.ex (Evl.Ex.new nD)).le (by omega), upd_same, Nat.le_refl _, .nil, hc⟩ (fun j H2 hj pe => ?_) (fun j x H2 H3 hj pe y => ?_) (fun H2 pe => ?_)
  · obtain ⟨acc, xs, s2, _⟩ := pe
    exact s2
  · obtain ⟨acc, xs, s2, b2, hD, hl, hx, hc⟩ := pe
    have al2 : Al (fun a => S a ∨ a = D) H2 := (E1.hold nD s2 b2 ⟨_, hD, rfl⟩).al
    have exT : Evl.Ex (rm H1 S) (rm H2 fun a => S a ∨ a = D) := fun a o h => by
      obtain ⟨n1, h1⟩ := rm_some h
      exact rm_in (fun z => z.elim n1 fun w => by rw [w, nD] at h1; cases h1) ((s2 a o (fun z => n1 (E.bs a z)) h1).eq (rm_nt h)) (rm_nt h)
    obtain ⟨e23, d, ed, hd3⟩ := y _ exT al2
    have nj : (j + 1) * (ct + ce) = j * (ct + ce) + (ct + ce) := by rw [Nat.add_mul, Nat.one_mul]
    have le : (j + 1) * (ct + ce) ≤ N * (ct + ce) := Nat.mul_le_mul_right _ (by omega)
    have ej := List.getElem?_eq_some_iff.mp ed
    rw [List.drop_eq_getElem_cons ej.1, ej.2] at hc
    have s3 : Stp K b H1 H3 := s2.trans (Stp.ex e23)
    have b3 := b2.ex e23
    have hD3 := e23 _ _ hD
    have E3 := E1.hold nD s3 b3 ⟨_, hD3, rfl⟩
    refine hg.go (DEnv.wipe (vs := vs) E3) hd3 hc fun ρ4 σ4 h4 E4 k4 => ⟨?_, ?_⟩
    · rw [k4.sg, wipe_wipe]
    refine t.go E4 (by omega) h4 fun q H5 h5 s5 b5 => ?_
    cases q with
    | true =>
      rw [if_pos rfl] at h5 ⊢
      refine e.go (E4.step s5 b5) (by omega) h5 fun z v H6 h6 s6 b6 d6 => ?_
      have hD6 : H6 D = some (.lst xs) := s6 _ _ bD (s5 _ _ bD hD3)
      have s16 := (s3.trans s5).trans s6
      have hx6 : DaL K (rm H6 fun a => S a ∨ a = D) xs acc := hx.mono (((rm_ex e23).trans (s5.rm E4.bs)).trans (s6.rm E4.bs))
      have out : Evl.Ex (rm H6 fun a => S a ∨ a = D) (rm (upd H6 D (.lst (xs ++ [v]))) fun a => S a ∨ a = D) := rm_mono fun a o n _ h => by
        rw [upd_ne fun z => n (.inr z)]
        exact h
      refine ⟨xs, hD6, Nat.lt_of_le_of_lt (Nat.le_trans hl (by omega)) (show 1000000 < sizeLine by decide), acc ++ [z], xs ++ [v], stp_new s16 nD hD6, ?_, upd_same, ?_, (hx6.app (.cons d6 .nil)).mono out, h6⟩
      · have b7 : BxO b H6 (m + ci + (j + 1) * (ct + ce)) := b6.le (by omega)
        cases b with
        | none => trivial
        | some p =>
          obtain ⟨x1, y1, z1, g1, g2, g3, g4, g5, g6⟩ := b7
          exact ⟨x1, y1, z1, g1, g2, g3, g4, g5, by rw [upd_ne fun z => bD (by rw [z])]; exact g6⟩
      · rw [List.length_append]
        exact Nat.succ_le_succ hl
    | false =>
      rw [if_neg Bool.false_ne_true] at h5 ⊢
      exact ⟨acc, xs, s3.trans s5, b5.le (by omega), s5 _ _ bD hD3, Nat.le_succ_of_le hl, hx.mono ((rm_ex e23).trans (s5.rm E4.bs)), h5⟩
  · obtain ⟨acc, xs, s2, b2, hD, hl, hx, hc⟩ := pe
    rw [List.drop_length] at hc
    have le : ds.length * (ct + ce) ≤ N * (ct + ce) := Nat.mul_le_mul_right _ hn
    exact k acc xs D H2 hc nD0 (st.trans s2) (b2.le (by omega)) hD hx
end
end Dv
namespace Dv
open PySem PySem.Spec PyProof.Rows L2 Xg
open Classical
structure DEnds where
  nx : List Sl → Prop
  rt : PyData → Prop
  rl : List PyData → Prop
  bk : List Sl → Prop := fun _ => False
  ct : List Sl → Prop := fun _ => False
structure DLe (E E' : DEnds) : Prop where
  nx : ∀ ρ, E.nx ρ → E'.nx ρ
  rt : ∀ d, E.rt d → E'.rt d
  rl : ∀ d, E.rl d → E'.rl d
  bk : ∀ ρ, E.bk ρ → E'.bk ρ
  ct : ∀ ρ, E.ct ρ → E'.ct ρ
theorem DLe.refl {E : DEnds} : DLe E E := ⟨fun _ h => h, fun _ h => h, fun _ h => h, fun _ h => h, fun _ h => h⟩
abbrev FS := List Sl → DEnds → Prop
def SO (G : Addr → Prop) (b : Option Addr) (os : Nat → Option Addr) : Addr → Prop := fun a => G a ∨ b = some a ∨ ∃ i, os i = some a
structure Ok (K : PySem.W.Frag) (G : Addr → Prop) (H0 : Hp) (b0 b : Option Addr) (os : Nat → Option Addr) (m : Nat) (H : Hp) (σ : L2.St) (ρ : List Sl) : Prop where
  env : DEnv K b (SO G b os) m H σ ρ
  inj : ∀ i j a, os i = some a → os j = some a → i = j
  new : ∀ i a, os i = some a → H0 a = none
  old : Stp K b0 H0 H
  bn : b = b0 ∨ ∀ p, b = some p → H0 p = none
  obx : BxO b0 H m
  bo : ∀ i a, os i = some a → b ≠ some a
  slo : ∀ (i : Nat) (s : Sl), ρ[i]? = some s → isOw s = true → ∃ p, os i = some p ∧ σ[i]? = some (some (.ref p))
  al0 : Al G H0
  bG : ∀ p, b0 = some p → G p
def Lk (S : Addr → Prop) (H : Hp) (S' : Addr → Prop) (H' : Hp) : Prop := ∀ a o, ¬ S a → isT o = false → H a = some o → H' a = some o ∧ ¬ S' a
theorem Lk.trans {S S1 S2 : Addr → Prop} {H H1 H2 : Hp} (h : Lk S H S1 H1) (g : Lk S1 H1 S2 H2) : Lk S H S2 H2 := fun a o n t e => let ⟨e1, n1⟩ := h a o n t e; g a o n1 t e1
theorem Lk.step {K : PySem.W.Frag} {b : Option Addr} {S : Addr → Prop} {H H' : Hp} (h : Stp K b H H') (bs : ∀ p, b = some p → S p) : Lk S H S H' := fun a o n t e => ⟨(h a o (fun z => n (bs a z)) e).eq t, n⟩
theorem Lk.refl {S : Addr → Prop} {H : Hp} : Lk S H S H := fun a o n _ e => ⟨e, n⟩
theorem Lk.kg {K : PySem.W.Frag} {b : Option Addr} {S S' : Addr → Prop} {H H' : Hp} (h : Lk S H S' H') : KG K true b S H H' := rm_mono fun a o n t e => (h a o n t e).1
section
variable {K : PySem.W.Frag} {G : Addr → Prop} {H0 : Hp} {b0 b : Option Addr} {os : Nat → Option Addr} {m n : Nat} {H H' : Hp} {σ : L2.St} {ρ : List Sl}
theorem Ok.step (h : Ok K G H0 b0 b os m H σ ρ) (st : Stp K b H H') (bx : BxO b H' n) (le : m ≤ n) : Ok K G H0 b0 b os n H' σ ρ := by
  have old : Stp K b0 H0 H' := fun c o n1 e => (h.old c o n1 e).trans fun o' e' => by
    refine st c o' (fun z => ?_) e'
    rcases h.bn with q | q
    · exact n1 (q ▸ z)
    · rw [q c z] at e
      cases e
  refine ⟨h.env.step st bx, h.inj, h.new, old, h.bn, ?_, h.bo, h.slo, h.al0, h.bG⟩
  rcases h.bn with q | q
  · rw [← q]
    exact bx
  · cases b0 with
    | none => trivial
    | some c =>
      obtain ⟨x, y, z, h1, h2, h3, h4, h5, h6⟩ := h.obx
      refine ⟨x, y, z, h1, h2, h3, h4, by omega, st _ _ (fun w => ?_) h6⟩
      exact h.al0.no c (h.bG c rfl) (q c w)
theorem Ok.le (h : Ok K G H0 b0 b os m H σ ρ) (l : m ≤ n) : Ok K G H0 b0 b os n H σ ρ := ⟨h.env.le l, h.inj, h.new, h.old, h.bn, h.obx.le l, h.bo, h.slo, h.al0, h.bG⟩
theorem Ok.kpt {σ' : L2.St} {ρ' : List Sl} {vs : List Nat} (h : Ok K G H0 b0 b os m H σ ρ) (E : DEnv K b (SO G b os) m H σ' ρ') (k : Kpt vs σ σ' ρ ρ') : Ok K G H0 b0 b os m H σ' ρ' :=
  ⟨E, h.inj, h.new, h.old, h.bn, h.obx, h.bo, fun i ds e o => by
    obtain ⟨e1, e2⟩ := k.own i ds e o
    obtain ⟨p, q1, q2⟩ := h.slo i ds e1 o
    exact ⟨p, q1, by rw [e2]; exact q2⟩, h.al0, h.bG⟩
structure Out (K : PySem.W.Frag) (G : Addr → Prop) (H0 : Hp) (b0 : Option Addr) (m : Nat) (H : Hp) : Prop where
  old : Stp K b0 H0 H
  obx : BxO b0 H m
structure Goes (K : PySem.W.Frag) (G : Addr → Prop) (H0 : Hp) (b0 : Option Addr) (m : Nat) (S : Addr → Prop) (H : Hp) (E : DEnds) (D : Ends) : Prop where
  nx : ∀ b os σ' H' ρ', E.nx ρ' → Ok K G H0 b0 b os m H' σ' ρ' → Lk S H (SO G b os) H' → D.nx σ' H'
  rt : ∀ d v H', E.rt d → Out K G H0 b0 m H' → Da K (rm H' G) v d → D.rt v H'
  rl : ∀ ds vs p H', E.rl ds → Out K G H0 b0 m H' → H0 p = none → H' p = some (.lst vs) → DaL K (rm H' fun a => G a ∨ a = p) vs ds → D.rt (.ref p) H'
  bk : ∀ b os σ' H' ρ', E.bk ρ' → Ok K G H0 b0 b os m H' σ' ρ' → Lk S H (SO G b os) H' → D.bk σ' H'
  ct : ∀ b os σ' H' ρ', E.ct ρ' → Ok K G H0 b0 b os m H' σ' ρ' → Lk S H (SO G b os) H' → D.ct σ' H'
theorem Goes.le {S : Addr → Prop} {E : DEnds} {D : Ends} (h : Goes K G H0 b0 n S H E D) (l : m ≤ n) : Goes K G H0 b0 m S H E D :=
  ⟨fun b os σ' H' ρ' e o => h.nx b os σ' H' ρ' e (o.le l), fun d v H' e o => h.rt d v H' e ⟨o.old, o.obx.le l⟩, fun ds vs p H' e o => h.rl ds vs p H' e ⟨o.old, o.obx.le l⟩, fun b os σ' H' ρ' e o => h.bk b os σ' H' ρ' e (o.le l), fun b os σ' H' ρ' e o => h.ct b os σ' H' ρ' e (o.le l)⟩
theorem Goes.from {S S1 : Addr → Prop} {H1 : Hp} {E : DEnds} {D : Ends} (h : Goes K G H0 b0 m S H E D) (l : Lk S H S1 H1) : Goes K G H0 b0 m S1 H1 E D :=
  ⟨fun b os σ' H' ρ' e o k => h.nx b os σ' H' ρ' e o (l.trans k), h.rt, h.rl, fun b os σ' H' ρ' e o k => h.bk b os σ' H' ρ' e o (l.trans k), fun b os σ' H' ρ' e o k => h.ct b os σ' H' ρ' e o (l.trans k)⟩
structure SndS (K : PySem.W.Frag) (t : TS) (c : Nat) (f : FS) : Prop where
  mono : ∀ (ρ : List Sl) (E E' : DEnds), DLe E E' → f ρ E → f ρ E'
  go : ∀ {G : Addr → Prop} {H0 : Hp} {b0 b : Option Addr} {os : Nat → Option Addr} {m : Nat} {H : Hp} {σ : L2.St} {ρ : List Sl} {D : Ends} {E : DEnds}, Ok K G H0 b0 b os m H σ ρ → m + c ≤ LIM → f ρ E →
    Goes K G H0 b0 (m + c) (SO G b os) H E D → t D σ H
theorem SO.g {a : Addr} (h : G a) : SO G b os a := .inl h
variable {t u : TS} {c cu ca ct : Nat} {f g : FS} {ta : TE} {fa : FE} {tt : TT} {ft : FT} {md : Bool}
abbrev sSkip : FS := fun ρ E => E.nx ρ
theorem snds_nil : SndS K tNext 0 sSkip := ⟨fun ρ E E' h q => h.nx _ q, fun ok hm hf k => k.nx _ _ _ _ _ hf ok Lk.refl⟩
abbrev sSeq (f g : FS) : FS := fun ρ E => f ρ { E with nx := fun ρ' => g ρ' E }
theorem snds_seq (a : SndS K t c f) (r : SndS K u cu g) : SndS K (tSeq t u) (c + cu) (sSeq f g) :=
  ⟨fun ρ E E' h q => a.mono ρ { E with nx := fun ρ' => g ρ' E } { E' with nx := fun ρ' => g ρ' E' } ⟨fun ρ' => r.mono _ _ _ h, h.rt, h.rl, h.bk, h.ct⟩ q, fun {G H0 b0 b os m H σ ρ D E} ok hm hf k => a.go ok (by omega) hf
    ⟨fun b1 os1 σ' H' ρ' e o l => r.go o (by omega) e ((k.le (by omega)).from l), fun d v H' e o => k.rt d v H' e ⟨o.old, o.obx.le (by omega)⟩, fun ds vs p H' e o => k.rl ds vs p H' e ⟨o.old, o.obx.le (by omega)⟩,
      fun b os σ' H' ρ' e o => k.bk b os σ' H' ρ' e (o.le (by omega)), fun b os σ' H' ρ' e o => k.ct b os σ' H' ρ' e (o.le (by omega))⟩⟩
abbrev sIf (t : FT) (f g : FS) : FS := fun ρ E => t ρ fun k => if k = true then f ρ E else g ρ E
theorem snds_if (a : SndT K tt ct ft) (x : SndS K t c f) (y : SndS K u cu g) : SndS K (tIfS tt t u) (ct + (c + cu)) (sIf ft f g) :=
  ⟨fun ρ E E' h q => a.mono _ _ _ (fun k z => by
      cases k with
      | true => exact x.mono _ _ _ h z
      | false => exact y.mono _ _ _ h z) q,
   fun ok hm hf k => a.go ok.env (by omega) hf fun q H1 p st bx => by
    have ok1 := ok.step st bx (by omega)
    have l := Lk.step st ok.env.bs
    cases q with
    | true => exact x.go ok1 (by omega) p ((k.le (by omega)).from l)
    | false => exact y.go ok1 (by omega) p ((k.le (by omega)).from l)⟩
abbrev sRet (f : FE) : FS := fun ρ E => f ρ E.rt
theorem Ok.out (h : Ok K G H0 b0 b os m H σ ρ) : Out K G H0 b0 m H := ⟨h.old, h.obx⟩
theorem snds_ret (a : Snd true K ta ca fa) : SndS K (tRet ta) ca (sRet fa) :=
  ⟨fun ρ E E' h q => a.mono _ _ _ h.rt q, fun ok hm hf k => a.go ok.env hm hf fun d v H' p st bx vd => k.rt d v H' p (ok.step st bx (by omega)).out (Da.mono (rm_sub fun a => SO.g) vd)⟩
variable {tg : TG} {fg : FG} {vs : List Nat}
abbrev sAsg (f : FE) (g : FG) : FS := fun ρ E => f ρ fun d => g d ρ E.nx
theorem snds_asg (a : Snd true K ta ca fa) (hg : SndG K tg vs fg) : SndS K (tAsg ta tg) ca (sAsg fa fg) :=
  ⟨fun ρ E E' h q => a.mono _ _ _ (fun d => hg.mono _ _ _ _ h.nx) q, fun ok hm hf k => a.go ok.env hm hf fun d v H' p st bx vd => by
    have ok1 := ok.step st bx (by omega)
    exact hg.go ok1.env vd p fun ρ' σ' q E1 kp => k.nx _ _ _ _ _ q (ok1.kpt E1 kp) (Lk.step st ok.env.bs)⟩
abbrev sOwn (f : FD) (i : Nat) : FS := fun ρ E => f ρ fun ds => E.nx (ρ.set i (.own ds))
def osSet (os : Nat → Option Addr) (i : Nat) (p : Addr) : Nat → Option Addr := fun j => if j = i then some p else os j
theorem os_at {i : Nat} {p : Addr} {j : Nat} {a : Addr} (h : osSet os i p j = some a) : (j = i ∧ a = p) ∨ (j ≠ i ∧ os j = some a) := by
  unfold osSet at h
  split at h
  · cases h
    exact .inl ⟨by assumption, rfl⟩
  · exact .inr ⟨by assumption, h⟩
theorem Ok.own {i : Nat} {p : Addr} {ds : List PyData} {xs : List V} (ok : Ok K G H0 b0 b os m H σ ρ) (np : H p = none) (st : Stp K b H H') (bx : BxO b H' n) (le : m ≤ n) (e : H' p = some (.lst xs)) (hd : DaL K (rm H' fun a => SO G b os a ∨ a = p) xs ds) :
    Ok K G H0 b0 b (osSet os i p) n H' (σ.set i (some (.ref p))) (ρ.set i (.own ds)) ∧ Lk (SO G b os) H (SO G b (osSet os i p)) H' := by
  have ok1 := ok.step st bx le
  have nS : ¬ SO G b os p := ok.env.al.new np
  have n0 : H0 p = none := back ok.old ok.obx np
  have sub : ∀ a, SO G b (osSet os i p) a → SO G b os a ∨ a = p := fun a h => by
    rcases h with h | h | ⟨j, h⟩
    · exact .inl (.inl h)
    · exact .inl (.inr (.inl h))
    · rcases os_at h with ⟨_, rfl⟩ | ⟨_, h⟩
      · exact .inr rfl
      · exact .inl (.inr (.inr ⟨j, h⟩))
  have Sp : SO G b (osSet os i p) p := .inr (.inr ⟨i, by unfold osSet; rw [if_pos rfl]⟩)
  have bp : b ≠ some p := fun z => nS (.inr (.inl z))
  have lk : Lk (SO G b os) H (SO G b (osSet os i p)) H' := fun a o n1 t h => ⟨(st a o (fun z => n1 (.inr (.inl z))) h).eq t, fun z => (sub a z).elim n1 fun w => by rw [w, np] at h; cases h⟩
  have ex : Evl.Ex (rm H (SO G b os)) (rm H' (SO G b (osSet os i p))) := fun a o h => by
    obtain ⟨n1, h1⟩ := rm_some h
    obtain ⟨g1, g2⟩ := lk a o n1 (rm_nt h) h1
    exact rm_in g2 g1 (rm_nt h)
  refine ⟨⟨⟨?_, fun j s h => ?_, bx, fun q h => .inr (.inl h), fun a h => ?_, ok1.env.tb⟩, fun j k a h1 h2 => ?_, fun j a h => ?_, ok1.old, ok.bn, ok1.obx, fun j a h => ?_, fun j es h ow => ?_, ok.al0, ok.bG⟩, lk⟩
  · rw [List.length_set, List.length_set]
    exact ok.env.len
  · rw [List.getElem?_set] at h ⊢
    by_cases z : i = j
    · rw [if_pos z] at h ⊢
      rw [ok.env.len]
      split at h
      · rename_i l
        cases h
        rw [if_pos l]
        exact ⟨p, xs, rfl, Sp, bp, e, hd.mono (rm_sub sub)⟩
      · cases h
    · rw [if_neg z] at h ⊢
      have q := ok.env.sl j s h
      cases s with
      | no => trivial
      | dt d => exact let ⟨v, e1, g⟩ := q; ⟨v, e1, g.mono ex⟩
      | own es =>
        obtain ⟨p1, ws, e1, s1, n1, g1, k1⟩ := q
        obtain ⟨p2, q1, q2⟩ := ok.slo j _ h rfl
        rw [e1] at q2
        cases q2
        refine ⟨p1, ws, e1, .inr (.inr ⟨j, ?_⟩), n1, st _ _ n1 g1, k1.mono ex⟩
        unfold osSet
        rw [if_neg fun w => z w.symm]
        exact q1
      | box => exact q
      | scr ns => exact let ⟨v, e1, g⟩ := q; ⟨v, e1, Evl.ex_l ex g⟩
      | op g => exact let ⟨v, e1, g⟩ := q; ⟨v, e1, g.mono ex⟩
      | fn k ds => exact let ⟨v, e1, g⟩ := q; ⟨v, e1, g.mono ex⟩
      | exc k ds => exact let ⟨v, e1, g⟩ := q; ⟨v, e1, g.mono ex⟩
      | dct ts =>
        obtain ⟨p1, ws, e1, s1, n1, g1, k1⟩ := q
        obtain ⟨p2, q1, q2⟩ := ok.slo j _ h rfl
        rw [e1] at q2
        cases q2
        refine ⟨p1, ws, e1, .inr (.inr ⟨j, ?_⟩), n1, st _ _ n1 g1, k1.mono ex⟩
        unfold osSet
        rw [if_neg fun w => z w.symm]
        exact q1
      | dck k => exact let ⟨v, e1, g⟩ := q; ⟨v, e1, g.mono ex⟩
      | frt k => exact let ⟨v, e1, g⟩ := q; ⟨v, e1, g.mono ex⟩
  · rcases sub a h with h | rfl
    · exact ok1.env.al a h
    · exact ⟨_, e, rfl⟩
  · rcases os_at h1 with ⟨r1, rfl⟩ | ⟨r1, w1⟩ <;> rcases os_at h2 with ⟨r2, q2⟩ | ⟨r2, w2⟩
    · rw [r1, r2]
    · exact absurd (Or.inr (Or.inr ⟨_, w2⟩)) nS
    · subst q2
      exact absurd (Or.inr (Or.inr ⟨_, w1⟩)) nS
    · exact ok.inj _ _ _ w1 w2
  · rcases os_at h with ⟨_, rfl⟩ | ⟨_, h⟩
    · exact n0
    · exact ok.new _ _ h
  · rcases os_at h with ⟨_, rfl⟩ | ⟨_, h⟩
    · exact bp
    · exact ok.bo _ _ h
  · rw [List.getElem?_set] at h ⊢
    by_cases z : i = j
    · rw [if_pos z] at h ⊢
      rw [ok.env.len]
      split at h
      · rename_i l
        rw [if_pos l]
        exact ⟨p, by unfold osSet; rw [if_pos z.symm], rfl⟩
      · cases h
    · rw [if_neg z] at h ⊢
      obtain ⟨p2, q1, q2⟩ := ok.slo j _ h ow
      refine ⟨p2, ?_, q2⟩
      unfold osSet
      rw [if_neg fun w => z w.symm]
      exact q1
theorem snds_own {fl : FD} {i : Nat} (a : SndL K ta ca fl) : SndS K (tAsg ta (gName i)) ca (sOwn fl i) :=
  ⟨fun ρ E E' h q => a.mono _ _ _ (fun d => h.nx _) q, fun ok hm hf k => a.go ok.env hm hf fun ds xs p H' h np st bx e g => by
    obtain ⟨o, l⟩ := ok.own (i := i) np st bx (by omega) e g
    exact k.nx _ _ _ _ _ h o l⟩
theorem Ok.mut {i : Nat} {ds es : List PyData} {p : Addr} {ys : List V} (ok : Ok K G H0 b0 b os m H σ ρ) (hi : ρ[i]? = some (.own ds)) (hp : σ[i]? = some (some (.ref p))) (hy : DaL K (rm H (SO G b os)) ys es) :
    Ok K G H0 b0 b os m (upd H p (.lst ys)) σ (ρ.set i (.own es)) ∧ Lk (SO G b os) H (SO G b os) (upd H p (.lst ys)) := by
  obtain ⟨p1, ws, e1, s1, n1, g1, k1⟩ := ok.env.sl i _ hi
  rw [hp] at e1
  cases e1
  obtain ⟨p2, q1, q2⟩ := ok.slo i _ hi rfl
  rw [hp] at q2
  cases q2
  have ex : Evl.Ex (rm H (SO G b os)) (rm (upd H p (.lst ys)) (SO G b os)) := rm_mono fun a o n _ h => by
    rw [upd_ne fun z => n (by rw [z]; exact s1)]
    exact h
  have n0 := ok.new _ _ q1
  have bxu : ∀ {c : Option Addr} {k : Nat}, c ≠ some p → BxO c H k → BxO c (upd H p (.lst ys)) k := fun {c k} hc h => by
    cases c with
    | none => trivial
    | some c =>
      obtain ⟨x, y, z, h1, h2, h3, h4, h5, h6⟩ := h
      exact ⟨x, y, z, h1, h2, h3, h4, h5, by rw [upd_ne fun w => hc (by rw [w])]; exact h6⟩
  refine ⟨⟨⟨by rw [List.length_set]; exact ok.env.len, fun j s h => ?_, bxu n1 ok.env.bx, ok.env.bs, fun a h => ?_, ok.env.tb.lst g1⟩, ok.inj, ok.new, stp_new ok.old n0 g1, ok.bn, bxu (fun z => ?_) ok.obx, ok.bo, fun j ts h ow => ?_, ok.al0, ok.bG⟩, fun a o n _ h => ⟨?_, n⟩⟩
  · rw [List.getElem?_set] at h
    by_cases z : i = j
    · subst z
      rw [if_pos rfl] at h
      split at h
      · cases h
        exact ⟨p, ys, hp, s1, n1, upd_same, hy.mono ex⟩
      · cases h
    · rw [if_neg z] at h
      have q := ok.env.sl j s h
      cases s with
      | no => trivial
      | dt d => exact let ⟨v, e1, g⟩ := q; ⟨v, e1, g.mono ex⟩
      | own ts =>
        obtain ⟨p3, us, e3, s3, n3, g3, k3⟩ := q
        obtain ⟨p4, r1, r2⟩ := ok.slo j _ h rfl
        rw [e3] at r2
        cases r2
        refine ⟨p3, us, e3, s3, n3, ?_, k3.mono ex⟩
        rw [upd_ne fun w => z (ok.inj _ _ _ q1 (by rw [← w]; exact r1))]
        exact g3
      | box => exact q
      | scr ns => exact let ⟨v, e1, g⟩ := q; ⟨v, e1, Evl.ex_l ex g⟩
      | op g => exact let ⟨v, e1, g⟩ := q; ⟨v, e1, g.mono ex⟩
      | fn k ds => exact let ⟨v, e1, g⟩ := q; ⟨v, e1, g.mono ex⟩
      | exc k ds => exact let ⟨v, e1, g⟩ := q; ⟨v, e1, g.mono ex⟩
      | dct ts =>
        obtain ⟨p3, us, e3, s3, n3, g3, k3⟩ := q
        obtain ⟨p4, r1, r2⟩ := ok.slo j _ h rfl
        rw [e3] at r2
        cases r2
        refine ⟨p3, us, e3, s3, n3, ?_, k3.mono ex⟩
        rw [upd_ne fun w => z (ok.inj _ _ _ q1 (by rw [← w]; exact r1))]
        exact g3
      | dck k => exact let ⟨v, e1, g⟩ := q; ⟨v, e1, g.mono ex⟩
      | frt k => exact let ⟨v, e1, g⟩ := q; ⟨v, e1, g.mono ex⟩
  · by_cases z : a = p
    · rw [z]
      exact ⟨_, upd_same, rfl⟩
    · rw [upd_ne z]
      exact ok.env.al a h
  · exact ok.al0.no _ (ok.bG _ z) n0
  · rw [List.getElem?_set] at h
    by_cases z : i = j
    · subst z
      exact ⟨p, q1, hp⟩
    · rw [if_neg z] at h
      exact ok.slo j _ h ow
  · rw [upd_ne fun z => n (by rw [z]; exact s1)]
    exact h
abbrev ownQ (ρ : List Sl) (i : Nat) (Q : List PyData → Prop) : Prop := match ρ[i]? with
  | some (.own ds) => Q ds
  | _ => False
theorem ownQ_of {i : Nat} {Q : List PyData → Prop} (h : ownQ ρ i Q) : ∃ ds, ρ[i]? = some (.own ds) ∧ Q ds := by
  unfold ownQ at h
  split at h
  · exact ⟨_, by assumption, h⟩
  · exact h.elim
theorem ownQ_mono {i : Nat} {Q Q' : List PyData → Prop} (h : ∀ ds, Q ds → Q' ds) (q : ownQ ρ i Q) : ownQ ρ i Q' := by
  unfold ownQ at q ⊢
  split at q
  · exact h _ q
  · exact q.elim
abbrev sApp (i : Nat) (f : FE) : FS := fun ρ E => ownQ ρ i fun ds => f ρ fun d => ds.length < 1000000 ∧ E.nx (ρ.set i (.own (ds ++ [d])))
theorem snds_app {i : Nat} (a : Snd true K ta ca fa) : SndS K (tDrop (tBM K "list" rAppend (tVar i) (tCons ta tNil))) ca (sApp i fa) :=
  ⟨fun ρ E E' h q => ownQ_mono (fun ds => a.mono _ _ _ fun d z => ⟨z.1, h.nx _ z.2⟩) q, fun ok hm hf k => by
    obtain ⟨ds, e, hf⟩ := ownQ_of hf
    obtain ⟨p, xs, e1, e2, e3, e4, e5⟩ := ok.env.sl i _ e
    refine ⟨.ref p, e1, .inl ⟨rfl, xs, .inl (.inl e4)⟩, a.go ok.env hm hf fun d v H' q st bx vd => ⟨p, xs, v, rfl, rfl, st _ _ e3 e4, ?_, ?_⟩⟩
    · rw [e5.len]
      exact Nat.lt_trans q.1 (by decide)
    · have ok1 := ok.step st bx (by omega)
      obtain ⟨o, l⟩ := ok1.mut e e1 ((e5.mono (st.rm ok.env.bs)).app (.cons vd .nil))
      exact k.nx _ _ _ _ _ q.2 o ((Lk.step st ok.env.bs).trans l)⟩
def forD (g : FG) (f : FS) : List PyData → List Sl → DEnds → Prop
  | [], ρ, E => E.nx ρ
  | d :: ds, ρ, E => g d ρ fun ρ1 => f ρ1 { E with nx := fun ρ2 => forD g f ds ρ2 E, ct := fun ρ2 => forD g f ds ρ2 E, bk := E.nx }
abbrev sFor (N : Nat) (fi : FD) (fg : FG) (f : FS) : FS := fun ρ E => fi ρ fun ds => ds.length ≤ N ∧ forD fg f ds ρ E
theorem forD_mono (hg : ∀ d (ρ : List Sl) (P P' : List Sl → Prop), (∀ d, P d → P' d) → fg d ρ P → fg d ρ P') (hf : ∀ (ρ : List Sl) (E E' : DEnds), DLe E E' → f ρ E → f ρ E') {E E' : DEnds} (h : DLe E E') : ∀ (ds : List PyData) (ρ : List Sl), forD fg f ds ρ E → forD fg f ds ρ E'
  | [], ρ, q => h.nx _ q
  | d :: ds, ρ, q => hg _ _ _ _ (fun ρ1 => hf ρ1 { E with nx := fun ρ2 => forD fg f ds ρ2 E, ct := fun ρ2 => forD fg f ds ρ2 E, bk := E.nx } { E' with nx := fun ρ2 => forD fg f ds ρ2 E', ct := fun ρ2 => forD fg f ds ρ2 E', bk := E'.nx } ⟨fun ρ2 => forD_mono hg hf h ds ρ2, h.rt, h.rl, h.nx, fun ρ2 => forD_mono hg hf h ds ρ2⟩) q
theorem snds_for {wi : TI} {ci N : Nat} {fi : FD} (i : SndI true K wi ci fi) (hg : SndG K tg vs fg) (a : SndS K t c f) : SndS K (tFor wi tg t) (ci + N * c) (sFor N fi fg f) := by
  refine ⟨fun ρ E E' h q => i.mono _ _ _ (fun ds z => ⟨z.1, forD_mono hg.mono a.mono h _ _ z.2⟩) q, fun {G H0 b0 b os m H σ ρ D E} ok hm hf k => i.go ok.env (by omega) hf fun ds J H1 p st bx wk => ?_⟩
  obtain ⟨hn, hc⟩ := p
  have ok1 := ok.step st bx (by omega)
  have bs := ok.env.bs
  have lk0 := Lk.step st bs
  refine for_it (w := wk) (fun j σ2 H2 => ∃ b2 os2 ρ2, Ok K G H0 b0 b2 os2 (m + ci + j * c) H2 σ2 ρ2 ∧ Lk (SO G b os) H1 (SO G b2 os2) H2 ∧ forD fg f (ds.drop j) ρ2 E)
    ⟨b, os, ρ, ok1.le (by omega), Lk.refl, hc⟩ (fun j σ2 H2 hj pe => ?_) (fun j x σ2 H2 H3 hj pe y => ?_) (fun σ2 H2 pe => ?_)
  · obtain ⟨b2, os2, ρ2, o2, l2, h2⟩ := pe
    exact l2.kg
  · obtain ⟨b2, os2, ρ2, o2, l2, h2⟩ := pe
    have nj : (j + 1) * c = j * c + c := by rw [Nat.add_mul, Nat.one_mul]
    have le : (j + 1) * c ≤ N * c := Nat.mul_le_mul_right _ (by omega)
    have exT : Evl.Ex (rm H1 (SO G b os)) (rm H2 (SO G b2 os2)) := fun a o h => by
      obtain ⟨n1, h1⟩ := rm_some h
      obtain ⟨g1, g2⟩ := l2 a o n1 (rm_nt h) h1
      exact rm_in g2 g1 (rm_nt h)
    obtain ⟨e23, d, ed, hd⟩ := y _ exT o2.env.al
    have ej := List.getElem?_eq_some_iff.mp ed
    rw [List.drop_eq_getElem_cons ej.1, ej.2] at h2
    have o3 := o2.step (Stp.ex e23) (o2.env.bx.ex e23) (Nat.le_refl _)
    have l3 : Lk (SO G b os) H1 (SO G b2 os2) H3 := l2.trans (Lk.step (Stp.ex (K := K) e23) o2.env.bs)
    refine hg.go o3.env hd h2 fun ρ4 σ4 h4 E4 k4 => ?_
    refine a.go (o3.kpt E4 k4) (by omega) h4 ⟨fun b5 os5 σ5 H5 ρ5 q o l => ⟨b5, os5, ρ5, o.le (by omega), l3.trans l, q⟩, fun d v H5 q o => k.rt d v H5 q ⟨o.old, o.obx.le (by omega)⟩, fun ds vs p H5 q o => k.rl ds vs p H5 q ⟨o.old, o.obx.le (by omega)⟩,
      fun b5 os5 σ5 H5 ρ5 q o l => k.nx b5 os5 σ5 H5 ρ5 q (o.le (by omega)) ((lk0.trans l3).trans l), fun b5 os5 σ5 H5 ρ5 q o l => ⟨b5, os5, ρ5, o.le (by omega), l3.trans l, q⟩⟩
  · obtain ⟨b2, os2, ρ2, o2, l2, h2⟩ := pe
    rw [List.drop_length] at h2
    have le : ds.length * c ≤ N * c := Nat.mul_le_mul_right _ hn
    exact k.nx _ _ _ _ _ h2 (o2.le (by omega)) (lk0.trans l2)
end
end Dv
namespace Dv
open PySem PySem.Spec PyProof.Rows L2 Xg
open Classical
section
variable {K : PySem.W.Frag} {md : Bool} {ta tb te : TE} {ca cb c n : Nat} {fa fb fe : FE} {tr : TA} {fd : FD} {cr : Nat}
abbrev GB := PyData → PyData → (PyData → Prop) → Prop
theorem Vw.tup' {b : Option Addr} {S : Addr → Prop} {H : Hp} {v : V} {ds : List PyData} (h : Vw K b S H v (.tuple ds)) : Da K (rm H S) v (.tuple ds) := by
  cases h with
  | st h => exact h
abbrev gI (g : Int → Int → Int) : GB
  | .int i, .int j, Q => Q (.int (g i j))
  | _, _, _ => False
abbrev gIc (C : Int → Int → Prop) (g : Int → Int → Int) : GB
  | .int i, .int j, Q => C i j ∧ Q (.int (g i j))
  | _, _, _ => False
theorem ops_I {g : Int → Int → Int} : OpSnd K (rI0 fun i j => .int (g i j)) (gI g) :=
  ⟨fun x y P P' h q => by
    cases x <;> cases y <;> first | exact h _ q | exact q.elim, fun {b S H x y dx dy Q P} al hx hy q k => by
    cases dx <;> cases dy <;> first | exact q.elim | skip
    rw [hx.int, hy.int]
    exact ⟨_, _, rfl, rfl, k _ _ _ q (Evl.Ex.refl _) (.int _)⟩⟩
theorem ops_Ic {C : Int → Int → Prop} {g : Int → Int → Int} : OpSnd K (rI C fun i j => .int (g i j)) (gIc C g) :=
  ⟨fun x y P P' h q => by
    cases x <;> cases y <;> first | exact ⟨q.1, h _ q.2⟩ | exact q.elim, fun {b S H x y dx dy Q P} al hx hy q k => by
    cases dx <;> cases dy <;> first | exact q.elim | skip
    rw [hx.int, hy.int]
    exact ⟨_, _, rfl, rfl, q.1, k _ _ _ q.2 (Evl.Ex.refl _) (.int _)⟩⟩
abbrev gAdd : GB
  | .int i, .int j, Q => Q (.int (i + j))
  | .list a, .list b, Q => a.length + b.length ≤ 1000000 ∧ Q (.list (a ++ b))
  | .tuple a, .tuple b, Q => a.length + b.length ≤ 1000000 ∧ Q (.tuple (a ++ b))
  | _, _, _ => False
theorem sz6 {n : Nat} (h : n ≤ 1000000) : n ≤ sizeLine := Nat.le_trans h (by decide)
abbrev rAdd (K : PySem.W.Frag) : R2 := fun x y H Q => rI0 (fun i j => .int (i + j)) x y H Q ∨ (rCat x y H Q ∨ rCatA K x y H Q)
theorem op_addX {X : Cx} : OpR X (binaryOp .Add) (rAdd X.K) := Xg.op_or op_add (Xg.op_or op_cat op_catA)
theorem ops_add : OpSnd K (rAdd K) gAdd :=
  ⟨fun x y P P' h q => by
    cases x <;> cases y <;> first | exact h _ q | exact ⟨q.1, h _ q.2⟩ | exact q.elim, fun {b S H x y dx dy Q P} al hx hy q k => by
    cases dx <;> cases dy <;> first | exact q.elim | skip
    · rw [hx.int, hy.int]
      exact .inl ⟨_, _, rfl, rfl, k _ _ _ q (Evl.Ex.refl _) (.int _)⟩
    · obtain ⟨p1, v1, rfl, e1, g1⟩ := hx.list
      obtain ⟨p2, v2, rfl, e2, g2⟩ := hy.list
      exact .inr (.inl ⟨_, _, _, _, rfl, rfl, e1, e2, by rw [g1.len, g2.len]; exact sz6 q.1, fun p np => k _ _ _ q.2 (Evl.Ex.new np) (new_lst al np (g1.app g2))⟩)
    · obtain ⟨p1, v1, rfl, e1, g1⟩ := hx.tuple
      obtain ⟨p2, v2, rfl, e2, g2⟩ := hy.tuple
      have t1 := hx.tup'
      have t2 := hy.tup'
      refine .inr (.inr ⟨_, _, _, _, rfl, rfl, e1, e2, by rw [g1.len, g2.len]; exact sz6 q.1, fun z => ?_, fun z w => ?_, fun z w p np => k _ _ _ q.2 (Evl.Ex.new np) (new_tup al np (g1.app g2))⟩)
      · subst z
        cases g1
        exact k _ _ _ q.2 (Evl.Ex.refl _) t2
      · subst w
        cases g2
        refine k _ _ _ q.2 (Evl.Ex.refl _) ?_
        rw [List.append_nil]
        exact t1⟩
abbrev fCat (fa fb : FE) : FD := fun ρ Q => fa ρ (fun x => fb ρ fun y => match x, y with
  | .list a, .list b => a.length + b.length ≤ 1000000 ∧ Q (a ++ b)
  | _, _ => False)
theorem sndl_cat {md2 : Bool} (a : Snd md K ta ca fa) (a2 : Snd md2 K tb cb fb) : SndL K (tOp rCat ta tb) (ca + cb) (fCat fa fb) := ⟨fun ρ P P' h q => a.mono _ _ _ (fun x => a2.mono _ _ _ fun y z => by
      cases x <;> cases y <;> first | exact ⟨z.1, h _ z.2⟩ | exact z.elim) q,
  fun E hm hf k => a.go E (by omega) hf fun dx v H1 p st bx vd => a2.go (E.step st bx) (by omega) p fun dy v2 H2 p2 st2 bx2 vd2 => by
    have vd := vd.vw.step st2 E.bs
    have al := ((E.step st bx).step st2 bx2).al
    cases dx <;> cases dy <;> first | exact p2.elim | skip
    obtain ⟨p1, v1, rfl, e1, g1⟩ := vd.list
    obtain ⟨q1, w1, rfl, e2, g2⟩ := vd2.vw.list
    refine ⟨_, _, _, _, rfl, rfl, e1, e2, by rw [g1.len, g2.len]; exact sz6 p2.1, fun p np => k _ _ _ _ p2.2 (back (st.trans st2) (bx2.le (Nat.le_refl _)) np) ((st.trans st2).trans (Stp.ex (Evl.Ex.new np))) ((bx2.le (by omega)).ex (Evl.Ex.new np)) upd_same ((g1.app g2).fresh np)⟩⟩
def rep (k : Int) (xs : List PyData) : List PyData := (List.replicate k.toNat xs).flatten
abbrev gMul : GB
  | .int i, .int j, Q => CMul i j ∧ Q (.int (i * j))
  | .list a, .int k, Q => (-(2 ^ 63) ≤ k ∧ k < 2 ^ 63 ∧ a.length * k.toNat ≤ 1000000) ∧ Q (.list (rep k a))
  | .tuple a, .int k, Q => (a ≠ [] ∧ 0 ≤ k ∧ k ≤ 1000 ∧ a.length ≤ 1000) ∧ Q (.tuple (rep k a))
  | _, _, _ => False
abbrev rMul (K : PySem.W.Frag) : R2 := fun x y H Q => rI CMul (fun i j => .int (i * j)) x y H Q ∨ (rRep x y H Q ∨ (rRepT K x y H Q ∨ (Xg.rRep1 K x y H Q ∨ Xg.rRep0 K x y H Q)))
theorem op_mulX {X : Cx} : OpR X (binaryOp .Mult) (rMul X.K) := Xg.op_or op_mul (Xg.op_or op_rep (Xg.op_or op_repT (Xg.op_or Xg.op_rep1 Xg.op_rep0)))
theorem DaL.rep {H : Hp} {vs : List V} {ds : List PyData} (h : DaL K H vs ds) : ∀ k : Nat, DaL K H (List.replicate k vs).flatten (List.replicate k ds).flatten
  | 0 => .nil
  | k + 1 => by
    rw [List.replicate_succ, List.replicate_succ, List.flatten_cons, List.flatten_cons]
    exact h.app (DaL.rep h k)
theorem ops_mul : OpSnd K (rMul K) gMul :=
  ⟨fun x y P P' h q => by
    cases x <;> cases y <;> first | exact ⟨q.1, h _ q.2⟩ | exact q.elim, fun {b S H x y dx dy Q P} al hx hy q k => by
    cases dx <;> cases dy <;> first | exact q.elim | skip
    · rw [hx.int, hy.int]
      exact .inl ⟨_, _, rfl, rfl, q.1, k _ _ _ q.2 (Evl.Ex.refl _) (.int _)⟩
    · obtain ⟨p1, v1, rfl, e1, g1⟩ := hx.list
      rw [hy.int]
      exact .inr (.inl ⟨_, _, _, rfl, rfl, e1, q.1.1, q.1.2.1, by rw [g1.len]; exact sz6 q.1.2.2, fun p np => k _ _ _ q.2 (Evl.Ex.new np) (new_lst al np (g1.rep _))⟩)
    · rename_i a i
      obtain ⟨p1, v1, rfl, e1, g1⟩ := hx.tuple
      rw [hy.int]
      have t1 := hx.tup'
      by_cases z : i = 1
      · subst z
        refine .inr (.inr (.inr (.inl ⟨_, _, rfl, rfl, e1, k _ _ _ q.2 (Evl.Ex.refl _) ?_⟩)))
        show Da K (rm H S) (.ref p1) (.tuple (List.replicate 1 a).flatten)
        rw [show (List.replicate 1 a).flatten = a by simp]
        exact t1
      · by_cases z0 : i = 0
        · subst z0
          refine .inr (.inr (.inr (.inr ⟨_, _, rfl, rfl, e1, fun w => ?_, fun p np => k _ _ _ q.2 (Evl.Ex.new np) (new_tup al np .nil)⟩)))
          subst w
          cases g1
          exact q.1.1 rfl
        refine .inr (.inr (.inl ⟨_, _, _, rfl, rfl, e1, fun w => ?_, by have := q.1.2.1; omega, q.1.2.2.1, by rw [g1.len]; exact q.1.2.2.2, fun p np => k _ _ _ q.2 (Evl.Ex.new np) (new_tup al np (g1.rep _))⟩))
        subst w
        cases g1
        exact q.1.1 rfl⟩
abbrev gC (p : Int → Int → Bool) : GB
  | .int i, .int j, Q => Q (.bool (p i j))
  | _, _, _ => False
theorem ops_C {p : Int → Int → Bool} : OpSnd K (rI0 fun i j => .bl (p i j)) (gC p) :=
  ⟨fun x y P P' h q => by
    cases x <;> cases y <;> first | exact h _ q | exact q.elim, fun {b S H x y dx dy Q P} al hx hy q k => by
    cases dx <;> cases dy <;> first | exact q.elim | skip
    rw [hx.int, hy.int]
    exact ⟨_, _, rfl, rfl, k _ _ _ q (Evl.Ex.refl _) (.bl _)⟩⟩
abbrev gEq : GB
  | .int i, .int j, Q => Q (.bool (decide (i = j)))
  | .str i, .str j, Q => Q (.bool (decide (i = j)))
  | .bool i, .bool j, Q => Q (.bool (decide (i = j)))
  | x, y, Q => SeqAt.shaped x = true ∧ SeqAt.shaped y = true ∧ Q (.bool (PyData.eqv x y))
abbrev gNe : GB
  | .int i, .int j, Q => Q (.bool (!decide (i = j)))
  | .str i, .str j, Q => Q (.bool (!decide (i = j)))
  | .bool i, .bool j, Q => Q (.bool (!decide (i = j)))
  | x, y, Q => SeqAt.shaped x = true ∧ SeqAt.shaped y = true ∧ Q (.bool (!PyData.eqv x y))
abbrev rEqX (K : PySem.W.Frag) : R2 := fun x y H Q => rEq x y H Q ∨ rEqD K x y H Q
abbrev rNeX (K : PySem.W.Frag) : R2 := fun x y H Q => rNe x y H Q ∨ rNeD K x y H Q
theorem op_eqX {X : Cx} (hu : X.A.units + 64 < cLine) : OpR X (compareOp .Eq) (rEqX X.K) := Xg.op_or op_eq (op_eqD hu)
theorem op_neX {X : Cx} (hu : X.A.units + 64 < cLine) : OpR X (compareOp .NotEq) (rNeX X.K) := Xg.op_or op_ne (op_neD hu)
theorem ops_eq : OpSnd K (rEqX K) gEq := ⟨fun x y P P' h q => by
    cases x <;> cases y <;> first | exact h _ q | exact ⟨q.1, q.2.1, h _ q.2.2⟩, fun {b S H x y dx dy Q P} al hx hy q k => by
    cases dx <;> cases dy <;> first
      | exact .inr ⟨_, _, hx.dp, hy.dp, q.1, q.2.1, k _ _ _ q.2.2 (Evl.Ex.refl _) (.bl _)⟩
      | (rw [hx.int, hy.int]; exact .inl ⟨rfl, by simp only [V.int.injEq]; exact k _ _ _ q (Evl.Ex.refl _) (.bl _)⟩)
      | (rw [hx.str, hy.str]; exact .inl ⟨rfl, by simp only [V.str.injEq]; exact k _ _ _ q (Evl.Ex.refl _) (.bl _)⟩)
      | (rw [hx.bool, hy.bool]; exact .inl ⟨rfl, by simp only [V.bl.injEq]; exact k _ _ _ q (Evl.Ex.refl _) (.bl _)⟩)⟩
theorem ops_ne : OpSnd K (rNeX K) gNe := ⟨fun x y P P' h q => by
    cases x <;> cases y <;> first | exact h _ q | exact ⟨q.1, q.2.1, h _ q.2.2⟩, fun {b S H x y dx dy Q P} al hx hy q k => by
    cases dx <;> cases dy <;> first
      | exact .inr ⟨_, _, hx.dp, hy.dp, q.1, q.2.1, k _ _ _ q.2.2 (Evl.Ex.refl _) (.bl _)⟩
      | (rw [hx.int, hy.int]; exact .inl ⟨rfl, by simp only [V.int.injEq]; exact k _ _ _ q (Evl.Ex.refl _) (.bl _)⟩)
      | (rw [hx.str, hy.str]; exact .inl ⟨rfl, by simp only [V.str.injEq]; exact k _ _ _ q (Evl.Ex.refl _) (.bl _)⟩)
      | (rw [hx.bool, hy.bool]; exact .inl ⟨rfl, by simp only [V.bl.injEq]; exact k _ _ _ q (Evl.Ex.refl _) (.bl _)⟩)⟩
abbrev isN : PyData → Bool
  | .none => true
  | _ => false
theorem non_iff {b : Option Addr} {S : Addr → Prop} {H : Hp} {x : V} {d : PyData} (h : Vw K b S H x d) : decide (x = .non) = isN d := by
  cases d with
  | none => rw [h.none]; rfl
  | bool k => rw [h.bool]; exact decide_eq_false fun z => nomatch z
  | int k => rw [h.int]; exact decide_eq_false fun z => nomatch z
  | str k => rw [h.str]; exact decide_eq_false fun z => nomatch z
  | list k =>
    obtain ⟨_, _, rfl, _⟩ := h.list
    exact decide_eq_false fun z => nomatch z
  | tuple k =>
    obtain ⟨_, _, rfl, _⟩ := h.tuple
    exact decide_eq_false fun z => nomatch z
  | dict k =>
    cases h with
    | st h => cases h
abbrev gIs : GB
  | x, .none, Q => Q (.bool (isN x))
  | _, _, _ => False
theorem ops_is : OpSnd K (fun x y H Q => y = .non ∧ Q (.bl (decide (x = .non))) H) gIs := ⟨fun x y P P' h q => by
    cases y <;> first | exact h _ q | exact q.elim, fun {b S H x y dx dy Q P} al hx hy q k => by
    cases dy <;> first | exact q.elim | skip
    exact ⟨hy.none, by rw [non_iff hx]; exact k _ _ _ q (Evl.Ex.refl _) (.bl _)⟩⟩
abbrev atQ (o : Option PyData) (Q : PyData → Prop) : Prop := match o with
  | some d => Q d
  | none => False
theorem atQ_of {o : Option PyData} {Q : PyData → Prop} (h : atQ o Q) : ∃ d, o = some d ∧ Q d := by
  cases o with
  | none => exact h.elim
  | some d => exact ⟨d, rfl, h⟩
theorem atQ_mono {o : Option PyData} {Q Q' : PyData → Prop} (g : ∀ d, Q d → Q' d) (h : atQ o Q) : atQ o Q' := by
  cases o with
  | none => exact h.elim
  | some d => exact g _ h
abbrev gIx : GB
  | .list ds, .int i, Q => atQ (L2.atI ds i) Q
  | .tuple ds, .int i, Q => atQ (L2.atI ds i) Q
  | _, _, _ => False
theorem ops_ix : OpSnd K (rIx K) gIx := ⟨fun x y P P' h q => by
    cases x <;> cases y <;> first | exact atQ_mono h q | exact q.elim, fun {b S H x y dx dy Q P} al hx hy q k => by
    cases dx <;> cases dy <;> first | exact q.elim | skip
    · obtain ⟨d, e, q⟩ := atQ_of q
      obtain ⟨p, vs, rfl, e1, g⟩ := hx.list
      rw [hy.int]
      obtain ⟨v, e2, e3⟩ := g.atI e
      exact .inl ⟨p, vs, _, v, rfl, rfl, .inl (.inl e1), e2, k _ _ _ q (Evl.Ex.refl _) e3⟩
    · obtain ⟨d, e, q⟩ := atQ_of q
      obtain ⟨p, vs, rfl, e1, g⟩ := hx.tuple
      rw [hy.int]
      obtain ⟨v, e2, e3⟩ := g.atI e
      exact .inr (.inl ⟨p, vs, _, v, rfl, rfl, e1, e2, k _ _ _ q (Evl.Ex.refl _) e3⟩)⟩
def cutD (xs : List PyData) (lo hi : Option Int) : List PyData := (xs.drop (HT.sIx xs.length 0 lo)).take (HT.sIx xs.length xs.length hi - HT.sIx xs.length 0 lo)
theorem DaL.cut {H : Hp} {vs : List V} {ds : List PyData} (h : DaL K H vs ds) (lo hi : Option Int) : DaL K H (cutV vs lo hi) (cutD ds lo hi) := by
  unfold cutV cutD
  rw [h.len]
  exact (h.drop _).take _
structure SndO (K : PySem.W.Frag) (t : TO) (c : Nat) (f : List Sl → (Option Int → Prop) → Prop) : Prop where
  mono : ∀ (ρ : List Sl) (P P' : Option Int → Prop), (∀ d, P d → P' d) → f ρ P → f ρ P'
  go : ∀ {b : Option Addr} {S : Addr → Prop} {m : Nat} {σ : L2.St} {H : Hp} {ρ : List Sl} {Q : Option Int → Hp → Prop} {P : Option Int → Prop}, DEnv K b S m H σ ρ → m + c ≤ LIM → f ρ P →
    (∀ k H', P k → Stp K b H H' → BxO b H' (m + c) → Q k H') → t σ H Q
abbrev oNone : List Sl → (Option Int → Prop) → Prop := fun _ Q => Q none
abbrev oSome (f : FE) : List Sl → (Option Int → Prop) → Prop := fun ρ Q => f ρ (asI fun i => Q (some i))
theorem sndo_none : SndO K tNoPart 0 oNone := ⟨fun ρ P P' h q => h _ q, fun E hm hf k => k _ _ hf Stp.refl E.bx⟩
theorem sndo_some (a : Snd md K ta ca fa) : SndO K (tPart ta) ca (oSome fa) := ⟨fun ρ P P' h q => a.mono _ _ _ (asI_mono fun i => h _) q, fun E hm hf k => a.go E hm hf fun d v H' p st bx vd => by
    obtain ⟨i, rfl, q⟩ := asI_of p vd
    exact ⟨i, rfl, k _ _ q st bx⟩⟩
abbrev eSl (fa : FE) (fl fh : List Sl → (Option Int → Prop) → Prop) : FE := fun ρ Q => fa ρ fun x => fl ρ fun lo => fh ρ fun hi => match x with
  | .list ds => Q (.list (cutD ds lo hi))
  | .tuple ds => Q (.tuple (cutD ds lo hi))
  | _ => False
abbrev rSlX (K : PySem.W.Frag) : V → Option Int → Option Int → Hp → VK → Prop := fun x lo hi H Q => rSlL K x lo hi H Q ∨ rSlA K x lo hi H Q
theorem sl_X {X : Cx} : L2.SlR X (rSlX X.K) := Pw.sl_or sl_list sl_tupA
theorem snd_sl {tl th : TO} {cl ch : Nat} {fl fh : List Sl → (Option Int → Prop) → Prop} (a : Snd md K ta ca fa) (l : SndO K tl cl fl) (h : SndO K th ch fh) : Snd true K (tSl (rSlX K) ta tl th) (ca + (cl + ch)) (eSl fa fl fh) := mk_snd
  (fun ρ P P' hp q => a.mono _ _ _ (fun x => l.mono _ _ _ fun lo => h.mono _ _ _ fun hi z => by
    cases x <;> first | exact hp _ z | exact z.elim) q)
  (fun E hm hf k => a.go E (by omega) hf fun dx v H1 p st bx vd => l.go (E.step st bx) (by omega) p fun lo H2 p2 st2 bx2 => h.go ((E.step st bx).step st2 bx2) (by omega) p2 fun hi H3 p3 st3 bx3 => by
    have vd := (vd.vw.step st2 E.bs).step st3 E.bs
    have st4 := (st.trans st2).trans st3
    have al := (E.step st4 bx3).al
    cases dx <;> first | exact p3.elim | skip
    · obtain ⟨p1, vs, rfl, e1, g⟩ := vd.list
      exact .inl ⟨p1, vs, rfl, .inl (.inl e1), fun q nq => k _ _ _ p3 (st4.trans (Stp.ex (Evl.Ex.new nq))) ((bx3.le (by omega)).ex (Evl.Ex.new nq)) (new_lst al nq (g.cut lo hi))⟩
    · obtain ⟨p1, vs, rfl, e1, g⟩ := vd.tuple
      refine .inr ⟨p1, vs, rfl, e1, fun z => ?_, fun z q nq => k _ _ _ p3 (st4.trans (Stp.ex (Evl.Ex.new nq))) ((bx3.le (by omega)).ex (Evl.Ex.new nq)) (new_tup al nq (g.cut lo hi))⟩
      refine k _ _ _ p3 st4 (bx3.le (by omega)) ?_
      have t1 := vd.tup'
      unfold cutD
      rw [← g.len, z.1, z.2, List.drop_zero, Nat.sub_zero, g.len, List.take_length]
      exact t1)
structure CallSnd (K : PySem.W.Frag) (r : List V → Hp → VK → Prop) (g : List PyData → (PyData → Prop) → Prop) : Prop where
  mono : ∀ x (P P' : PyData → Prop), (∀ d, P d → P' d) → g x P → g x P'
  run : ∀ {b : Option Addr} {S : Addr → Prop} {H : Hp} {vs : List V} {ds : List PyData} {Q : VK} {P : PyData → Prop}, Al S H → VwL false K b S H vs ds → g ds P →
    (∀ d v H', P d → Evl.Ex H H' → Da K (rm H' S) v d → Q v H') → r vs H Q
abbrev eCB (g : List PyData → (PyData → Prop) → Prop) (fd : FD) : FE := fun ρ Q => fd ρ fun ds => g ds Q
theorem VwL.v {b : Option Addr} {S : Addr → Prop} {H : Hp} : ∀ {vs : List V} {ds : List PyData}, VwL md K b S H vs ds → VwL false K b S H vs ds
  | _, _, .nil => .nil
  | _, _, .cons h g => .cons h.vw (VwL.v g)
theorem snd_cb {r : List V → Hp → VK → Prop} {g : List PyData → (PyData → Prop) → Prop} (o : CallSnd K r g) (a : SndD md K tr n cr fd) : Snd true K (tCB r tr) cr (eCB g fd) := mk_snd
  (fun ρ P P' h q => a.mono _ _ _ (fun ds => o.mono ds _ _ h) q)
  (fun E hm hf k => a.go E hm hf fun ds vs H1 h1 l s1 b1 d1 => o.run (E.step s1 b1).al d1.v h1 fun d v H' p e q => k d v H' p (s1.trans (Stp.ex e)) (b1.ex e) q)
abbrev g1 (g : PyData → (PyData → Prop) → Prop) : List PyData → (PyData → Prop) → Prop
  | [d], Q => g d Q
  | _, _ => False
abbrev g2 (g : PyData → PyData → (PyData → Prop) → Prop) : List PyData → (PyData → Prop) → Prop
  | [d, e], Q => g d e Q
  | _, _ => False
abbrev lenD : PyData → (PyData → Prop) → Prop
  | .list ds, Q => Q (.int ds.length)
  | .tuple ds, Q => Q (.int ds.length)
  | _, _ => False
theorem call1 {r : List V → Hp → VK → Prop} {g : PyData → (PyData → Prop) → Prop} (m : ∀ x (P P' : PyData → Prop), (∀ d, P d → P' d) → g x P → g x P')
    (run : ∀ {b : Option Addr} {S : Addr → Prop} {H : Hp} {v : V} {d : PyData} {Q : VK} {P : PyData → Prop}, Al S H → Vw K b S H v d → g d P → (∀ d v H', P d → Evl.Ex H H' → Da K (rm H' S) v d → Q v H') → r [v] H Q) : CallSnd K r (g1 g) :=
  ⟨fun x P P' h q => by
    unfold g1 at q ⊢
    split at q
    · exact m _ _ _ h q
    · exact q.elim, fun al vw q k => by
    unfold g1 at q
    split at q
    · cases vw with
      | cons h g =>
        cases g
        exact run al h q k
    · exact q.elim⟩
theorem cs_len : CallSnd K (fun xs H Q => ∃ x n, xs = [x] ∧ LenV K x H n ∧ Q (.int n) H) (g1 lenD) := call1
  (fun x P P' h q => by cases x <;> first | exact h _ q | exact q.elim)
  (fun {b S H v d Q P} al h q k => by
    cases d <;> first | exact q.elim | skip
    · obtain ⟨p, vs, rfl, e, g⟩ := h.list
      exact ⟨_, vs.length, rfl, .inl ⟨vs, .inl (.inl e), rfl⟩, by rw [g.len]; exact k _ _ _ q (Evl.Ex.refl _) (.int _)⟩
    · obtain ⟨p, vs, rfl, e, g⟩ := h.tuple
      exact ⟨_, vs.length, rfl, .inr ⟨vs, e, rfl⟩, by rw [g.len]; exact k _ _ _ q (Evl.Ex.refl _) (.int _)⟩)
abbrev intD : PyData → (PyData → Prop) → Prop
  | .int i, Q => Q (.int i)
  | .bool k, Q => Q (.int (if k then 1 else 0))
  | _, _ => False
theorem cs_int : CallSnd K (fun xs H Q => (∃ i, xs = [.int i] ∧ Q (.int i) H) ∨ ∃ k, xs = [.bl k] ∧ Q (.int (if k then 1 else 0)) H) (g1 intD) := call1
  (fun x P P' h q => by cases x <;> first | exact h _ q | exact q.elim)
  (fun {b S H v d Q P} al h q k => by
    cases d <;> first | exact q.elim | skip
    · rw [h.bool]
      exact .inr ⟨_, rfl, k _ _ _ q (Evl.Ex.refl _) (.int _)⟩
    · rw [h.int]
      exact .inl ⟨_, rfl, k _ _ _ q (Evl.Ex.refl _) (.int _)⟩)
abbrev boolsQ (Q : List Bool → Prop) : PyData → Prop
  | .list ds => ∃ ns : List Bool, ds = ns.map PyData.bool ∧ Q ns
  | _ => False
theorem boolsQ_mono {P P' : List Bool → Prop} (h : ∀ k, P k → P' k) : ∀ d, boolsQ P d → boolsQ P' d := fun d g => by
  cases d <;> first | exact let ⟨ns, e, q⟩ := g; ⟨ns, e, h _ q⟩ | exact g.elim
theorem boolsQ_of {b : Option Addr} {S : Addr → Prop} {H : Hp} {Q : List Bool → Prop} {d : PyData} {v : V} (h : boolsQ Q d) (g : Vw K b S H v d) : ∃ p ns, v = .ref p ∧ SqL K H p (ns.map V.bl) ∧ Q ns := by
  cases d with
  | list ds =>
    obtain ⟨ns, rfl, q⟩ := h
    obtain ⟨p, vs, rfl, e, g⟩ := g.list
    rw [g.bools_inv] at e
    exact ⟨p, ns, rfl, .inl (.inl e), q⟩
  | _ => exact h.elim
theorem cs_all : CallSnd K (rAll K) (g1 fun d Q => boolsQ (fun ns => Q (.bool (ns.all id))) d) := call1
  (fun x P P' h q => boolsQ_mono (fun ns => h _) _ q)
  (fun al h q k => let ⟨p, ns, e, s, q⟩ := boolsQ_of q h; ⟨p, ns, by rw [e], s, k _ _ _ q (Evl.Ex.refl _) (.bl _)⟩)
abbrev negD : PyData → (PyData → Prop) → Prop
  | .int i, Q => Q (.int (-i))
  | _, _ => False
theorem us_neg : UnSnd K (rU fun i => .int (-i)) negD := ⟨fun x P P' h q => by cases x <;> first | exact h _ q | exact q.elim, fun {b S H x dx Q P} al h q k => by
    cases dx <;> first | exact q.elim | skip
    rw [h.int]
    exact ⟨_, rfl, k _ _ _ q (Evl.Ex.refl _) (.int _)⟩⟩
abbrev tupD : PyData → (PyData → Prop) → Prop
  | .list ds, Q => Q (.tuple ds)
  | .tuple ds, Q => Q (.tuple ds)
  | _, _ => False
theorem us_tup : UnSnd K (kTup K) tupD := ⟨fun x P P' h q => by cases x <;> first | exact h _ q | exact q.elim, fun {b S H x dx Q P} al h q k => by
    cases dx <;> first | exact q.elim | skip
    · obtain ⟨p, vs, rfl, e, g⟩ := h.list
      exact .inl ⟨p, vs, rfl, .inl (.inl e), fun q1 nq => k _ _ _ q (Evl.Ex.new nq) (new_tup al nq g)⟩
    · obtain ⟨p, vs, rfl, e, g⟩ := h.tuple
      refine .inr ⟨p, vs, rfl, e, k _ _ _ q (Evl.Ex.refl _) ?_⟩
      cases h with
      | st h => exact h⟩
theorem snd_tupOf (a : Snd md K ta ca fa) : Snd true K (tThen ta (kTup K)) ca (eUn tupD fa) := snd_un0 (r := kTup K) us_tup a
abbrev listOfD : PyData → (List PyData → Prop) → Prop
  | .list ds, Q => Q ds
  | .tuple ds, Q => Q ds
  | _, _ => False
theorem sndl_listOf (a : Snd md K ta ca fa) : SndL K (tCB (fun xs H Q => ∃ p ys, xs = [.ref p] ∧ (SqL K H p ys ∨ SqT K H p ys) ∧ ∀ l, H l = none → Q (.ref l) (upd H l (.lst ys))) (tCons ta tNil)) ca (fun ρ Q => fa ρ fun d => listOfD d Q) := ⟨
  fun ρ P P' h q => a.mono _ _ _ (fun x z => by cases x <;> first | exact h _ z | exact z.elim) q,
  fun E hm hf k => a.go E hm hf fun dx v H1 p st bx vd => by
    cases dx <;> first | exact p.elim | skip
    · obtain ⟨p1, vs, rfl, e, g⟩ := vd.vw.list
      exact ⟨p1, vs, rfl, .inl (.inl (.inl e)), fun l nl => k _ _ _ _ p (back st bx nl) (st.trans (Stp.ex (Evl.Ex.new nl))) (bx.ex (Evl.Ex.new nl)) upd_same (g.fresh nl)⟩
    · obtain ⟨p1, vs, rfl, e, g⟩ := vd.vw.tuple
      exact ⟨p1, vs, rfl, .inr e, fun l nl => k _ _ _ _ p (back st bx nl) (st.trans (Stp.ex (Evl.Ex.new nl))) (bx.ex (Evl.Ex.new nl)) upd_same (g.fresh nl)⟩⟩
abbrev eLenS (i : Nat) : FE := fun ρ Q => match ρ[i]? with
  | some (.scr ns) => Q (.int ns.length)
  | _ => False
theorem snd_lenS {i : Nat} : Snd true K (tCB (fun xs H Q => ∃ x n, xs = [x] ∧ LenV K x H n ∧ Q (.int n) H) (tCons (tVar i) tNil)) 0 (eLenS i) := mk_snd
  (fun ρ P P' h q => by
    unfold eLenS at q ⊢
    split at q
    · exact h _ q
    · exact q.elim)
  (fun {b S m σ H ρ Q P} E hm hf k => by
    unfold eLenS at hf
    split at hf
    · rename_i ns e
      obtain ⟨p, e1, e2⟩ := E.sl i _ e
      refine ⟨_, e1, _, (ns.map V.int).length, rfl, .inl ⟨_, Evl.ex_l rm_le e2, rfl⟩, ?_⟩
      rw [List.length_map]
      exact k _ _ _ hf Stp.refl E.bx (.int _)
    · exact hf.elim)
inductive Ty5 where
  | int | bool | str | list | tuple
def Ty5.nm : Ty5 → String
  | .int => "int" | .bool => "bool" | .str => "str" | .list => "list" | .tuple => "tuple"
end
end Dv
namespace Dv
open PySem PySem.Spec PyProof.Rows L2 Xg
open Classical
section
variable {K : PySem.W.Frag} {md : Bool} {ta : TE} {ca : Nat} {fa : FE}
end
abbrev pad (n : Nat) (as : List Sl) : List Sl := as ++ List.replicate (n - as.length) .no
abbrev mkF (np n : Nat) (f : FS) : FF := fun as Q => as.length = np ∧ f (pad n as) { nx := fun _ => Q .none, rt := Q, rl := fun ds => Q (.list ds) }
section
variable {P : Program} {w : World} {K : PySem.W.Frag} {mg : Str → Option Value} {base : Heap}
theorem mkF_mono {t : TS} {c np n : Nat} {f : FS} (h : SndS K t c f) : MonoF (mkF np n f) := fun as P P' hp q => ⟨q.1, h.mono _ { nx := fun _ => P .none, rt := P, rl := fun ds => P (.list ds) } { nx := fun _ => P' .none, rt := P', rl := fun ds => P' (.list ds) } ⟨fun _ => hp _, hp, fun ds => hp _, fun _ h => h, fun _ h => h⟩ q.2⟩
theorem ArgL.len {b : Option Addr} {S : Addr → Prop} {H : Hp} : ∀ {vs : List V} {as : List Sl}, ArgL K b S H vs as → vs.length = as.length
  | _, _, .nil => rfl
  | _, _, .cons _ g => by rw [List.length_cons, List.length_cons, ArgL.len g]
theorem ArgL.at_ {b : Option Addr} {S : Addr → Prop} {H : Hp} : ∀ {vs : List V} {as : List Sl} {i : Nat} {s : Sl}, ArgL K b S H vs as → as[i]? = some s → ∃ v, vs[i]? = some v ∧ ArgR K b S H v s
  | _, _, _, _, .nil, e => by simp at e
  | _, _, 0, _, .cons h g, e => by
    simp at e
    subst e
    exact ⟨_, rfl, h⟩
  | _, _, i + 1, _, .cons h g, e => ArgL.at_ (i := i) g (by simpa using e)
theorem pad_at {n i : Nat} {as : List Sl} {s : Sl} (h : (pad n as)[i]? = some s) : (i < as.length ∧ as[i]? = some s) ∨ s = .no := by
  unfold pad at h
  by_cases l : i < as.length
  · rw [List.getElem?_append_left l] at h
    exact .inl ⟨l, h⟩
  · rw [List.getElem?_append_right (by omega), List.getElem?_replicate] at h
    split at h
    · cases h
      exact .inr rfl
    · cases h
theorem start_at {N : List Str} {vs : List V} {i : Nat} (l : i < vs.length) : (L2.start N vs)[i]? = some (vs[i]?) := by
  unfold L2.start
  rw [List.getElem?_append_left (by rw [List.length_map]; exact l), List.getElem?_map, List.getElem?_eq_getElem l]
  rfl
theorem ok_start {b : Option Addr} {S : Addr → Prop} {m : Nat} {H : Hp} {N : List Str} {vs : List V} {as : List Sl} (hA : ArgL K b S H vs as) (bx : BxO b H m) (bs : ∀ p, b = some p → S p) (al : Al S H ∧ Tbs K H) :
    Ok K S H b b (fun _ => none) m H (L2.start N vs) (pad N.length as) := by
  have sub : ∀ a, SO S b (fun _ => none) a → S a := fun a h => by
    rcases h with h | h | ⟨i, h⟩
    · exact h
    · exact bs a h
    · cases h
  refine ⟨⟨?_, fun i s e => ?_, bx, fun p e => .inr (.inl e), fun a h => al.1 a (sub a h), al.2⟩, fun i j a h => (by cases h), fun i a h => (by cases h), Stp.refl, .inl rfl, bx, fun i a h => (by cases h), fun i ds e ow => ?_, al.1, bs⟩
  · unfold L2.start pad
    rw [List.length_append, List.length_append, List.length_map, List.length_replicate, List.length_replicate, hA.len]
  · rcases pad_at e with ⟨l, e⟩ | rfl
    · obtain ⟨v, e1, e2⟩ := hA.at_ e
      rw [start_at (by rw [hA.len]; exact l), e1]
      cases s with
      | no => trivial
      | dt d => exact ⟨v, rfl, Da.mono (rm_sub sub) e2⟩
      | own _ => exact e2.elim
      | box => exact let ⟨p, r1, r2⟩ := e2; ⟨p, by rw [r1], r2⟩
      | scr ns => exact let ⟨p, r1, r2⟩ := e2; ⟨p, by rw [r1], Evl.ex_l (rm_sub sub) r2⟩
      | op g => exact ⟨v, rfl, TbO.mono (rm_sub sub) e2⟩
      | fn k ds => exact ⟨v, rfl, LamV.mono (rm_sub sub) e2⟩
      | exc k ds => exact e2.elim
      | dct k => exact e2.elim
      | dck k => exact ⟨v, rfl, DcO.mono (rm_sub sub) e2⟩
      | frt k => exact e2.elim
    · trivial
  · rcases pad_at e with ⟨l, e⟩ | z
    · obtain ⟨v, e1, e2⟩ := hA.at_ e
      cases ds <;> first | exact absurd ow Bool.false_ne_true | exact e2.elim
    · subst z
      exact absurd ow Bool.false_ne_true
theorem okD {x qual : Str} {st : Stmt} {f : Addr} {fd : FuncData} {N ps : List Str} {k c : Nat} {t : TS} {g : FS} (F : Fun K x qual st f fd) (S : FnScope N ps (defScope st)) (sn : SndS K t c g)
    (hbody : ∀ (cdv : Value) (A : Around) (outer : List Env) (s : Shared) (H : Hp), (A.deeper (envOfC qual (defScope st) s.heap.objs.size f cdv)).guards = some [] → Room k (A.deeper (envOfC qual (defScope st) s.heap.objs.size f cdv)) →
      PSs (cxOf CX0 P w K mg base N qual (defScope st) f cdv A outer s H E0).nox (defBody st) t) : FnG P w K mg base (k + 1) f fd ps (spD K c (mkF ps.length N.length g)) := by
  refine okG F S (fun vs H Q h => ?_) fun cdv A outer s H vs Q hG hr h => ⟨t, hbody cdv A outer s H hG hr, ?_⟩
  · obtain ⟨b, S, m, as, hA, _, _, _, _, l, _⟩ := h
    rw [hA.len, l]
  · obtain ⟨b, S, m, as, hA, bx, bs, al, hm, l, hf⟩ := h
    refine sn.go (ok_start (N := N) hA bx bs al) hm hf ⟨fun b' os σ' H' ρ' q o _ => q _ _ o.old o.obx .non, fun d v H' q o hd => q _ _ o.old o.obx hd, fun ds vs p H' q o n e g => q _ _ o.old o.obx (.lst (rm_in (al.1.new n) e) (g.mono (rm_sub fun a z => .inl z))), fun _ _ _ _ _ q => q.elim, fun _ _ _ _ _ q => q.elim⟩
structure Df (P : Program) (w : World) (K : PySem.W.Frag) (mg : Str → Option Value) (base : Heap) (x : Str) (ps : List Str) (k : Nat) (sp : Sp) : Prop where
  ex : ∃ (f : Addr) (fd : FuncData), FnG P w K mg base k f fd ps sp ∧ mg x = some (.ref f) ∧ PySem.W.keepIn K (.ref f) = true ∧ L2.Binds K fd ps []
theorem pe_df {X : Cx} {x : Str} {ps : List Str} {k : Nat} {sp : Sp} {p pos : Pos} {e : Expr} {es : List Expr} {t : TA} (D : Df X.prog X.w X.K X.mg X.base x ps k sp) (hG : X.A.guards = some []) (hr : Room k X.A) (hg : Gl X x) (ha : PA X (e :: es) t)
    (hdb : (x == ("__debug__" : Str)) = false := by decide) (he : starEach (e :: es) X.env = (false, eval e X.env) :: starEach es X.env := by rfl) (hpl : (backTo pos (starEach es X.env)).any (·.1) = false := by rfl) :
    PE X (.Call (.Name x p) (e :: es) [] pos) (tCallG sp t) := by
  obtain ⟨f, fd, G, gm, kp, b⟩ := D.ex
  exact pe_callG G hG hr hg gm kp b ha hdb he hpl
theorem pe_con {X : Cx} {x : Str} {v : V} {pos : Pos} (hg : Gl X x) (h : ∃ u, X.mg x = some u ∧ L2.RelV v u) (hd : (x == ("__debug__" : Str)) = false := by decide) : PE X (.Name x pos) (tC v) := let ⟨_, g1, g2⟩ := h; pe_glob hg g1 g2 hd
theorem toG {f : Addr} {fd : FuncData} {ps : List Str} {k : Nat} {sp : Sp} (F : FnOk P w K mg base CX0 k f fd ps sp) : FnG P w K mg base k f fd ps sp :=
  ⟨fun vs H Q h => F.len _ _ _ _ h, fun A outer s H args us vs Q _ hr ev hb r h => F.run A outer s H args us vs Q E0 hr ev hb r h⟩
theorem impG {f : Addr} {fd : FuncData} {ps : List Str} {k : Nat} {sp sp' : Sp} (F : FnG P w K mg base k f fd ps sp) (h : ∀ vs H Q, sp' vs H Q E0 → sp vs H Q E0) : FnG P w K mg base k f fd ps sp' :=
  ⟨fun vs H Q q => F.len _ _ _ (h _ _ _ q), fun A outer s H args us vs Q hG hr ev hb r q => F.run A outer s H args us vs Q hG hr ev hb r (h _ _ _ q)⟩
end
def F_take : FF := fun as Q => match as with
  | [.box, .dt (.int n)] => (0 < n ∧ n < 1073741824) ∧ ∀ r, 0 ≤ r → r < n → Q (.int r)
  | _ => False
theorem m_take : MonoF F_take := fun as P P' h q => by
  unfold F_take at q ⊢
  split at q
  · exact ⟨q.1, fun r a b => h _ (q.2 r a b)⟩
  · exact q.elim
def spBx (K : PySem.W.Frag) : Sp := fun vs H Q _ => ∃ (a : Addr) (ns : List Int) (k : Nat), vs = [.ref a, .int k] ∧ SqL K H a (ns.map V.int) ∧ k ≤ 1000 ∧
  ∀ p x y, H p = none → 0 ≤ x → 0 ≤ y → y < 1000000000000 → Q (.ref p) (upd H p (.lst [.int x, .int y, .int 0]))
abbrev noBox : Sl → Sl
  | .box => .no
  | s => s
abbrev sBox (i : Nat) (fr : FA) : FS := fun ρ E => fr ρ fun as => match as with
  | [.scr _, .dt (.int k)] => (0 ≤ k ∧ k ≤ 1000) ∧ E.nx ((ρ.map noBox).set i .box)
  | _ => False
theorem snds_box {K : PySem.W.Frag} {i : Nat} {tr : TA} {fr : FA} {cr : Nat} (r : SndA K tr cr fr) : SndS K (tAsg (tCallG (spBx K) tr) (gName i)) cr (sBox i fr) :=
  ⟨fun ρ E E' h q => r.mono _ _ _ (fun as z => by
    split at z
    · exact ⟨z.1, h.nx _ z.2⟩
    · exact z.elim) q,
  fun {G H0 b0 b os m H σ ρ D E} ok hm hf kk => r.go ok.env hm hf fun as vs H1 h1 st bx hA => by
    split at h1
    · rename_i ns k
      obtain ⟨⟨k0, k1⟩, h1⟩ := h1
      cases hA with
      | cons a1 a2 =>
      cases a2 with
      | cons a2 a3 =>
      cases a3
      obtain ⟨p, rfl, hs⟩ := a1
      cases a2
      have ok1 := ok.step st bx (by omega)
      refine ⟨p, ns, k.toNat, ?_, Evl.ex_l rm_le hs, by omega, fun q x y nq x0 y0 y1 => ?_⟩
      · rw [Int.toNat_of_nonneg k0]
      have ex := Evl.Ex.new (o := .lst [.int x, .int y, .int 0]) nq
      have nS : ¬ SO G b os q := ok1.env.al.new nq
      have n0 : H0 q = none := back ok1.old ok1.obx nq
      have sub : ∀ a, SO G (some q) os a → SO G b os a ∨ a = q := fun a h => by
        rcases h with h | h | h
        · exact .inl (.inl h)
        · cases h
          exact .inr rfl
        · exact .inl (.inr (.inr h))
      have lk : Lk (SO G b os) H1 (SO G (some q) os) (upd H1 q (.lst [.int x, .int y, .int 0])) := fun a o n _ h => ⟨ex a o h, fun z => (sub a z).elim n fun w => by rw [w, nq] at h; cases h⟩
      have exr : Evl.Ex (rm H1 (SO G b os)) (rm (upd H1 q (.lst [.int x, .int y, .int 0])) (SO G (some q) os)) := fun a o h => by
        obtain ⟨n1, h1⟩ := rm_some h
        obtain ⟨g1, g2⟩ := lk a o n1 (rm_nt h) h1
        exact rm_in g2 g1 (rm_nt h)
      refine kk.nx (some q) os _ _ _ h1 ⟨⟨?_, fun j s h => ?_, ⟨x, y, 0, x0, y0, y1, by omega, by omega, upd_same⟩, fun p' e => .inr (.inl e), fun a h => ?_, ok1.env.tb.ex ex⟩, ok.inj, ok.new, ok1.old.trans (Stp.ex ex), .inr fun p' e => by cases e; exact n0, ok1.obx.ex ex, fun j a h e => ?_, fun j ds h ow => ?_, ok.al0, ok.bG⟩ ((Lk.step st ok.env.bs).trans lk)
      · rw [List.length_set, List.length_set, List.length_map]
        exact ok.env.len
      · rw [List.getElem?_set] at h ⊢
        by_cases z : i = j
        · rw [if_pos z] at h ⊢
          rw [List.length_map] at h
          rw [ok.env.len]
          split at h
          · rename_i l
            cases h
            rw [if_pos l]
            exact ⟨q, rfl, rfl⟩
          · cases h
        · rw [if_neg z] at h ⊢
          rw [List.getElem?_map] at h
          cases e0 : ρ[j]? with
          | none => rw [e0] at h; cases h
          | some s0 =>
          rw [e0] at h
          have h : noBox s0 = s := Option.some.inj h
          have w := ok1.env.sl j s0 e0
          cases s0 with
          | box => subst h; trivial
          | no => subst h; trivial
          | dt d => subst h; exact let ⟨v, e1, g⟩ := w; ⟨v, e1, g.mono exr⟩
          | own es =>
            subst h
            obtain ⟨p1, ws, e1, s1, n1, g1, k1⟩ := w
            obtain ⟨p2, q1, q2⟩ := ok.slo j _ e0 rfl
            rw [e1] at q2
            cases q2
            exact ⟨p1, ws, e1, .inr (.inr ⟨j, q1⟩), fun z => nS (by cases z; exact s1), ex _ _ g1, k1.mono exr⟩
          | scr ns => subst h; exact let ⟨v, e1, g⟩ := w; ⟨v, e1, Evl.ex_l exr g⟩
          | op g => subst h; exact let ⟨v, e1, g⟩ := w; ⟨v, e1, g.mono exr⟩
          | fn k ds => subst h; exact let ⟨v, e1, g⟩ := w; ⟨v, e1, g.mono exr⟩
          | exc k ds => subst h; exact let ⟨v, e1, g⟩ := w; ⟨v, e1, g.mono exr⟩
          | dct es =>
            subst h
            obtain ⟨p1, ws, e1, s1, n1, g1, k1⟩ := w
            obtain ⟨p2, q1, q2⟩ := ok.slo j _ e0 rfl
            rw [e1] at q2
            cases q2
            exact ⟨p1, ws, e1, .inr (.inr ⟨j, q1⟩), fun z => nS (by cases z; exact s1), ex _ _ g1, k1.mono exr⟩
          | dck k => subst h; exact let ⟨v, e1, g⟩ := w; ⟨v, e1, g.mono exr⟩
          | frt k => subst h; exact let ⟨v, e1, g⟩ := w; ⟨v, e1, g.mono exr⟩
      · rcases sub a h with h | rfl
        · exact ok1.env.al.ex ex a h
        · exact ⟨_, upd_same, rfl⟩
      · cases e
        exact nS (.inr (.inr ⟨j, h⟩))
      · rw [List.getElem?_set] at h ⊢
        by_cases z : i = j
        · rw [if_pos z] at h
          split at h
          · cases h
            exact absurd ow Bool.false_ne_true
          · cases h
        · rw [if_neg z] at h ⊢
          rw [List.getElem?_map] at h
          cases e0 : ρ[j]? with
          | none => rw [e0] at h; cases h
          | some s0 =>
          rw [e0] at h
          have h : noBox s0 = ds := Option.some.inj h
          subst h
          cases s0 with
          | own es => exact ok.slo j _ e0 rfl
          | dct es => exact ok.slo j _ e0 rfl
          | _ => exact absurd ow Bool.false_ne_true
    · exact h1.elim⟩
end Dv
namespace Dv
open PySem PySem.Spec PyProof.Rows L2 Xg
open Classical
section
variable {K : PySem.W.Frag} {ta tb : TE} {ca cb : Nat} {fa fb : FE}
theorem gN_some {i : Nat} : ∀ d (ρ : List Sl) (P : List Sl → Prop), gN i d ρ P → ∃ ρ', P ρ' := fun d ρ P h => ⟨_, h⟩
abbrev sPar (i j : Nat) (fa fb : FE) : FS := fun ρ E => fa ρ fun x => fb ρ fun y => E.nx ((ρ.set i (.dt x)).set j (.dt y))
theorem snds_par {i j : Nat} (a : Snd true K ta ca fa) (r : Snd true K tb cb fb) : SndS K (tPar i j (tCons ta (tCons tb tNil))) (ca + cb) (sPar i j fa fb) :=
  ⟨fun ρ E E' h q => a.mono _ _ _ (fun x => r.mono _ _ _ fun y => h.nx _) q, fun ok hm hf k => a.go ok.env (by omega) hf fun dx v H1 p st bx vd => by
    have ok1 := ok.step st bx (by omega)
    refine r.go ok1.env (by omega) p fun dy w H2 p2 st2 bx2 vd2 => ⟨v, w, rfl, ?_⟩
    have ok2 := ok1.step st2 bx2 (by omega)
    have k1 := ok2.kpt (ok2.env.set (i := i) (s := .dt dx) fun z e => ⟨_, e, Da.mono (st2.rm ok.env.bs) vd⟩) (kpt_set (vs := [i]) (by simp))
    have k2 := k1.kpt (k1.env.set (i := j) (s := .dt dy) fun z e => ⟨_, e, vd2⟩) (kpt_set (vs := [j]) (by simp))
    exact k.nx _ _ _ _ _ p2 (k2.le (by omega)) ((Lk.step st ok.env.bs).trans (Lk.step st2 ok.env.bs))⟩
abbrev eL (f : FD) : FE := fun ρ Q => f ρ fun ds => Q (.list ds)
abbrev fListOf (fa : FE) : FD := fun ρ Q => fa ρ fun d => listOfD d Q
abbrev allD : List PyData → (PyData → Prop) → Prop := g1 fun d Q => boolsQ (fun ns => Q (.bool (ns.all id))) d
def shal : Nat → PyData → Bool
  | _, .none => true
  | _, .bool _ => true
  | _, .int _ => true
  | _, .str _ => true
  | 0, .list _ => false
  | 0, .tuple _ => false
  | n + 1, .list ds => decide (ds.length ≤ 1000) && ds.all (shal n)
  | n + 1, .tuple ds => decide (ds.length ≤ 1000) && ds.all (shal n)
  | _, .dict _ => false
def F_same : FF := fun as Q => match as with
  | [.dt x, .dt y] => (x = y ∧ shal 5 x = true) ∧ Q (.bool true)
  | _ => False
theorem m_same : MonoF F_same := fun as P P' h q => by
  unfold F_same at q ⊢
  split at q
  · exact ⟨q.1, h _ q.2⟩
  · exact q.elim
end
end Dv
namespace Ke
open PySem PySem.Spec PyProof.Rows L2 Xg Dv
def F_take : FF := fun as Q => match as with
  | [.box, .dt (.int n)] => (0 < n ∧ n < 4611686018427387904) ∧ ∀ r, 0 ≤ r → r < n → Q (.int r)
  | _ => False
theorem m_take : MonoF F_take := fun as P P' h q => by
  unfold F_take at q ⊢
  split at q
  · exact ⟨q.1, fun r a b => h _ (q.2 r a b)⟩
  · exact q.elim
theorem log_n {n : Int} (h0 : 0 < n) (h : n < 4611686018427387904) : n.natAbs.log2 < 9000 := by
  have h1 : n.natAbs < 2 ^ 62 := by omega
  have := (Nat.log2_lt (by omega : n.natAbs ≠ 0)).mpr h1
  omega
end Ke
namespace Dv
open PySem PySem.Spec PyProof.Rows L2 Xg
open Classical
theorem law_sp {K : PySem.W.Frag} {c : Nat} {F : FF} (mF : MonoF F) (hc : c ≤ LIM) {H : Hp} {a : Addr} {ns : List Int} {E : XK} (hS : SqL K H a (ns.map V.int)) (hT : Tbs K H) (hF : F [.scr ns] (fun d => d = .bool true)) : spD K c F [.ref a] H (fun v _ => v = .bl true) E := by
  have b0 : BxO none H 0 := trivial
  have bs : ∀ p : Addr, (none : Option Addr) = some p → (fun _ : Addr => False) p := fun p e => nomatch e
  have al : Al (fun _ => False) H ∧ Tbs K H := ⟨fun a h => h.elim, hT⟩
  have hS' : SqL K (rm H fun _ => False) a (ns.map V.int) := by
    rcases hS with (h | ⟨o, h⟩) | h
    · exact .inl (.inl (rm_in id h))
    · exact .inl (.inr ⟨o, rm_in id h⟩)
    · exact .inr h
  refine ⟨none, fun _ => False, 0, [.scr ns], .cons ⟨a, rfl, hS'⟩ .nil, b0, bs, al, by omega, mF _ _ _ (fun d e v H' _ _ hd => ?_) hF⟩
  subst e
  cases hd
  rfl
end Dv
namespace Dv
open PySem PySem.Spec PyProof.Rows L2 Xg
end Dv
namespace Dv
open PySem PySem.Spec PyProof.Rows L2 Xg
open Classical
section
variable {K : PySem.W.Frag} {G : Addr → Prop} {H0 : Hp} {b0 b : Option Addr} {os : Nat → Option Addr} {m : Nat} {H : Hp} {σ : L2.St} {ρ : List Sl} {t : TS} {c : Nat} {f : FS}
abbrev frz (i : Nat) (ρ : List Sl) : List Sl := match ρ[i]? with
  | some (.own ds) => ρ.set i (.dt (.list ds))
  | _ => ρ
theorem Ok.frz {i : Nat} {ds : List PyData} (ok : Ok K G H0 b0 b os m H σ ρ) (hi : ρ[i]? = some (.own ds)) : ∃ os', Ok K G H0 b0 b os' m H σ (ρ.set i (.dt (.list ds))) ∧ Lk (SO G b os) H (SO G b os') H := by
  obtain ⟨p, vs, e1, e2, e3, e4, e5⟩ := ok.env.sl i _ hi
  obtain ⟨p', q1, q2⟩ := ok.slo i _ hi rfl
  rw [e1] at q2
  cases q2
  have p0 := ok.new _ _ q1
  have sub : ∀ a, SO G b (fun j => if j = i then none else os j) a → SO G b os a := fun a h => by
    rcases h with h | h | ⟨j, h⟩
    · exact .inl h
    · exact .inr (.inl h)
    · refine .inr (.inr ⟨j, ?_⟩)
      dsimp only at h
      split at h
      · cases h
      · exact h
  have nS : ¬ SO G b (fun j => if j = i then none else os j) p := fun h => by
    rcases h with h | h | ⟨j, h⟩
    · exact ok.al0.no p h p0
    · exact e3 h
    · dsimp only at h
      split at h
      · cases h
      · rename_i n
        exact n (ok.inj _ _ _ h q1)
  have ex : Evl.Ex (rm H (SO G b os)) (rm H (SO G b fun j => if j = i then none else os j)) := rm_sub sub
  refine ⟨fun j => if j = i then none else os j, ⟨⟨by rw [List.length_set]; exact ok.env.len, fun j s h => ?_, ok.env.bx, fun q e => .inr (.inl e), fun a h => ok.env.al a (sub a h), ok.env.tb⟩, fun j k a h1 h2 => ?_, fun j a h => ?_, ok.old, ok.bn, ok.obx, fun j a h => ?_, fun j es h ow => ?_, ok.al0, ok.bG⟩, fun a o n _ h => ⟨h, fun z => n (sub a z)⟩⟩
  · rw [List.getElem?_set] at h
    by_cases z : i = j
    · subst z
      rw [if_pos rfl] at h
      split at h
      · cases h
        exact ⟨.ref p, e1, .lst (rm_in nS e4) (e5.mono ex)⟩
      · cases h
    · rw [if_neg z] at h
      have q := ok.env.sl j s h
      cases s with
      | no => trivial
      | dt d => exact let ⟨v, r1, g⟩ := q; ⟨v, r1, g.mono ex⟩
      | own ts =>
        obtain ⟨p3, us, r1, s3, n3, g3, k3⟩ := q
        obtain ⟨p4, w1, w2⟩ := ok.slo j _ h rfl
        rw [r1] at w2
        cases w2
        exact ⟨p3, us, r1, .inr (.inr ⟨j, by show (if j = i then none else os j) = some p3; rw [if_neg fun w => z w.symm]; exact w1⟩), n3, g3, k3.mono ex⟩
      | box => exact q
      | scr ns => exact let ⟨v, r1, g⟩ := q; ⟨v, r1, Evl.ex_l ex g⟩
      | op g => exact let ⟨v, r1, g⟩ := q; ⟨v, r1, g.mono ex⟩
      | fn k ds => exact let ⟨v, r1, g⟩ := q; ⟨v, r1, g.mono ex⟩
      | exc k ds => exact let ⟨v, r1, g⟩ := q; ⟨v, r1, g.mono ex⟩
      | dct ts =>
        obtain ⟨p3, us, r1, s3, n3, g3, k3⟩ := q
        obtain ⟨p4, w1, w2⟩ := ok.slo j _ h rfl
        rw [r1] at w2
        cases w2
        exact ⟨p3, us, r1, .inr (.inr ⟨j, by show (if j = i then none else os j) = some p3; rw [if_neg fun w => z w.symm]; exact w1⟩), n3, g3, k3.mono ex⟩
      | dck k => exact let ⟨v, r1, g⟩ := q; ⟨v, r1, g.mono ex⟩
      | frt k => exact let ⟨v, r1, g⟩ := q; ⟨v, r1, g.mono ex⟩
  · split at h1
    · cases h1
    · split at h2
      · cases h2
      · exact ok.inj _ _ _ h1 h2
  · split at h
    · cases h
    · exact ok.new _ _ h
  · split at h
    · cases h
    · exact ok.bo _ _ h
  · rw [List.getElem?_set] at h
    by_cases z : i = j
    · rw [if_pos z] at h
      split at h
      · cases h
        exact absurd ow Bool.false_ne_true
      · cases h
    · rw [if_neg z] at h
      obtain ⟨p4, w1, w2⟩ := ok.slo j _ h ow
      exact ⟨p4, by show (if j = i then none else os j) = some p4; rw [if_neg fun w => z w.symm]; exact w1, w2⟩
end
end Dv
namespace Sv
open PySem PySem.Spec PyProof.Rows L2 HT
theorem fm_congr {α β : Type} {f g : α → Option β} : ∀ {l : List α}, (∀ x ∈ l, f x = g x) → l.filterMap f = l.filterMap g
  | [], _ => rfl
  | a :: l, h => by
    rw [List.filterMap_cons, List.filterMap_cons, h a (List.mem_cons_self ..), fm_congr fun x m => h x (List.mem_cons_of_mem _ m)]
theorem fm_self {α : Type} : ∀ l : List α, (List.range l.length).filterMap (fun m => l[m]?) = l
  | [] => rfl
  | a :: l => by
    rw [List.length_cons, List.range_succ_eq_map, List.filterMap_cons, List.filterMap_map]
    show a :: (List.range l.length).filterMap (fun m => (a :: l)[m + 1]?) = a :: l
    rw [show (fun m => (a :: l)[m + 1]?) = (fun m => l[m]?) from rfl, fm_self l]
def Upto (hi : Option Int) (d : Nat) : Prop := (hi = none ∧ d = 0) ∨ (hi = some 0 ∧ d = 1)
theorem adj {hi : Option Int} {d n : Nat} (u : Upto hi d) : ∃ b, Builtin.Slice.sliceAdjust none hi (-1) (n : Int) = ((n : Int) - 1, b) ∧ Builtin.Slice.slicePlaces ((n : Int) - 1) b (-1) = n - d := by
  rcases u with ⟨rfl, rfl⟩ | ⟨rfl, rfl⟩
  · refine ⟨-1, rfl, ?_⟩
    unfold Builtin.Slice.slicePlaces
    rw [if_neg (by decide), show (-(-1 : Int)) = 1 by decide, Int.ediv_one]
    split <;> omega
  · refine ⟨min 0 ((n : Int) - 1), rfl, ?_⟩
    unfold Builtin.Slice.slicePlaces
    rw [if_neg (by decide), show (-(-1 : Int)) = 1 by decide, Int.ediv_one]
    split <;> omega
theorem pk (xs : Array Value) (d : Nat) : ((List.range (xs.size - d)).filterMap fun (m : Nat) => xs[(((xs.size : Nat) : Int) - 1 + (m : Int) * (-1)).toNat]?).toArray = ((xs.toList.drop d).reverse).toArray := by
  congr 1
  have l : ((xs.toList.drop d).reverse).length = xs.size - d := by
    rw [List.length_reverse, List.length_drop, Array.length_toList]
  have e := fm_self ((xs.toList.drop d).reverse)
  rw [l] at e
  refine Eq.trans (fm_congr fun m hm => ?_) e
  have hm := List.mem_range.mp hm
  have z : (((xs.size : Nat) : Int) - 1 + (m : Int) * (-1)).toNat = xs.size - 1 - m := by omega
  rw [z, List.getElem?_reverse (by rw [List.length_drop, Array.length_toList]; exact hm), List.getElem?_drop, List.length_drop, Array.length_toList, ← Array.getElem?_toList]
  congr 1
  omega
section
variable {prog : Program} {w : World} {A : Around} {E : Value → Shared → Prop} {s : Shared}
theorem ap {sl : Addr} {vl vu vs : Value} {hi : Option Int} {d n : Nat} {Q : Int × Int × Nat → Shared → Prop} (u : Upto hi d) (hs : s.heap.IsSliceOf sl vl vu vs) (pl : IsPart vl none) (pu : IsPart vu hi) (ps : IsPart vs (some (-1)))
    (q : Q ((n : Int) - 1, -1, n - d) s) : wpAny (model prog w) A (Builtin.Slice.sliceApplied (.ref sl) (pure (n : Int))) Q E s := by
  obtain ⟨os, h1, h2, h3⟩ := id hs
  unfold Builtin.Slice.sliceApplied Builtin.Slice.sliceFields
  refine wpAny_bind (wpAny_bind (wpAny_field h1 h3 (x := vl) rfl (wpAny_bind (wpAny_field h1 h3 (x := vu) rfl (wpAny_bind (wpAny_field h1 h3 (x := vs) rfl (wpAny_pure ?_)))))))
  refine wpAny_bind (slicePart_ ps ?_)
  show wpAny _ _ (if ((-1 : Int) == 0) = true then _ else _) _ _ s
  rw [if_neg (by decide)]
  refine wpAny_bind (slicePart_ pl (wpAny_bind (slicePart_ pu (wpAny_bind (wpAny_pure ?_)))))
  obtain ⟨b, g1, g2⟩ := adj (n := n) u
  show wpAny _ _ (match Builtin.Slice.sliceAdjust none hi (-1) (n : Int) with | (lo, hi) => pure (lo, (-1 : Int), Builtin.Slice.slicePlaces lo hi (-1))) _ _ s
  rw [g1]
  show wpAny _ _ (pure ((n : Int) - 1, (-1 : Int), Builtin.Slice.slicePlaces ((n : Int) - 1) b (-1))) _ _ s
  rw [g2]
  exact wpAny_pure q
theorem gi {t sl : Addr} {xs : Array Value} {vl vu vs : Value} {hi : Option Int} {d : Nat} {Q : Value → Shared → Prop} (u : Upto hi d) (ht : IsTup s.heap t xs) (hs : s.heap.IsSliceOf sl vl vu vs) (pl : IsPart vl none) (pu : IsPart vu hi) (ps : IsPart vs (some (-1)))
    (q : Q (.ref s.heap.objs.size) { s with heap := s.heap.push { cls := .type "tuple", data := .seq ((xs.toList.drop d).reverse).toArray } }) (hz : xs.size ≤ sizeLine) : wpAny (model prog w) A (getItem (.ref t) (.ref sl)) Q E s := by
  have fit : sizeOk (.seq ((xs.toList.drop d).reverse).toArray) := by
    show ((xs.toList.drop d).reverse).toArray.size ≤ sizeLine
    rw [List.size_toArray, List.length_reverse, List.length_drop, Array.length_toList]
    omega
  obtain ⟨os, h1, h2, h3⟩ := id hs
  have tS : s.TypeIs (.ref sl) "slice" := ⟨os, h1, h2⟩
  unfold getItem
  try with_reducible refine wpAny_holding ?_
  first | refine wpAny_bind (wpAny_pure ?_) | skip
  refine wpAny_bind (wpAny_sequenceKey (IsTup.typeIs ht) (by decide) ?_)
  refine wpAny_bind (wpAny_callSpecial?_slot (name := Str.ofString "__getitem__") (IsTup.typeIs ht) slot_tuple_getitem (wpAny_call_entry slot_tuple_getitem (IsTup.typeIs ht) entry_tuple_getitem ?_ (args_tuple_getitem _ _)))
  show wpAny _ _ (Builtin.Tuple.tupleItemsOf (.ref t) >>= _) _ _ s
  refine wpAny_bind (tupleItemsOf_ ht (wpAny_bind (wpAny_typeOf tS ?_)))
  rw [if_pos (by decide)]
  refine wpAny_bind (ap u hs pl pu ps ?_)
  have no : ¬ (((((xs.size : Nat) : Int) - 1) == 0 && (-1 : Int) == 1 && (xs.size - d) == xs.size) = true) := fun z => by
    rw [Bool.and_eq_true, Bool.and_eq_true] at z
    exact absurd (eq_of_beq z.1.2) (by decide)
  show wpAny _ _ (if ((((xs.size : Nat) : Int) - 1) == 0 && (-1 : Int) == 1 && (xs.size - d) == xs.size) = true then _ else _) _ _ s
  rw [if_neg no, pk]
  first
    | exact wpAny_bind (m := Builtin.Tuple.tupleExact _) (wpAny_newObj_type (wpAny_pure ⟨_, rfl, wpAny_pure q⟩) fit)
    | exact wpAny_bind (m := Builtin.Tuple.tupleExact _) (wpAny_newObj_type (wpAny_bind (wpAny_pure (wpAny_pure ⟨_, rfl, wpAny_pure q⟩))) fit)
    | exact wpAny_bind (wpAny_bind (m := Builtin.Tuple.tupleExact _) (wpAny_newObj_type (wpAny_pure (wpAny_pure ⟨_, rfl, wpAny_pure q⟩)) fit))
    | exact wpAny_bind (wpAny_bind (m := Builtin.Tuple.tupleExact _) (wpAny_newObj_type (wpAny_pure ⟨_, rfl, wpAny_pure q⟩) fit))
end
section
variable {X : Cx}
end
end Sv
namespace Dv
open PySem PySem.Spec PyProof.Rows L2 Xg
open Classical
section
variable {K : PySem.W.Frag} {md : Bool} {ta : TE} {ca : Nat} {fa : FE}
end
end Dv
namespace Dv
open PySem PySem.Spec PyProof.Rows L2 Xg
open Classical
section
variable {K : PySem.W.Frag} {ta tb tc : TE} {ca cb cc : Nat} {fa fb fc : FE}
abbrev sPar3 (i j l : Nat) (fa fb fc : FE) : FS := fun ρ E => fa ρ fun x => fb ρ fun y => fc ρ fun z => E.nx (((ρ.set i (.dt x)).set j (.dt y)).set l (.dt z))
theorem snds_par3 {i j l : Nat} (a : Snd true K ta ca fa) (r : Snd true K tb cb fb) (u : Snd true K tc cc fc) : SndS K (tPar3 i j l (tCons ta (tCons tb (tCons tc tNil)))) (ca + (cb + cc)) (sPar3 i j l fa fb fc) :=
  ⟨fun ρ E E' h q => a.mono _ _ _ (fun x => r.mono _ _ _ fun y => u.mono _ _ _ fun z => h.nx _) q, fun ok hm hf k => a.go ok.env (by omega) hf fun dx v H1 p st bx vd => by
    have ok1 := ok.step st bx (by omega)
    refine r.go ok1.env (by omega) p fun dy w H2 p2 st2 bx2 vd2 => ?_
    have ok2 := ok1.step st2 bx2 (by omega)
    refine u.go ok2.env (by omega) p2 fun dz w3 H3 p3 st3 bx3 vd3 => ⟨v, w, w3, rfl, ?_⟩
    have ok3 := ok2.step st3 bx3 (by omega)
    have k1 := ok3.kpt (ok3.env.set (i := i) (s := .dt dx) fun z e => ⟨_, e, Da.mono (st3.rm ok.env.bs) (Da.mono (st2.rm ok.env.bs) vd)⟩) (kpt_set (vs := [i]) (by simp))
    have k2 := k1.kpt (k1.env.set (i := j) (s := .dt dy) fun z e => ⟨_, e, Da.mono (st3.rm ok.env.bs) vd2⟩) (kpt_set (vs := [j]) (by simp))
    have k3 := k2.kpt (k2.env.set (i := l) (s := .dt dz) fun z e => ⟨_, e, vd3⟩) (kpt_set (vs := [l]) (by simp))
    exact k.nx _ _ _ _ _ p3 (k3.le (by omega)) (((Lk.step st ok.env.bs).trans (Lk.step st2 ok.env.bs)).trans (Lk.step st3 ok.env.bs))⟩
end
end Dv
namespace Ez
open PySem PySem.Spec PyProof.Rows L2 Zq
open PySem.Sem (wp)
open AutoSeq1 (wpAny_loadPart')
abbrev ZpF (g : Heap) (z S T : Addr) (v : Value) (f : Bool) : Prop := g.get? z = some { cls := .type "zip", dict := none, data := .fields #[v, .bool f, .bool false, .ref S, .ref T], slots := #[] }
def Og (v : Value) : Prop := v = .none ∨ ∃ a : Nat, v = rawInt a
structure ZS (t u : Bool) (g : Heap) (z S T p1 p2 a b : Addr) (i : Nat) : Prop where
  zp : ∃ v f, Og v ∧ ZpF g z S T v f
  S0 : IsPair g S (.ref p1) (.ref p2)
  T0 : ∃ x y, IsPair g T x y
  f1 : itK t g p1 a i
  f2 : itK u g p2 b i
section
variable {prog : Program} {w : World} {A : Around} {E : Value → Shared → Prop} {s : Shared}
end
end Ez
namespace Ez
open PySem PySem.Spec PyProof.Rows L2 Zq
open PySem.Sem (wp)
open AutoSeq1 (wpAny_loadPart')
theorem ZS.keep {t u : Bool} {g g' : Heap} {z S T p1 p2 a b : Addr} {i : Nat} (st : ZS t u g z S T p1 p2 a b i) (k : ∀ c ∈ [z, S, T, p1, p2], ∀ o, g.get? c = some o → g'.get? c = some o) : ZS t u g' z S T p1 p2 a b i :=
  ⟨let ⟨v, f, og, z0⟩ := st.zp; ⟨v, f, og, k z (by simp) _ z0⟩, k S (by simp) _ st.S0, let ⟨x, y, T0⟩ := st.T0; ⟨x, y, k T (by simp) _ T0⟩, it_at st.f1 (k p1 (by simp)), it_at st.f2 (k p2 (by simp))⟩
theorem ZS.obj {t u : Bool} {g : Heap} {z S T p1 p2 a b : Addr} {i : Nat} (st : ZS t u g z S T p1 p2 a b i) {c : Addr} (hc : c ∈ [z, S, T, p1, p2]) : ∃ o, g.get? c = some o ∧ ∀ v, o.data ≠ .cell v := by
  obtain ⟨⟨v, f, og, z0⟩, S0, ⟨x, y, T0⟩, f1, f2⟩ := st
  obtain ⟨o1, g1, d1⟩ := it_obj f1
  obtain ⟨o2, g2, d2⟩ := it_obj f2
  refine five hc (fun e => ?_) (fun e => ?_) (fun e => ?_) (fun e => ?_) (fun e => ?_) <;> rw [e]
  · exact ⟨_, z0, fun _ k => nomatch k⟩
  · exact ⟨_, S0, fun _ k => nomatch k⟩
  · exact ⟨_, T0, fun _ k => nomatch k⟩
  · exact ⟨o1, g1, fun _ k => by cases d1.symm.trans k⟩
  · exact ⟨o2, g2, fun _ k => by cases d2.symm.trans k⟩
section
variable {prog : Program} {w : World} {A : Around} {E : Value → Shared → Prop} {s : Shared}
end
end Ez
namespace Ez
open PySem PySem.Spec PyProof.Rows L2 Zq Xg
end Ez
namespace Dv
open PySem PySem.Spec PyProof.Rows L2 Xg
open Classical
section
variable {K : PySem.W.Frag} {md : Bool} {ta tb : TE} {ca cb : Nat} {fa fb : FE}
end
end Dv
namespace Dv
open PySem PySem.Spec PyProof.Rows L2 Xg
open Classical
section
variable {K : PySem.W.Frag} {md : Bool} {ta tc : TE} {ca cc : Nat} {fa fc : FE}
end
end Dv
namespace Dv
open PySem PySem.Spec PyProof.Rows L2 Xg
open Classical
theorem ps_never {X : Cx} {st : Stmt} : PS X st (fun _ _ _ => False) := ⟨fun _ _ _ _ _ _ h => h.elim⟩
abbrev sNever : FS := fun _ _ => False
theorem snds_never {K : PySem.W.Frag} : SndS K (fun _ _ _ => False) 0 sNever := ⟨fun _ _ _ _ q => q.elim, fun _ _ hf _ => hf.elim⟩
end Dv
namespace Dv
open PySem PySem.Spec PyProof.Rows L2 Xg
open Classical
section
variable {K : PySem.W.Frag} {md : Bool} {ta tb : TE} {ca cb : Nat} {fa fb : FE}
end
end Dv
namespace Dv
open PySem PySem.Spec PyProof.Rows L2 Xg
open Classical
structure DfR (P : Program) (w : World) (K : PySem.W.Frag) (mg : Str → Option Value) (base : Heap) (x : Str) (ps : List Str) (k : Nat) (sp : Sp) : Prop where
  ex : ∃ (f : Addr) (fd : FuncData), FnG P w K mg base k f fd ps sp ∧ mg x = some (.ref f) ∧ PySem.W.keepIn K (.ref f) = true ∧ KwOnly K fd ps ps.reverse List.reverse
section
variable {K : PySem.W.Frag} {tr : TA} {cr c : Nat} {fr : FA}
theorem ArgL.app {b : Option Addr} {S : Addr → Prop} {H : Hp} : ∀ {vs ws : List V} {as bs : List Sl}, ArgL K b S H vs as → ArgL K b S H ws bs → ArgL K b S H (vs ++ ws) (as ++ bs)
  | _, _, _, _, .nil, h => h
  | _, _, _, _, .cons h g, k => .cons h (ArgL.app g k)
end
end Dv
namespace Dv
open PySem PySem.Spec PyProof.Rows L2 Xg
end Dv
namespace Dv
open PySem PySem.Spec PyProof.Rows L2 Xg
open Classical
section
variable {K : PySem.W.Frag} {md : Bool} {ta : TE} {ca : Nat} {fa : FE}
end
end Dv
namespace Dv
open PySem PySem.Spec PyProof.Rows L2 Xg
open Classical
section
variable {K : PySem.W.Frag} {tt : TT} {ft : FT} {ct ca cb c : Nat} {ta tb : TE} {fa fb : FD}
end
end Dv
namespace Dv
open PySem PySem.Spec PyProof.Rows L2 Xg
open Classical
abbrev FN := List Sl → (List (List PyData) → Prop) → Prop
structure SndN (K : PySem.W.Frag) (t : TA) (n c : Nat) (f : FN) : Prop where
  mono : ∀ (ρ : List Sl) (P P' : List (List PyData) → Prop), (∀ d, P d → P' d) → f ρ P → f ρ P'
  go : ∀ {b : Option Addr} {S : Addr → Prop} {m : Nat} {σ : L2.St} {H : Hp} {ρ : List Sl} {Q : List V → Hp → Prop} {P : List (List PyData) → Prop}, DEnv K b S m H σ ρ → m + c ≤ LIM → f ρ P →
    (∀ (dss : List (List PyData)) (ps : List Addr) (H' : Hp), P dss → ps.length = n → Stp K b H H' → BxO b H' (m + c) → (∀ q ∈ ps, H q = none) → ps.Nodup → DaL K (rm H' S) (ps.map V.ref) (dss.map PyData.list) → Q (ps.map V.ref) H') → t σ H Q
section
variable {K : PySem.W.Frag} {ta : TE} {tr : TA} {ca cr n c : Nat} {fa : FD} {fr : FN}
def Ch (H : Hp) (q : Addr) (B : Nat) (H' : Hp) : Prop := (∀ a o, a ≠ q → H a = some o → H' a = some o) ∧ ∃ ws, H' q = some (.lst ws) ∧ ws.length ≤ B
structure Wm (k : Nat) (t : TE → TS) : Prop where
  go : ∀ {to : TE} {D : Ends} {σ : L2.St} {H : Hp} {q : Addr} {ws : List V} {B : Nat}, (∀ (H1 : Hp) (Q : VK), (∀ a o, a ≠ q → H a = some o → H1 a = some o) → Q (.ref q) H1 → to σ H1 Q) → H q = some (.lst ws) → ws.length ≤ B → B + k < sizeLine → (∀ H', Ch H q (B + k) H' → D.nx σ H') → t to D σ H
structure Wr (i n : Nat) (vs : List Nat) (k : Nat) (t : TS) : Prop where
  go : ∀ {D : Ends} {σ : L2.St} {H : Hp} {p : Addr} {ps : List Addr} {B : Nat}, (∀ x ∈ vs, x < σ.length) → σ[i]? = some (some (.ref p)) → H p = some (.lst (ps.map V.ref)) → ps.length = n → ps.Nodup → p ∉ ps → (∀ q ∈ ps, ∃ ws, H q = some (.lst ws) ∧ ws.length ≤ B) → B + k < sizeLine →
    (∀ σ' H', σ'.length = σ.length → (∀ x, x ∉ vs → σ'[x]? = σ[x]?) → (∀ a o, a ∉ ps → H a = some o → H' a = some o) → (∀ q ∈ ps, ∃ ws, H' q = some (.lst ws) ∧ ws.length ≤ B + k) → D.nx σ' H') → t D σ H
structure SndW (K : PySem.W.Frag) (i n : Nat) (vs : List Nat) (t : TS) (c : Nat) (f : FS) : Prop where
  mono : ∀ (ρ : List Sl) (E E' : DEnds), DLe E E' → f ρ E → f ρ E'
  go : ∀ {b : Option Addr} {S : Addr → Prop} {m : Nat} {σ : L2.St} {H : Hp} {ρ : List Sl} {D : Ends} {E : DEnds} {p : Addr} {ps : List Addr}, DEnv K b S m H σ ρ → m + c ≤ LIM → (∀ x ∈ vs, x < σ.length) → σ[i]? = some (some (.ref p)) → H p = some (.lst (ps.map V.ref)) → ps.length = n → ps.Nodup → p ∉ ps →
    b ≠ some p → (∀ q ∈ ps, b ≠ some q) → (∀ q ∈ ps, ∃ ws, H q = some (.lst ws) ∧ ws.length ≤ 1000000) → f ρ E →
    (∀ σ' H', E.nx ρ → σ'.length = σ.length → (∀ x, x ∉ vs → σ'[x]? = σ[x]?) → (∀ a o, a ∉ ps → b ≠ some a → H a = some o → HoLe K H H' a o) → BxO b H' (m + c) → D.nx σ' H') →
    (∀ H', E.rt (.bool false) → Stp K b H H' → BxO b H' (m + c) → D.rt (.bl false) H') → t D σ H
end
end Dv
namespace Sx
open PySem PySem.Spec PyProof.Rows L2
section
variable {prog : Program} {w : World} {A : Around} {E : Value → Shared → Prop} {s : Shared}
end
section
variable {X : Cx}
end
end Sx
namespace Dv
open PySem PySem.Spec PyProof.Rows L2 Xg
open Classical
section
variable {K : PySem.W.Frag} {ta tx : TE} {ca cx : Nat} {fa : FD} {fx : FE} {md : Bool}
end
end Dv
namespace Dv
open PySem PySem.Spec PyProof.Rows L2 Xg
theorem vals_ints : ∀ {ys : List Int} {is : List Value}, Vals (ys.map V.int) is → IntsAre is ys
  | [], is, h => by cases h; exact .nil
  | y :: ys, is, h => by
    cases h with
    | cons e r =>
      obtain ⟨t, rfl⟩ := e
      exact .cons y t (vals_ints r)
section
variable {X : Cx}
end
section
variable {K : PySem.W.Frag}
variable {ta tb : TE} {ca cb : Nat} {fa fb : FE} {md md2 : Bool}
end
end Dv
namespace Dv
open PySem PySem.Spec PyProof.Rows L2 Xg
open Classical
section
variable {K : PySem.W.Frag} {tt : TT} {ft : FT} {t : TS} {f : FS} {c : Nat}
end
section
variable {K : PySem.W.Frag} {ta : TE} {tr : TA} {ca cr n l c : Nat} {fr : FN} {fa : FE}
structure Two (b : Option Addr) (σ : L2.St) (H : Hp) (i j n l : Nat) (p r : Addr) (ps rs : List Addr) : Prop where
  si : σ[i]? = some (some (.ref p))
  sj : σ[j]? = some (some (.ref r))
  hp : H p = some (.lst (ps.map V.ref))
  hr : H r = some (.lst (rs.map V.ref))
  ln : ps.length = n
  ll : rs.length = l
  nd : (ps ++ rs).Nodup
  np : p ∉ ps ++ rs
  nr : r ∉ ps ++ rs
  bp : b ≠ some p
  br : b ≠ some r
  bq : ∀ q ∈ ps ++ rs, b ≠ some q
  hq : ∀ q ∈ ps ++ rs, ∃ ws, H q = some (.lst ws) ∧ ws.length ≤ 1000000
theorem Two.step {b : Option Addr} {σ : L2.St} {H H' : Hp} {i j n l : Nat} {p r : Addr} {ps rs : List Addr} (T : Two b σ H i j n l p r ps rs) (st : Stp K b H H') : Two b σ H' i j n l p r ps rs :=
  ⟨T.si, T.sj, st _ _ T.bp T.hp, st _ _ T.br T.hr, T.ln, T.ll, T.nd, T.np, T.nr, T.bp, T.br, T.bq, fun q m => by
    obtain ⟨ws, w1, w2⟩ := T.hq q m
    exact ⟨ws, st _ _ (T.bq q m) w1, w2⟩⟩
structure SndY (K : PySem.W.Frag) (i n j l : Nat) (vs : List Nat) (t : TS) (c : Nat) (f : FS) : Prop where
  mono : ∀ (ρ : List Sl) (E E' : DEnds), DLe E E' → f ρ E → f ρ E'
  go : ∀ {b : Option Addr} {S : Addr → Prop} {m : Nat} {σ : L2.St} {H : Hp} {ρ : List Sl} {D : Ends} {E : DEnds} {p r : Addr} {ps rs : List Addr}, DEnv K b S m H σ ρ → m + c ≤ LIM → (∀ x ∈ vs, x < σ.length) → Two b σ H i j n l p r ps rs → f ρ E →
    (∀ σ' H' ρ', E.nx ρ' → σ'.length = σ.length → (∀ x, x ∉ vs → σ'[x]? = σ[x]?) → (∀ a o, a ∉ ps ++ rs → b ≠ some a → H a = some o → HoLe K H H' a o) → BxO b H' (m + c) → D.nx σ' H') →
    (∀ H', E.rt (.bool false) → Stp K b H H' → BxO b H' (m + c) → D.rt (.bl false) H') → t D σ H
structure One (b : Option Addr) (σ : L2.St) (H : Hp) (i n : Nat) (p : Addr) (ps : List Addr) : Prop where
  si : σ[i]? = some (some (.ref p))
  hp : H p = some (.lst (ps.map V.ref))
  ln : ps.length = n
  nd : ps.Nodup
  np : p ∉ ps
  bp : b ≠ some p
  bq : ∀ q ∈ ps, b ≠ some q
  hq : ∀ q ∈ ps, ∃ ws, H q = some (.lst ws) ∧ ws.length ≤ 1000000
theorem One.step {b : Option Addr} {σ : L2.St} {H H' : Hp} {i n : Nat} {p : Addr} {ps : List Addr} (T : One b σ H i n p ps) (st : Stp K b H H') : One b σ H' i n p ps :=
  ⟨T.si, st _ _ T.bp T.hp, T.ln, T.nd, T.np, T.bp, T.bq, fun q m => by
    obtain ⟨ws, w1, w2⟩ := T.hq q m
    exact ⟨ws, st _ _ (T.bq q m) w1, w2⟩⟩
structure SndX (K : PySem.W.Frag) (i n : Nat) (vs : List Nat) (t : TS) (c : Nat) (f : FS) : Prop where
  mono : ∀ (ρ : List Sl) (E E' : DEnds), DLe E E' → f ρ E → f ρ E'
  go : ∀ {b : Option Addr} {S : Addr → Prop} {m : Nat} {σ : L2.St} {H : Hp} {ρ : List Sl} {D : Ends} {E : DEnds} {p : Addr} {ps : List Addr}, DEnv K b S m H σ ρ → m + c ≤ LIM → (∀ x ∈ vs, x < σ.length) → One b σ H i n p ps → f ρ E →
    (∀ σ' H' ρ', E.nx ρ' → σ'.length = σ.length → (∀ x, x ∉ vs → σ'[x]? = σ[x]?) → (∀ a o, a ∉ ps → b ≠ some a → H a = some o → HoLe K H H' a o) → BxO b H' (m + c) → D.nx σ' H') →
    (∀ H', E.rt (.bool false) → Stp K b H H' → BxO b H' (m + c) → D.rt (.bl false) H') → t D σ H
end
end Dv
namespace Zq
open PySem PySem.Spec PyProof.Rows L2
def It3 (K : PySem.W.Frag) (a b c : Addr) : It where
  go i H := ∃ (xs ys zs : List V) (x y w : V), (SqT K H a xs ∧ xs[i]? = some x) ∧ (SqT K H b ys ∧ ys[i]? = some y) ∧ (SqT K H c zs ∧ zs[i]? = some w)
  yld i H v H' := ∃ W x y w, v = .ref W ∧ H W = none ∧ H' = upd H W (.tup [x, y, w]) ∧ (∀ l, SqT K H a l → l[i]? = some x) ∧ (∀ l, SqT K H b l → l[i]? = some y) ∧ (∀ l, SqT K H c l → l[i]? = some w)
  stop i H := ∃ xs ys zs : List V, SqT K H a xs ∧ SqT K H b ys ∧ SqT K H c zs ∧ i = min (min xs.length ys.length) zs.length
def tn3 (z S T p1 p2 p3 a b c : Addr) (i : Nat) (g : Heap) : Prop := IsZip g z S T .none ∧ IsTupOf3 g S (.ref p1) (.ref p2) (.ref p3) ∧ (∃ x y w, IsTupOf3 g T x y w) ∧ itK true g p1 a i ∧ itK true g p2 b i ∧ itK true g p3 c i
theorem six {z S T p1 p2 p3 c : Addr} {M : Prop} (h : c ∈ [z, S, T, p1, p2, p3]) (m1 : c = z → M) (m2 : c = S → M) (m3 : c = T → M) (m4 : c = p1 → M) (m5 : c = p2 → M) (m6 : c = p3 → M) : M := by
  simp only [List.mem_cons, List.not_mem_nil, or_false] at h
  exact h.elim m1 fun h => h.elim m2 fun h => h.elim m3 fun h => h.elim m4 fun h => h.elim m5 m6
theorem tn3_obj {z S T p1 p2 p3 a b e : Addr} {i : Nat} {g : Heap} (st : tn3 z S T p1 p2 p3 a b e i g) {c : Addr} (hc : c ∈ [z, S, T, p1, p2, p3]) : ∃ o, g.get? c = some o ∧ ∀ v, o.data ≠ .cell v := by
  obtain ⟨z0, S0, ⟨x, y, w, T0⟩, f1, f2, f3⟩ := st
  obtain ⟨o1, g1, d1⟩ := it_obj f1
  obtain ⟨o2, g2, d2⟩ := it_obj f2
  obtain ⟨o3, g3, d3⟩ := it_obj f3
  refine six hc (fun e => ?_) (fun e => ?_) (fun e => ?_) (fun e => ?_) (fun e => ?_) (fun e => ?_) <;> rw [e]
  · exact ⟨_, z0, fun _ k => nomatch k⟩
  · exact ⟨_, S0, fun _ k => nomatch k⟩
  · exact ⟨_, T0, fun _ k => nomatch k⟩
  · exact ⟨o1, g1, fun _ k => by cases d1.symm.trans k⟩
  · exact ⟨o2, g2, fun _ k => by cases d2.symm.trans k⟩
  · exact ⟨o3, g3, fun _ k => by cases d3.symm.trans k⟩
structure Ap3 (z S T p1 p2 p3 a b c : Addr) : Prop where
  sep : ZipSep3 z S T p1 p2 p3 [p1, a] [p2, b] [p3, c]
  a1 : a ≠ p1
  b2 : b ≠ p2
  c3 : c ≠ p3
theorem ap3 {N a b c : Addr} (la : a < N) (lb : b < N) (lc : c < N) : Ap3 (N + 5) (N + 3) (N + 4) N (N + 1) (N + 2) a b c := by
  refine ⟨zip_sep3 (fun x hx => ?_) (fun x hx => ?_) (fun x hx => ?_), Nat.ne_of_lt la, Nat.ne_of_lt (Nat.lt_of_lt_of_le lb (Nat.le_add_right _ 1)), Nat.ne_of_lt (Nat.lt_of_lt_of_le lc (Nat.le_add_right _ 2))⟩
  · rw [List.mem_singleton.mp hx]; exact la
  · rw [List.mem_singleton.mp hx]; exact lb
  · rw [List.mem_singleton.mp hx]; exact lc
theorem turn_3 {P : Program} {w : World} {K : PySem.W.Frag} {es : List Expr} {kk : Nat} {tp : Pos} {a b c z S T p1 p2 p3 : Addr} (D : Ap3 z S T p1 p2 p3 a b c) :
    Turn P w K (.Tuple es kk tp) (It3 K a b c) [z, S, T, p1, p2, p3] z (tn3 z S T p1 p2 p3 a b c) where
  mem := List.mem_cons_self
  obj := fun i g st c hc => tn3_obj st hc
  keep := fun i g g' ⟨z0, S0, ⟨x, y, w, T0⟩, f1, f2, f3⟩ k => ⟨k z (by simp) _ z0, k S (by simp) _ S0, ⟨x, y, w, k T (by simp) _ T0⟩, it_at f1 (k p1 (by simp)), it_at f2 (k p2 (by simp)), it_at f3 (k p3 (by simp))⟩
  item := by
    rintro X rfl rfl rfl hc i pins s σ H E I hf st ⟨xs, ys, zs, x, y, w, ⟨qx, ex⟩, ⟨qy, ey⟩, qz, ez⟩
    have lts : ∀ c ∈ [z, S, T, p1, p2, p3], c < s.heap.objs.size := fun c hm => let ⟨_, e, _⟩ := tn3_obj st hm; Heap.lt_size e
    obtain ⟨z0, S0, ⟨x0, y0, w0, T0⟩, f1, f2, f3⟩ := st
    obtain ⟨us, r1, m1, _⟩ := I.tuple qx
    obtain ⟨vs, r2, m2, _⟩ := I.tuple qy
    obtain ⟨ws, r3, m3, _⟩ := I.tuple qz
    obtain ⟨u, eu, ru⟩ := r1.get ex
    obtain ⟨v, ev, rv⟩ := r2.get ey
    obtain ⟨t, et, rt⟩ := r3.get ez
    have hh := I.ok.hd hc
    have lt1 : i < us.toArray.size := by rw [List.size_toArray]; exact (List.getElem?_eq_some_iff.mp eu).1
    have lt2 : i < vs.toArray.size := by rw [List.size_toArray]; exact (List.getElem?_eq_some_iff.mp ev).1
    have lt3 : i < ws.toArray.size := by rw [List.size_toArray]; exact (List.getElem?_eq_some_iff.mp et).1
    refine wpAny_pyNext_zipD3_item D.sep (Draws.tuple (A := X.A.in1) hh p1 a D.a1 us.toArray) (Draws.tuple (A := X.A.in1) hh p2 b D.b2 vs.toArray) (Draws.tuple (A := X.A.in1) hh p3 c D.c3 ws.toArray) z0 S0 T0 ⟨f1, m1⟩ ⟨f2, m2⟩ ⟨f3, m3⟩ lt1 lt2 lt3 fun u' v' t' g tk hu hv ht z1 T1 s1 s2 s3 W1 n1 st => ⟨_, rfl, ?_⟩
    have hu : us.toArray[i]? = some u' := hu
    have hv : vs.toArray[i]? = some v' := hv
    have ht : ws.toArray[i]? = some t' := ht
    rw [List.getElem?_toArray, eu] at hu
    rw [List.getElem?_toArray, ev] at hv
    rw [List.getElem?_toArray, et] at ht
    cases hu
    cases hv
    cases ht
    have f1' : itK true g p1 a (i + 1) := s1.1
    have f2' : itK true g p2 b (i + 1) := s2.1
    have f3' : itK true g p3 c (i + 1) := s3.1
    refine wpAny_letOwnedTupleGo_zip (s := { s with heap := g, toks := tk }) z1 fun g' z2 sb => ?_
    have out : ∀ c o, c ∉ [z, S, T, p1, p2, p3] → s.heap.get? c = some o → g'.get? c = some o := fun c o hb e => by
      simp only [List.mem_cons, List.not_mem_nil, or_false, not_or] at hb
      exact (sb.2 c hb.1).trans (st c o hb.1 hb.2.2.1 hb.2.2.2.1 hb.2.2.2.2.1 hb.2.2.2.2.2 e)
    have W2 : g'.get? s.heap.objs.size = some { cls := .type "tuple", data := .seq #[u, v, t] } := (sb.2 _ (Nat.ne_of_gt (lts z List.mem_cons_self))).trans W1
    have okW : ObjOk X.prog X.w (upd H s.heap.objs.size (.tup [x, y, w])) g' s.heap.objs.size (.tup [x, y, w]) := ⟨(by decide : 3 ≤ sizeLine), [u, v, t], .cons ru (.cons rv (.cons rt .nil)), ⟨_, W2, rfl, _, rfl⟩⟩
    have I' : Inv X pins σ (upd H s.heap.objs.size (.tup [x, y, w])) { s with heap := g', toks := tk } := I.turnedNew (t' := tk) (ch := [z, S, T, p1, p2, p3]) out hf (Nat.le_refl _) okW
    refine ⟨.ref s.heap.objs.size, _, I', rfl, ⟨_, x, y, w, rfl, I.hok.fresh (Nat.le_refl _), rfl, fun l hl => I.tuple_inj hl qx ▸ ex, fun l hl => I.tuple_inj hl qy ▸ ey, fun l hl => I.tuple_inj hl qz ▸ ez⟩, ⟨z2, ?_, ⟨u, v, t, ?_⟩, it_at f1' fun o e => (sb.2 _ D.sep.zi1.symm).trans e, it_at f2' fun o e => (sb.2 _ D.sep.zi2.symm).trans e, it_at f3' fun o e => (sb.2 _ D.sep.zi3.symm).trans e⟩, fun c hm => ?_⟩
    · exact (sb.2 _ D.sep.TIz).trans (st _ _ D.sep.TIz D.sep.TITO D.sep.TIi1 D.sep.TIi2 D.sep.TIi3 S0)
    · exact (sb.2 _ D.sep.TOz).trans T1
    · exact (upd_ne (Nat.ne_of_lt (lts c hm))).trans (hf c hm).1
  done := by
    rintro X rfl rfl rfl hc i pins s σ H E I hf ⟨z0, S0, ⟨x0, y0, w0, T0⟩, f1, f2, f3⟩ ⟨xs, ys, zs, qx, qy, qz, he⟩
    obtain ⟨us, r1, m1, _⟩ := I.tuple qx
    obtain ⟨vs, r2, m2, _⟩ := I.tuple qy
    obtain ⟨ws, r3, m3, _⟩ := I.tuple qz
    have n1 := r1.length
    have n2 := r2.length
    have n3 := r3.length
    have hh := I.ok.hd hc
    refine wpAny_pyNext_zipD3_end D.sep (Draws.tuple (A := X.A.in1) hh p1 a D.a1 us.toArray) (Draws.tuple (A := X.A.in1) hh p2 b D.b2 vs.toArray) (Draws.tuple (A := X.A.in1) hh p3 c D.c3 ws.toArray) z0 S0 T0 ⟨f1, m1⟩ ⟨f2, m2⟩ ⟨f3, m3⟩ (by rw [List.size_toArray]; omega) (by rw [List.size_toArray]; omega) (by rw [List.size_toArray]; omega) (by rw [List.size_toArray, List.size_toArray, List.size_toArray]; omega) fun g tk st => ⟨rfl, I.turnedL (t' := tk) (ch := [z, S, T, p1, p2, p3]) (fun c o hb e => ?_) hf⟩
    simp only [List.mem_cons, List.not_mem_nil, or_false, not_or] at hb
    exact st c o hb.1 hb.2.2.1 hb.2.2.2.1 hb.2.2.2.2.1 hb.2.2.2.2.2 e
  self := fun A i s Q E st q => wpAny_pyIter_zip st.1 q
def YTri (f g k : Nat → Option V) (i : Nat) (H : Hp) (v : V) (H' : Hp) : Prop := ∃ W x y w, v = .ref W ∧ H W = none ∧ H' = upd H W (.tup [x, y, w]) ∧ f i = some x ∧ g i = some y ∧ k i = some w
theorem walk_zip3 {K : PySem.W.Frag} {a b c : Addr} {xs ys zs : List V} {n : Nat} (hn : n = min (min xs.length ys.length) zs.length) : Walk (It3 K a b c) n (fun H => SqT K H a xs ∧ SqT K H b ys ∧ SqT K H c zs) (YTri (fun i => xs[i]?) (fun i => ys[i]?) (fun i => zs[i]?)) := by
  subst hn
  refine ⟨fun i _ hi q => ?_, fun _ q => ⟨xs, ys, zs, q.1, q.2.1, q.2.2, rfl⟩, fun i H v H' _ q ⟨W, x, y, w, g1, g2, g3, g4, g5, g6⟩ => ⟨W, x, y, w, g1, g2, g3, g4 xs q.1, g5 ys q.2.1, g6 zs q.2.2⟩⟩
  exact ⟨xs, ys, zs, xs[i]'(by omega), ys[i]'(by omega), zs[i]'(by omega), ⟨q.1, List.getElem?_eq_getElem _⟩, ⟨q.2.1, List.getElem?_eq_getElem _⟩, q.2.2, List.getElem?_eq_getElem _⟩
end Zq
namespace Dv
open PySem PySem.Spec PyProof.Rows L2 Xg
open Classical
section
variable {K : PySem.W.Frag} {md : Bool} {ta tb tc : TE} {ca cb cc : Nat} {fa fb fc : FE}
def zipD3 : List PyData → List PyData → List PyData → List PyData
  | x :: xs, y :: ys, z :: zs => .tuple [x, y, z] :: zipD3 xs ys zs
  | _, _, _ => []
theorem zipD3_len : ∀ {xs ys zs : List PyData}, (zipD3 xs ys zs).length = min (min xs.length ys.length) zs.length
  | [], _, _ => by simp [zipD3]
  | _ :: _, [], _ => by simp [zipD3]
  | _ :: _, _ :: _, [] => by simp [zipD3]
  | _ :: xs, _ :: ys, _ :: zs => by
    show (zipD3 xs ys zs).length + 1 = _
    rw [zipD3_len]
    simp only [List.length_cons]
    omega
theorem zipD3_at : ∀ {xs ys zs : List PyData} {i : Nat} {x y z : PyData}, xs[i]? = some x → ys[i]? = some y → zs[i]? = some z → (zipD3 xs ys zs)[i]? = some (.tuple [x, y, z])
  | [], _, _, _, _, _, _, h, _, _ => by simp at h
  | _ :: _, [], _, _, _, _, _, _, h, _ => by simp at h
  | _ :: _, _ :: _, [], _, _, _, _, _, _, h => by simp at h
  | _ :: xs, _ :: ys, _ :: zs, 0, x, y, z, h1, h2, h3 => by
    simp at h1 h2 h3
    subst h1 h2 h3
    rfl
  | _ :: xs, _ :: ys, _ :: zs, i + 1, x, y, z, h1, h2, h3 => by
    show (zipD3 xs ys zs)[i]? = _
    exact zipD3_at (by simpa using h1) (by simpa using h2) (by simpa using h3)
end
end Dv
namespace Zn
open PySem PySem.Spec PyProof.Rows L2
structure Cell where
  p : Addr
  l : Addr
  xs : Array Value
  x : Value
def IsZ (g : Heap) (z S T : Addr) (f0 : Value) (f1 : Bool) : Prop := g.get? z = some { cls := .type "zip", data := .fields #[f0, .bool f1, .bool false, .ref S, .ref T] }
def IsT (g : Heap) (a : Addr) (vs : Array Value) : Prop := g.get? a = some { cls := .type "tuple", data := .seq vs }
structure Ap (z S T : Addr) (L : List Cell) : Prop where
  Sz : S ≠ z
  Tz : T ≠ z
  ST : S ≠ T
  pz : ∀ c ∈ L, c.p ≠ z
  pT : ∀ c ∈ L, c.p ≠ T
  pS : ∀ c ∈ L, c.p ≠ S
  lz : ∀ c ∈ L, c.l ≠ z
  lT : ∀ c ∈ L, c.l ≠ T
  lp : ∀ c ∈ L, ∀ d ∈ L, c.l ≠ d.p
  nd : (L.map Cell.p).Nodup
def Stay (g g' : Heap) (z T : Addr) (ps : List Addr) : Prop := ∀ c o, c ≠ z → c ≠ T → c ∉ ps → g.get? c = some o → g'.get? c = some o
section
variable {prog : Program} {w : World} {A : Around} {E : Value → Shared → Prop} {s : Shared} {z S T : Addr} {f0 : Value} {f1 : Bool} {L : List Cell} {i : Nat} {kept : Array Value}
structure Mid (g0 g : Heap) (z S T : Addr) (L : List Cell) (i : Nat) (D R : List Cell) : Prop where
  split : L = D ++ R
  sz : g.objs.size = g0.objs.size
  don : ∀ c ∈ D, g.IsListIter c.p c.l (i + 1)
  todo : ∀ c ∈ R, g.IsListIter c.p c.l i
  stay : Stay g0 g z T (L.map Cell.p)
theorem iter_ext {g g' : Heap} {p l b : Addr} {i : Nat} (x : g.IsListIter p l i) (k : Heap.SameBut b g g') (n : p ≠ b) : g'.IsListIter p l i := x.extBut k.extBut n
theorem Mid.step {g0 g g' : Heap} {c : Cell} {D R : List Cell} (M : Mid g0 g z S T L i D (c :: R)) (Ap : Ap z S T L) (k : Heap.SameBut c.p g g') (hc : g'.IsListIter c.p c.l (i + 1)) : Mid g0 g' z S T L i (D ++ [c]) R := by
  have mc : c ∈ L := by rw [M.split]; simp
  have nd := Ap.nd
  rw [M.split, List.map_append, List.map_cons] at nd
  have n2 := List.nodup_append.mp nd
  have n3 := List.nodup_cons.mp n2.2.1
  refine ⟨by rw [M.split]; simp, by rw [k.1, M.sz], fun d hd => ?_, fun d hd => ?_, fun b o h1 h2 h3 e => ?_⟩
  · rcases List.mem_append.mp hd with hd | hd
    · exact iter_ext (M.don d hd) k fun e => n2.2.2 d.p (List.mem_map_of_mem hd) c.p (List.mem_cons_self ..) e
    · rw [List.mem_singleton.mp hd]
      exact hc
  · exact iter_ext (M.todo d (List.mem_cons_of_mem _ hd)) k fun e => n3.1 (by rw [← e]; exact List.mem_map_of_mem hd)
  · exact k.extBut _ _ (fun e => h3 (by rw [e]; exact List.mem_map_of_mem mc)) (M.stay b o h1 h2 h3 e)
theorem Mid.list {g0 g : Heap} {D R : List Cell} (M : Mid g0 g z S T L i D R) (Ap : Ap z S T L) {c : Cell} (hc : c ∈ L) (hm : g0.IsList c.l c.xs) : g.IsList c.l c.xs := by
  refine hm.at fun o e => M.stay c.l o (Ap.lz c hc) (Ap.lT c hc) (fun h => ?_) e
  obtain ⟨d, hd, e2⟩ := List.mem_map.mp h
  exact Ap.lp c hc d hd e2.symm
end
end Zn
namespace Zn
open PySem PySem.Spec PyProof.Rows L2
structure Laid (g0 g : Heap) (ls : List Addr) : Prop where
  Z : IsZ g (g0.objs.size + ls.length + 2) (g0.objs.size + ls.length) (g0.objs.size + ls.length + 1) .none false
  S : IsT g (g0.objs.size + ls.length) ((List.range ls.length).map fun k => Value.ref (g0.objs.size + k)).toArray
  T : ∃ k : Array Value, IsT g (g0.objs.size + ls.length + 1) k ∧ k.size = ls.length
  I : ∀ k l, ls[k]? = some l → g.IsListIter (g0.objs.size + k) l 0
  st : ∀ b o, g0.get? b = some o → g.get? b = some o
theorem tn : ∀ (as : List Value), as.length ≤ 25 → checkBuiltinCall "zip.__new__" ⟨.type "zip" :: as, []⟩ = pure ()
  | [], _ => by kernel_rfl
  | [_], _ => by kernel_rfl
  | [_, _], _ => by kernel_rfl
  | [_, _, _], _ => by kernel_rfl
  | [_, _, _, _], _ => by kernel_rfl
  | [_, _, _, _, _], _ => by kernel_rfl
  | [_, _, _, _, _, _], _ => by kernel_rfl
  | [_, _, _, _, _, _, _], _ => by kernel_rfl
  | [_, _, _, _, _, _, _, _], _ => by kernel_rfl
  | [_, _, _, _, _, _, _, _, _], _ => by kernel_rfl
  | [_, _, _, _, _, _, _, _, _, _], _ => by kernel_rfl
  | [_, _, _, _, _, _, _, _, _, _, _], _ => by kernel_rfl
  | [_, _, _, _, _, _, _, _, _, _, _, _], _ => by kernel_rfl
  | [_, _, _, _, _, _, _, _, _, _, _, _, _], _ => by kernel_rfl
  | [_, _, _, _, _, _, _, _, _, _, _, _, _, _], _ => by kernel_rfl
  | [_, _, _, _, _, _, _, _, _, _, _, _, _, _, _], _ => by kernel_rfl
  | [_, _, _, _, _, _, _, _, _, _, _, _, _, _, _, _], _ => by kernel_rfl
  | [_, _, _, _, _, _, _, _, _, _, _, _, _, _, _, _, _], _ => by kernel_rfl
  | [_, _, _, _, _, _, _, _, _, _, _, _, _, _, _, _, _, _], _ => by kernel_rfl
  | [_, _, _, _, _, _, _, _, _, _, _, _, _, _, _, _, _, _, _], _ => by kernel_rfl
  | [_, _, _, _, _, _, _, _, _, _, _, _, _, _, _, _, _, _, _, _], _ => by kernel_rfl
  | [_, _, _, _, _, _, _, _, _, _, _, _, _, _, _, _, _, _, _, _, _], _ => by kernel_rfl
  | [_, _, _, _, _, _, _, _, _, _, _, _, _, _, _, _, _, _, _, _, _, _], _ => by kernel_rfl
  | [_, _, _, _, _, _, _, _, _, _, _, _, _, _, _, _, _, _, _, _, _, _, _], _ => by kernel_rfl
  | [_, _, _, _, _, _, _, _, _, _, _, _, _, _, _, _, _, _, _, _, _, _, _, _], _ => by kernel_rfl
  | [_, _, _, _, _, _, _, _, _, _, _, _, _, _, _, _, _, _, _, _, _, _, _, _, _], _ => by kernel_rfl
  | _ :: _ :: _ :: _ :: _ :: _ :: _ :: _ :: _ :: _ :: _ :: _ :: _ :: _ :: _ :: _ :: _ :: _ :: _ :: _ :: _ :: _ :: _ :: _ :: _ :: _ :: _, h => absurd h (by simp)
section
variable {prog : Program} {w : World} {A : Around} {E : Value → Shared → Prop} {s : Shared}
end
end Zn
namespace Zn
open PySem PySem.Spec PyProof.Rows L2
section
variable {M : Model} {A : Around} {E : Value → Shared → Prop} {s : Shared}
end
section
variable {prog : Program} {w : World} {A : Around} {E : Value → Shared → Prop} {s : Shared} {z S T : Addr} {f0 : Value} {f1 : Bool} {L : List Cell} {i : Nat} {kept : Array Value}
end
structure ApA (z S T : Addr) (ps as : List Addr) : Prop where
  Sz : S ≠ z
  Tz : T ≠ z
  ST : S ≠ T
  zp : z ∉ ps
  Tp : T ∉ ps
  Sp : S ∉ ps
  az : ∀ a ∈ as, a ≠ z
  aT : ∀ a ∈ as, a ≠ T
  ap : ∀ a ∈ as, a ∉ ps
  nd : ps.Nodup
  len : ps.length = as.length
  ne : as ≠ []
  le : as.length ≤ 1000
theorem ApA.cells {z S T : Addr} {ps as : List Addr} {L : List Cell} (D : ApA z S T ps as) (hp : L.map Cell.p = ps) (hl : L.map Cell.l = as) : Ap z S T L := by
  subst hp
  subst hl
  exact ⟨D.Sz, D.Tz, D.ST, fun c h e => D.zp (by rw [← e]; exact List.mem_map_of_mem h), fun c h e => D.Tp (by rw [← e]; exact List.mem_map_of_mem h), fun c h e => D.Sp (by rw [← e]; exact List.mem_map_of_mem h), fun c h => D.az _ (List.mem_map_of_mem h), fun c h => D.aT _ (List.mem_map_of_mem h), fun c h d g e => D.ap _ (List.mem_map_of_mem h) (by rw [e]; exact List.mem_map_of_mem g), D.nd⟩
end Zn
namespace Zn
open PySem PySem.Spec PyProof.Rows L2
end Zn
namespace Dv
open PySem PySem.Spec PyProof.Rows L2 Xg
open Classical
section
variable {K : PySem.W.Frag} {md : Bool} {ta tb tc : TE} {ca cb cc : Nat} {fa fb fc : FE}
end
end Dv
namespace Dv
open PySem PySem.Spec PyProof.Rows L2 Xg
open Classical
section
variable {K : PySem.W.Frag} {md md2 md3 : Bool} {ta tb tc : TE} {ca cb cc : Nat} {fa fb fc : FE}
abbrev eChain (g g' : GB) (fa fb fc : FE) : FE := fun ρ Q => fa ρ fun x => fb ρ fun y => g x y (asB fun k => if k = true then fc ρ fun w => g' y w Q else Q (.bool false))
theorem snd_chain {r r' : R2} {g g' : GB} (o : OpSnd K r g) (o' : OpSnd K r' g') (a : Snd md K ta ca fa) (b : Snd md2 K tb cb fb) (c : Snd md3 K tc cc fc) : Snd true K (tChain r r' ta tb tc) (ca + (cb + cc)) (eChain g g' fa fb fc) := mk_snd
  (fun ρ P P' h q => a.mono _ _ _ (fun x => b.mono _ _ _ fun y => o.mono x y _ _ (asB_mono fun k z => by
    cases k with
    | true => exact c.mono _ _ _ (fun w => o'.mono y w _ _ h) z
    | false => exact h _ z)) q)
  (fun {B S m σ H ρ Q P} E hm hf k => a.go E (by omega) hf fun x vx H1 h1 s1 b1 d1 => b.go (E.step s1 b1) (by omega) h1 fun y vy H2 h2 s2 b2 d2 =>
    o.run ((E.step s1 b1).step s2 b2).al (d1.vw.step s2 E.bs) d2.vw h2 fun d v H' p e q => by
      obtain ⟨kk, rfl, p⟩ := asB_of (md := true) (b := B) p q
      have st3 : Stp K B H2 H' := Stp.ex e
      have bx3 := b2.ex e
      refine ⟨kk, rfl, ?_⟩
      cases kk with
      | false =>
        rw [if_neg Bool.false_ne_true] at p ⊢
        exact k _ _ _ p ((s1.trans s2).trans st3) (bx3.le (by omega)) (.bl false)
      | true =>
        rw [if_pos rfl] at p ⊢
        refine c.go (((E.step s1 b1).step s2 b2).step st3 bx3) (by omega) p fun w vw H4 h4 s4 b4 d4 => ?_
        exact o'.run ((((E.step s1 b1).step s2 b2).step st3 bx3).step s4 b4).al ((d2.vw.step st3 E.bs).step s4 E.bs) d4.vw h4 fun d v H5 p5 e5 q5 => k d v H5 p5 ((((s1.trans s2).trans st3).trans s4).trans (Stp.ex e5)) ((b4.ex e5).le (by omega)) q5)
abbrev gOdd : GB
  | .int i, .int j, Q => (0 ≤ i ∧ j = 1) ∧ Q (.int (i % 2))
  | _, _, _ => False
theorem ops_odd : OpSnd K (fun x y H Q => ∃ n : Nat, x = .int (n : Int) ∧ y = .int 1 ∧ Q (.int ((n % 2 : Nat) : Int)) H) gOdd := ⟨fun x y P P' h q => by
    cases x <;> cases y <;> first | exact ⟨q.1, h _ q.2⟩ | exact q.elim, fun {b S H x y dx dy Q P} al hx hy q k => by
    cases dx <;> cases dy <;> first | exact q.elim | skip
    rename_i i j
    obtain ⟨⟨h0, rfl⟩, q⟩ := q
    rw [hx.int, hy.int]
    refine ⟨i.toNat, by rw [Int.toNat_of_nonneg h0], rfl, ?_⟩
    have e : ((i.toNat % 2 : Nat) : Int) = i % 2 := by omega
    rw [e]
    exact k _ _ _ q (Evl.Ex.refl _) (.int _)⟩
end
end Dv
namespace Dv
open PySem PySem.Spec PyProof.Rows L2 Xg
open Classical
section
variable {K : PySem.W.Frag} {ta : TE} {ca c : Nat} {fa : FE}
end
end Dv
namespace Dv
open PySem PySem.Spec PyProof.Rows L2 Xg
section
variable {K : PySem.W.Frag}
theorem un65 {k : Nat} {A : Around} (r : Room k A) : A.units + 65 < cLine := by
  have := r.un
  omega
abbrev gIn : GB
  | d, .list ds, Q => SeqAt.shaped d = true ∧ SeqAt.shaped (.list ds) = true ∧ Q (.bool (ds.any fun z => PyData.eqv z d))
  | _, _, _ => False
theorem ops_in : OpSnd K (rInD K) gIn := ⟨fun x y P P' h q => by
    cases y <;> first | exact ⟨q.1, q.2.1, h _ q.2.2⟩ | exact q.elim, fun {b S H x y dx dy Q P} al hx hy q k => by
    cases dy <;> first | exact q.elim | skip
    exact ⟨_, _, hx.dp, hy.dp, q.1, q.2.1, k _ _ _ q.2.2 (Evl.Ex.refl _) (.bl _)⟩⟩
end
end Dv
namespace Dv
open PySem PySem.Spec PyProof.Rows L2 Xg
section
variable {K : PySem.W.Frag}
def spFold (K : PySem.W.Frag) (c : Nat) : Sp := fun vs H Q _ => ∃ (a : Addr) (ns : List Int), vs = [.ref a, .int (c : Nat)] ∧ SqL K H a (ns.map V.int) ∧ ns.length ≤ 63 ∧
  ∀ p H' (ms : List Int), Evl.Ex H H' → H p = none → H' p = some (.lst (ms.map V.int)) → 1 ≤ ms.length → ms.length ≤ c → Q (.ref p) H'
abbrev sFold (j i c : Nat) : FS := fun ρ E => match ρ[j]? with
  | some (.scr ns) => ns.length ≤ 63 ∧ ∀ ms : List Int, 1 ≤ ms.length → ms.length ≤ c → E.nx (ρ.set i (.scr ms))
  | _ => False
theorem kpt_scr {vs : List Nat} {σ : L2.St} {ρ : List Sl} {i : Nat} {v : V} {ms : List Int} (hi : i ∈ vs) : Kpt vs σ (σ.set i (some v)) ρ (ρ.set i (.scr ms)) :=
  ⟨wipe_set hi, fun j ds e o => by
    rw [List.getElem?_set] at e
    by_cases z : i = j
    · rw [if_pos z] at e
      split at e
      · cases e
        exact absurd o Bool.false_ne_true
      · cases e
    · rw [if_neg z] at e
      exact ⟨e, by rw [List.getElem?_set, if_neg z]⟩⟩
theorem snds_fold {j i c : Nat} : SndS K (tAsg (tCallG (spFold K c) (tCons (tVar j) (tCons (tC (.int (c : Nat))) tNil))) (gName i)) 0 (sFold j i c) :=
  ⟨fun ρ E E' h q => by
    unfold sFold at q ⊢
    split at q
    · exact ⟨q.1, fun ms a b => h.nx _ (q.2 ms a b)⟩
    · exact q.elim,
  fun {G H0 b0 b os m H σ ρ D E} ok hm hf kk => by
    unfold sFold at hf
    split at hf
    · rename_i ns e
      obtain ⟨p, e1, hs⟩ := ok.env.sl j _ e
      refine ⟨.ref p, e1, p, ns, rfl, Evl.ex_l rm_le hs, hf.1, fun q H' ms ex nq hq l1 l2 => ?_⟩
      have ok1 := ok.step (Stp.ex ex) (ok.env.bx.ex ex) (Nat.le_refl _)
      have nS : ¬ SO G b os q := ok.env.al.new nq
      have k1 := ok1.kpt (ok1.env.set (i := i) (s := .scr ms) fun z e => ⟨q, e, .inl (.inl (rm_in nS hq))⟩) (kpt_scr (vs := [i]) (by simp))
      exact kk.nx _ _ _ _ _ (hf.2 ms l1 l2) k1 (Lk.step (Stp.ex (K := K) ex) ok.env.bs)
    · exact hf.elim⟩
end
end Dv
namespace Kd
open PySem PySem.Spec PyProof.Rows L2 Xg
open Dv (shal)
def topS (i : Nat) : Stmt := PySem.Challenge.pw_forthback_k81_texts_of_lines_spoilt.main.body.getD i (.Pass ⟨0, 0, 0, 0⟩)
abbrev stBox : Stmt := topS 24
abbrev stTake : Stmt := topS 25
theorem scB : FnScope ["_law_script", "_law_k", "_law_cell"] ["_law_script", "_law_k"] (defScope stBox) := ⟨rfl, rfl, rfl, by decide +kernel, rfl, by decide +kernel, by decide +kernel⟩
theorem scT : FnScope ["_law_box_here", "_law_size", "_law_found", "_law_once"] ["_law_box_here", "_law_size"] (defScope stTake) := ⟨rfl, rfl, rfl, by decide +kernel, rfl, by decide +kernel, by decide +kernel⟩
theorem inRange {i n : Int} (h : 0 < n) : 0 ≤ i % n ∧ i % n < n := ⟨Int.emod_nonneg i (by omega), Int.emod_lt_of_pos i h⟩
theorem pos1 : (0 : Int) < 2147483647 := by decide
theorem pos2 : (0 : Int) < 40009 := by decide
theorem pos3 : (0 : Int) < 2147483629 := by decide
section
variable {P : Program} {w : World} {K : PySem.W.Frag} {mg : Str → Option Value} {base : Heap}
def spTake : Sp := fun vs H Q _ => ∃ (b : Addr) (x y z n : Int), vs = [.ref b, .int n] ∧ H b = some (.lst [.int x, .int y, .int z]) ∧
  0 ≤ x ∧ 0 ≤ y ∧ y < 1000000000000 ∧ 0 ≤ z ∧ z < 1000000000 ∧ 0 < n ∧ n < 4611686018427387904 ∧
  ∀ r x' z', 0 ≤ r → r < n → 0 ≤ x' → z ≤ z' → z' ≤ z + 1 → Q (.int r) (upd H b (.lst [.int x', .int y, .int z']))
theorem ok_take {f : Addr} {fd : FuncData} {k : Nat} (F : Fun K "_law_take" "_law_take" stTake f fd) :
    FnOk P w K mg base CX0 (k + 1) f fd ["_law_box_here", "_law_size"] spTake := by
  refine F.ok scT (fun vs H Q E h => ?_) (fun cdv A outer s H vs Q E hr h => ?_)
  · obtain ⟨b, x, y, z, n, rfl, _⟩ := h
    rfl
  · obtain ⟨b, x, y, z, n, rfl, hb, hx, hy, hy2, hz, hz2, hn, hn2, q⟩ := h
    refine ⟨_, pss_cons (ps_if (pt_cmpR op_gt (pe_ix ix_list (pv 0) pe_int (fun _ _ => rfl)) pe_int (nomark _))
        (pss_cons (ps_set (i := 2) scT.nd rfl (.inl rfl) (pe_op op_mod (pe_ix ix_list (pv 0) pe_int (fun _ _ => rfl)) (pv 1)))
        (pss_cons (ps_asg (pe_op op_fdivW (pe_ix ix_list (pv 0) pe_int (fun _ _ => rfl)) (pv 1)) (pg_sub (pv 0) pe_int set_list))
        (pss_one (ps_ret (pv 2))))) pss_nil)
      (pss_cons (ps_asg (pe_op op_add (pe_ix ix_list (pv 0) pe_int (fun _ _ => rfl)) pe_int) (pg_sub (pv 0) pe_int set_list))
      (pss_cons (ps_set (i := 3) scT.nd rfl (.inl rfl) (pe_op op_mod (pe_op op_pow (pe_op op_add (pe_ix ix_list (pv 0) pe_int (fun _ _ => rfl)) (pe_op op_mul pe_int (pe_ix ix_list (pv 0) pe_int (fun _ _ => rfl)))) pe_int) pe_int))
      (pss_one (ps_ret (pe_op op_mod (pe_op op_fdivW (pe_op op_mod (pe_op op_add (pe_op op_mul (pv 3) (pe_op op_add (pe_op op_mod (pv 3) pe_int) pe_int)) (pe_op op_mul (pe_ix ix_list (pv 0) pe_int (fun _ _ => rfl)) pe_int)) pe_int) pe_int) (pv 1)))))), ?_⟩
    have s0 : SqL K H b [.int x, .int y, .int z] := .inl (.inl hb)
    refine ⟨_, rfl, b, _, 0, _, rfl, rfl, s0, atI_nat (j := 0) rfl, x, 0, rfl, rfl, _, rfl, ite2 (fun e => ?_) (fun e => ?_)⟩
    · refine ⟨_, rfl, b, _, 0, _, rfl, rfl, s0, atI_nat (j := 0) rfl, _, rfl, x, n, rfl, rfl, hn, ?_⟩
      refine ⟨_, rfl, b, _, 0, _, rfl, rfl, s0, atI_nat (j := 0) rfl, _, rfl, x, n, rfl, rfl, ⟨hn, Ke.log_n hn hn2⟩, ?_⟩
      refine ⟨_, rfl, b, _, 0, 0, rfl, rfl, hb, rfl, ?_⟩
      refine ⟨_, rfl, ?_⟩
      have g := inRange (i := x) hn
      exact q _ _ _ g.1 g.2 (Int.ediv_nonneg hx (by omega)) (Int.le_refl _) (by omega)
    · refine ⟨_, rfl, b, _, 2, _, rfl, rfl, s0, atI_nat (j := 2) rfl, z, 1, rfl, rfl, ?_⟩
      refine ⟨_, rfl, b, _, 2, 2, rfl, rfl, hb, rfl, ?_⟩
      have s1 : SqL K (upd H b (.lst [.int x, .int y, .int (z + 1)])) b [.int x, .int y, .int (z + 1)] := .inl (.inl upd_same)
      refine ⟨_, rfl, b, _, 1, _, rfl, rfl, s1, atI_nat (j := 1) rfl, _, rfl, b, _, 2, _, rfl, rfl, s1, atI_nat (j := 2) rfl, 39373, z + 1, rfl, rfl, .inl ⟨by decide, by decide⟩,
        y, 39373 * (z + 1), rfl, rfl, _, 5, rfl, rfl, ⟨by decide, by decide, ?_⟩, _, 2147483647, rfl, rfl, pos1, ?_⟩
      · omega
      · have g := inRange (i := (y + 39373 * (z + 1)) ^ (5 : Int).toNat) (n := 2147483647) (by decide)
        have g2 := inRange (i := (y + 39373 * (z + 1)) ^ (5 : Int).toNat % 2147483647) (n := 40009) (by decide)
        refine ⟨_, rfl, _, rfl, _, 40009, rfl, rfl, pos2, _, 7, rfl, rfl, _, _, rfl, rfl, .inl ⟨by omega, by omega⟩,
          _, rfl, b, _, 2, _, rfl, rfl, s1, atI_nat (j := 2) rfl, z + 1, 7919, rfl, rfl, .inr ⟨by decide, by decide⟩, _, _, rfl, rfl, _, 2147483629, rfl, rfl, pos3,
          _, 64, rfl, rfl, ⟨by decide, by decide⟩, _, rfl, _, n, rfl, rfl, hn, ?_⟩
        exact q _ x (z + 1) (inRange hn).1 (inRange hn).2 hx (by omega) (Int.le_refl _)
def spBox (K : PySem.W.Frag) : Sp := fun vs H Q _ => ∃ (a : Addr) (ns : List Int) (k : Nat), vs = [.ref a, .int k] ∧ SqL K H a (ns.map V.int) ∧ k ≤ 1000 ∧
  ∀ p x y, H p = none → 0 ≤ x → 0 ≤ y → y < 1000000000000 → Q (.ref p) (upd H p (.lst [.int x, .int y, .int 0]))
theorem ok_box {f : Addr} {fd : FuncData} {k : Nat} (F : Fun K "_law_box" "_law_box" stBox f fd) (ml : mg "len" = none) (ma : mg "abs" = none) (mi : mg "int" = none) :
    FnOk P w K mg base CX0 (k + 1) f fd ["_law_script", "_law_k"] (spBox K) := by
  refine F.ok scB (fun vs H Q E h => ?_) (fun cdv A outer s H vs Q E hr h => ?_)
  · obtain ⟨a, ns, k, rfl, _⟩ := h
    rfl
  · obtain ⟨a, ns, k, rfl, hS, hk, q⟩ := h
    refine ⟨_, pss_cons (ps_set (i := 2) scB.nd rfl (.inl rfl) pe_int)
      (Evl.pss_cut (ps_if (pt_cmpR op_lt (pv 1) (pe_callB call_len_seq (by rfl) ml PySem.boot_len (pa_cons (pv 0) pa_nil)) (nomark _))
        (pss_one (ps_set (i := 2) scB.nd rfl (.inl rfl) (pe_ix ix_list (pv 0) (pv 1) (fun _ _ => rfl)))) pss_nil)
      (pss_one (ps_ret (pe_lst (pa_cons (pe_op op_mul (pe_callB call_abs (by rfl) ma (by decide +kernel) (pa_cons (pv 2) pa_nil))
          (pe_callTy call_int1 (by rfl) mi (by decide +kernel) (pa_cons (pe_cmpR op_ge (pe_callB call_abs (by rfl) ma (by decide +kernel) (pa_cons (pv 2) pa_nil)) (pe_op op_pow pe_int pe_int) (nomark _)) pa_nil)))
        (pa_cons (pe_op op_add (pe_op op_add (pe_op op_mod (pv 2) pe_int) (pe_op op_mul pe_int (pv 1))) pe_int)
        (pa_cons pe_int pa_nil))))))), ?_⟩
    refine ⟨fun σ' H' => H' = H ∧ ∃ c : Int, σ' = [some (.ref a), some (.int k), some (.int c)], ?_, fun σ' H' h => ?_⟩
    · refine ⟨_, rfl, _, rfl, a, _, rfl, .inl hS, _, _, rfl, rfl, _, rfl, ite2 (fun e => ?_) (fun e => ?_)⟩
      · have e1 : (k : Int) < ((ns.map V.int).length : Nat) := of_decide_eq_true e
        have e2 : k < ns.length := by
          rw [List.length_map] at e1
          omega
        have g : (ns.map V.int)[k]? = some (.int ns[k]) := by
          rw [List.getElem?_map, List.getElem?_eq_getElem e2]
          rfl
        exact ⟨_, rfl, _, rfl, a, _, _, _, rfl, rfl, hS, atI_nat g, rfl, ns[k], rfl⟩
      · exact ⟨rfl, 0, rfl⟩
    · obtain ⟨rfl, c, rfl⟩ := h
      have g := inRange (i := c) (n := 2147483629) (by decide)
      refine ⟨_, rfl, c, rfl, _, rfl, c, rfl, 10, 18, rfl, rfl, ⟨by decide, by decide, by decide⟩, _, _, rfl, rfl, .inr ⟨_, rfl, ?_⟩⟩
      have hb : ∀ b : Bool, (0 : Int) ≤ (if b = true then 1 else 0) ∧ (if b = true then (1 : Int) else 0) ≤ 1 := by decide
      have ha : (0 : Int) ≤ (if c < 0 then -c else c) := by split <;> omega
      refine ⟨_, _, rfl, rfl, .inr ⟨?_, ?_⟩, _, rfl, c, 2147483629, rfl, rfl, pos3, _, rfl, 7919, k, rfl, rfl, .inl ⟨by decide, by decide⟩, _, _, rfl, rfl, _, 11, rfl, rfl,
        (show 3 ≤ sizeLine by decide), fun p hp => ?_⟩
      · exact Int.lt_of_lt_of_le (by decide) (hb _).1
      · exact Int.lt_of_le_of_lt (hb _).2 (by decide)
      · exact q p _ _ hp (Int.mul_nonneg ha (hb _).1) (by omega) (by omega)
end
theorem dp_ints {K : PySem.W.Frag} {H : Hp} : ∀ ms : List Int, DpAll K H (ms.map V.int) (ms.map PyData.int)
  | [] => .nil
  | m :: r => .cons (.int m) (dp_ints r)
theorem flat_lay {α : Type} (c : α → PyData) (h1 : ∀ a, (c a).canLay0 = true) (h2 : ∀ a, (c a).depth = 0) : ∀ ms : List α, PyData.canLayAll0 (ms.map c) = true ∧ PyData.depthAll (ms.map c) = 0
  | [] => ⟨rfl, rfl⟩
  | m :: r => by
    obtain ⟨g1, g2⟩ := flat_lay c h1 h2 r
    refine ⟨?_, ?_⟩
    · rw [List.map_cons, PyData.canLayAll0, h1, g1]
      rfl
    · rw [List.map_cons, PyData.depthAll, h2, g2]
      rfl
theorem shp_flat {α : Type} (c : α → PyData) (h1 : ∀ a, (c a).canLay0 = true) (h2 : ∀ a, (c a).depth = 0) (ms : List α) : SeqAt.shaped (.list (ms.map c)) = true := by
  obtain ⟨g1, g2⟩ := flat_lay c h1 h2 ms
  unfold SeqAt.shaped
  rw [PyData.canLay0, PyData.depth, g1, g2]
  rfl
theorem shp_ints (ms : List Int) : SeqAt.shaped (.list (ms.map PyData.int)) = true := shp_flat PyData.int (fun _ => by simp [PyData.canLay0]) (fun _ => by simp [PyData.depth]) ms
abbrev stSame : Stmt := topS 27
theorem scS : FnScope ["_law_found", "_law_due", "_law_one", "_law_two"] ["_law_found", "_law_due"] (defScope stSame) := ⟨rfl, rfl, rfl, by decide +kernel, rfl, by decide +kernel, by decide +kernel⟩
section
variable {K : PySem.W.Frag} {H H' : Hp} {a b : Addr} {xs ys : List V}
theorem tyx_l (h : SqL K H a xs) : TyX K H (.ref a) (.type "list") := by
  rcases h with (h | ⟨o, h⟩) | ⟨o, its, n, h1, h2, _⟩
  · exact .base (.lst h)
  · exact .base (.frz h)
  · exact .kList h1 h2
theorem tyx_t (h : SqT K H a xs) : TyX K H (.ref a) (.type "tuple") := by
  rcases h with (h | ⟨o, h⟩) | ⟨o, its, n, h1, h2, _⟩
  · exact .base (.tup h)
  · exact .fTuple h
  · exact .kTuple h1 h2
mutual
theorem dp_mono (e : Evl.Ex H H') : ∀ {v : V} {d : PyData}, Dp K H v d → Dp K H' v d
  | _, _, .non => .non
  | _, _, .bl b => .bl b
  | _, _, .int i => .int i
  | _, _, .str x => .str x
  | _, _, .lst h g => .lst (Evl.ex_l e h) (dpa_mono e g)
  | _, _, .tup h g => .tup (Evl.ex_t e h) (dpa_mono e g)
theorem dpa_mono (e : Evl.Ex H H') : ∀ {vs : List V} {ds : List PyData}, DpAll K H vs ds → DpAll K H' vs ds
  | _, _, .nil => .nil
  | _, _, .cons h g => .cons (dp_mono e h) (dpa_mono e g)
end
theorem dpa_len : ∀ {vs : List V} {ds : List PyData}, DpAll K H vs ds → vs.length = ds.length
  | _, _, .nil => rfl
  | _, _, .cons _ g => by rw [List.length_cons, List.length_cons, dpa_len g]
theorem dpa_at : ∀ {vs : List V} {ds : List PyData} {i : Nat} {v : V}, DpAll K H vs ds → vs[i]? = some v → ∃ d, ds[i]? = some d ∧ Dp K H v d
  | _, _, _, _, .nil, e => by simp at e
  | _, _, 0, _, .cons h g, e => by
    simp at e
    subst e
    exact ⟨_, rfl, h⟩
  | _, _, i + 1, v, .cons h g, e => dpa_at (i := i) g (by simpa using e)
theorem walk_zipT {n : Nat} (hn : n = min xs.length ys.length) : Walk (RZ.ItzT K a b) n (fun H => SqT K H a xs ∧ SqT K H b ys) (YPair (fun i => xs[i]?) (fun i => ys[i]?)) := by
  subst hn
  refine ⟨fun i _ hi q => ?_, fun _ q => ⟨xs, ys, q.1, q.2, by omega⟩, fun i H v H' _ q y => ?_⟩
  · exact ⟨xs, ys, xs[i]'(by omega), ys[i]'(by omega), q.1, q.2, List.getElem?_eq_getElem _, List.getElem?_eq_getElem _⟩
  · obtain ⟨T, x, z, g1, g2, g3, g4, g5⟩ := y
    exact ⟨T, x, z, g1, g2, g3, g4 xs q.1, g5 ys q.2⟩
end
section
variable {P : Program} {w : World} {K : PySem.W.Frag} {mg : Str → Option Value} {base : Heap}
theorem ifY {b : Bool} {A B : Prop} (h : b = true) (hA : A) : if b = true then A else B := by
  rw [if_pos h]
  exact hA
theorem ifN {b : Bool} {A B : Prop} (h : b = false) (hB : B) : if b = true then A else B := by
  rw [h]
  exact iteF hB
theorem kit2 {K : PySem.W.Frag} {t : String} {b c : Bool} (h1 : kitB t "list" = some b) (h2 : kitB t "tuple" = some c) : PySem.W.kitAny K (.type t) [.type "list", .type "tuple"] = some (b || c) := by
  refine kitAny_cons (kit_ty h1) (fun e => ?_) (fun e => by rw [e]; rfl)
  subst e
  refine kitAny_cons (kit_ty h2) (fun e => ?_) (fun e => by rw [e]; rfl)
  subst e
  exact kitAny_nil
theorem two_cls : Paired ClsV [.ty "list", .ty "tuple"] [.type "list", .type "tuple"] := .cons (.ty _) (.cons (.ty _) .nil)
theorem two_size : 2 ≤ sizeLine := by decide
theorem all_yes : ∀ n : Nat, (List.replicate n true).all id = true
  | 0 => rfl
  | n + 1 => by rw [List.replicate_succ, List.all_cons, all_yes n]; rfl
theorem all_at {α : Type} {p : α → Bool} : ∀ {l : List α} {i : Nat} {a : α}, l.all p = true → l[i]? = some a → p a = true := fun {l i a} h e =>
  List.all_eq_true.mp h a (List.mem_of_getElem? e)
def spSame (K : PySem.W.Frag) (n : Nat) : Sp := fun vs H Q _ => ∃ (x y : V) (d : PyData), vs = [x, y] ∧ Dp K H x d ∧ Dp K H y d ∧ shal n d = true ∧ ∀ H', Evl.Ex H H' → Q (.bl true) H'
def spPrev (K : PySem.W.Frag) : Nat → Sp
  | 0 => fun _ _ _ _ => False
  | n + 1 => spSame K n
structure Names (mg : Str → Option Value) : Prop where
  isi : mg "isinstance" = none
  lst : mg "list" = none
  tup : mg "tuple" = none
  len : mg "len" = none
  all : mg "all" = none
  zip : mg "zip" = none
  str : mg "str" = none
  int : mg "int" = none
  bool : mg "bool" = none
theorem bt_isi : bootBuiltins "isinstance" = some (.builtin "isinstance") := by decide +kernel
theorem bt_tup : bootBuiltins "tuple" = some (.type "tuple") := by decide +kernel
theorem bt_lst : bootBuiltins "list" = some (.type "list") := by decide +kernel
theorem bt_str : bootBuiltins "str" = some (.type "str") := by decide +kernel
theorem bt_int : bootBuiltins "int" = some (.type "int") := by decide +kernel
theorem bt_bool : bootBuiltins "bool" = some (.type "bool") := by decide +kernel
theorem bt_all : bootBuiltins "all" = some (.builtin "all") := by decide +kernel
theorem ok_same {f : Addr} {fd : FuncData} (F : Fun K "_law_same" "_law_same" stSame f fd) (b : Binds K fd ["_law_found", "_law_due"] []) (gs : mg "_law_same" = some (.ref f)) (N : Names mg) :
    ∀ n : Nat, FnOk P w K mg base CX0 n f fd ["_law_found", "_law_due"] (spPrev K n)
  | 0 => ⟨fun _ _ _ _ h => h.elim, fun _ _ _ _ _ _ _ _ _ _ _ _ _ h => h.elim⟩
  | n + 1 => by
    have G := ok_same F b gs N n
    refine F.ok scS (fun vs H Q E h => ?_) (fun cdv A outer s H vs Q E hr h => ?_)
    · obtain ⟨x, y, d, rfl, _⟩ := h
      rfl
    obtain ⟨x, y, d, rfl, hx, hy, hd, q⟩ := h
    refine ⟨_, pss_cons (ps_if (pt_val (pe_callB call_isiT (by rfl) N.isi bt_isi (pa_cons (pv 1) (pa_cons (pe_tup (pa_cons (pe_bltn (v := .ty "list") (by rfl) N.lst bt_lst rfl) (pa_cons (pe_bltn (v := .ty "tuple") (by rfl) N.tup bt_tup rfl) pa_nil))) pa_nil))))
        (pss_cons (ps_if (pw_or (pt_cmpR op_ne (pe_callB call_isi (by rfl) N.isi bt_isi (pa_cons (pv 0) (pa_cons (pe_bltn (v := .ty "list") (by rfl) N.lst bt_lst rfl) pa_nil))) (pe_callB call_isi (by rfl) N.isi bt_isi (pa_cons (pv 1) (pa_cons (pe_bltn (v := .ty "list") (by rfl) N.lst bt_lst rfl) pa_nil))) (nomark _)) (pw_or1 (pt_cmpR op_ne (pe_callB call_isi (by rfl) N.isi bt_isi (pa_cons (pv 0) (pa_cons (pe_bltn (v := .ty "tuple") (by rfl) N.tup bt_tup rfl) pa_nil))) (pe_callB call_isi (by rfl) N.isi bt_isi (pa_cons (pv 1) (pa_cons (pe_bltn (v := .ty "tuple") (by rfl) N.tup bt_tup rfl) pa_nil))) (nomark _)))).pt
          (pss_one (ps_ret pe_bl)) pss_nil)
        (pss_cons (ps_if (pt_cmpR op_ne (pe_callB call_len_seq (by rfl) N.len PySem.boot_len (pa_cons (pv 0) pa_nil)) (pe_callB call_len_seq (by rfl) N.len PySem.boot_len (pa_cons (pv 1) pa_nil)) (nomark _))
          (pss_one (ps_ret pe_bl)) pss_nil)
        (pss_one (ps_ret (pe_callB (cr_all rfl) (by rfl) N.all bt_all (pa_cons
          (pe_lc (own := [("_law_one", 2), ("_law_two", 3)]) (g := gTup K 2 (gCons (gName 2) (gCons (gName 3) gNil))) (tt := tYes) rfl scS.nd (RZ.pi_zipA (by rfl) N.zip (pa_cons (pv 0) (pa_cons (pv 1) pa_nil)))
            (blkOk_by (N := ["_law_found", "_law_due", "_law_one", "_law_two"]) (sc := defScope stSame) (by decide +kernel))
            (fun _ _ _ _ _ => pg_tup rfl (pgs_cons (pg_name (i := 2) scS.nd rfl (.inl rfl)) (pgs_cons (pg_name (i := 3) scS.nd rfl (.inl rfl)) pgs_nil)))
            (fun _ _ _ _ _ => pts_nil)
            (fun _ _ _ _ _ => pe_call G hr (by rfl) gs F.kp b .nil pass0 (pa_cons (pv 2) (pa_cons (pv 3) pa_nil))))
          pa_nil)))))) pss_nil)
      (pss_cons (ps_if (pw_or (pt_cmp (pc_isN (pv 1))) (pw_or1 (pt_val (pe_callB call_isi (by rfl) N.isi bt_isi (pa_cons (pv 1) (pa_cons (pe_bltn (v := .ty "str") (by rfl) N.str bt_str rfl) pa_nil)))))).pt
        (pss_one (ps_ret (pe_and (pe_cmpR op_eq (pv 0) (pv 1) (nomark _)) (pe_one (pe_cmpR op_eq (pe_callB call_isi (by rfl) N.isi bt_isi (pa_cons (pv 0) (pa_cons (pe_bltn (v := .ty "str") (by rfl) N.str bt_str rfl) pa_nil))) (pe_callB call_isi (by rfl) N.isi bt_isi (pa_cons (pv 1) (pa_cons (pe_bltn (v := .ty "str") (by rfl) N.str bt_str rfl) pa_nil))) (nomark _)))))) pss_nil)
      (pss_one (ps_ret (pe_and (pe_callB call_isi (by rfl) N.isi bt_isi (pa_cons (pv 0) (pa_cons (pe_bltn (v := .ty "int") (by rfl) N.int bt_int rfl) pa_nil))) (pe_and (pe_cmpR op_eq (pe_callB call_isi (by rfl) N.isi bt_isi (pa_cons (pv 0) (pa_cons (pe_bltn (v := .ty "bool") (by rfl) N.bool bt_bool rfl) pa_nil))) (pe_callB call_isi (by rfl) N.isi bt_isi (pa_cons (pv 1) (pa_cons (pe_bltn (v := .ty "bool") (by rfl) N.bool bt_bool rfl) pa_nil))) (nomark _)) (pe_one (pe_cmpR op_eq (pv 0) (pv 1) (nomark _)))))))), ?_⟩
    cases d with
    | none =>
      cases hx
      cases hy
      refine ⟨_, rfl, two_size, fun t nt => ?_⟩
      have e0 : Evl.Ex H (upd H t (.tup [.ty "list", .ty "tuple"])) := Evl.Ex.new nt
      refine ⟨_, t, _, _, _, false, rfl, upd_same, two_cls, .base (.non), kit2 (b := false) (c := false) (by decide +kernel) (by decide +kernel), _, rfl, iteF ?_⟩
      refine ⟨_, rfl, _, rfl, iteT ?_⟩
      refine iteT ?_
      refine ⟨_, rfl, _, rfl, rfl, _, rfl, ifY (decide_eq_true rfl) ?_⟩
      refine ⟨_, rfl, _, _, _, _, false, rfl, .ty _, .base (.non), kit_ty (by decide +kernel), _, rfl, _, _, _, _, false, rfl, .ty _, .base (.non), kit_ty (by decide +kernel), rfl, ?_⟩
      exact q _ e0
    | bool b0 =>
      cases hx
      cases hy
      refine ⟨_, rfl, two_size, fun t nt => ?_⟩
      have e0 : Evl.Ex H (upd H t (.tup [.ty "list", .ty "tuple"])) := Evl.Ex.new nt
      refine ⟨_, t, _, _, _, false, rfl, upd_same, two_cls, .base (.bl b0), kit2 (b := false) (c := false) (by decide +kernel) (by decide +kernel), _, rfl, iteF ?_⟩
      refine ⟨_, rfl, _, rfl, ifN (decide_eq_false (fun z => nomatch z)) ?_⟩
      refine ⟨_, rfl, _, _, _, _, false, rfl, .ty _, .base (.bl b0), kit_ty (by decide +kernel), _, rfl, ?_⟩
      refine iteF ?_
      refine ⟨_, rfl, _, _, _, _, true, rfl, .ty _, .base (.bl b0), kit_ty (by decide +kernel), _, rfl, iteT ?_⟩
      refine ⟨_, rfl, _, _, _, _, true, rfl, .ty _, .base (.bl b0), kit_ty (by decide +kernel), _, rfl, _, _, _, _, true, rfl, .ty _, .base (.bl b0), kit_ty (by decide +kernel), rfl, _, rfl, ifY (decide_eq_true rfl) ?_⟩
      refine ⟨_, rfl, _, rfl, rfl, ?_⟩
      rw [decide_eq_true rfl]
      exact q _ e0
    | int i0 =>
      cases hx
      cases hy
      refine ⟨_, rfl, two_size, fun t nt => ?_⟩
      have e0 : Evl.Ex H (upd H t (.tup [.ty "list", .ty "tuple"])) := Evl.Ex.new nt
      refine ⟨_, t, _, _, _, false, rfl, upd_same, two_cls, .base (.int i0), kit2 (b := false) (c := false) (by decide +kernel) (by decide +kernel), _, rfl, iteF ?_⟩
      refine ⟨_, rfl, _, rfl, ifN (decide_eq_false (fun z => nomatch z)) ?_⟩
      refine ⟨_, rfl, _, _, _, _, false, rfl, .ty _, .base (.int i0), kit_ty (by decide +kernel), _, rfl, ?_⟩
      refine iteF ?_
      refine ⟨_, rfl, _, _, _, _, true, rfl, .ty _, .base (.int i0), kit_ty (by decide +kernel), _, rfl, iteT ?_⟩
      refine ⟨_, rfl, _, _, _, _, false, rfl, .ty _, .base (.int i0), kit_ty (by decide +kernel), _, rfl, _, _, _, _, false, rfl, .ty _, .base (.int i0), kit_ty (by decide +kernel), rfl, _, rfl, ifY (decide_eq_true rfl) ?_⟩
      refine ⟨_, rfl, _, rfl, rfl, ?_⟩
      rw [decide_eq_true rfl]
      exact q _ e0
    | str z0 =>
      cases hx
      cases hy
      refine ⟨_, rfl, two_size, fun t nt => ?_⟩
      have e0 : Evl.Ex H (upd H t (.tup [.ty "list", .ty "tuple"])) := Evl.Ex.new nt
      refine ⟨_, t, _, _, _, false, rfl, upd_same, two_cls, .base (.str z0), kit2 (b := false) (c := false) (by decide +kernel) (by decide +kernel), _, rfl, iteF ?_⟩
      refine ⟨_, rfl, _, rfl, ifN (decide_eq_false (fun z => nomatch z)) ?_⟩
      refine ⟨_, rfl, _, _, _, _, true, rfl, .ty _, .base (.str z0), kit_ty (by decide +kernel), _, rfl, ?_⟩
      refine iteT ?_
      refine ⟨_, rfl, _, rfl, rfl, _, rfl, ifY (decide_eq_true rfl) ?_⟩
      refine ⟨_, rfl, _, _, _, _, true, rfl, .ty _, .base (.str z0), kit_ty (by decide +kernel), _, rfl, _, _, _, _, true, rfl, .ty _, .base (.str z0), kit_ty (by decide +kernel), rfl, ?_⟩
      exact q _ e0
    | list ds =>
      cases hx with
      | lst h1 g1 =>
      cases hy with
      | lst h2 g2 =>
      rename_i a1 xs a2 ys
      cases n with
      | zero => exact absurd hd (by simp [shal])
      | succ n =>
      have hd0 : (decide (ds.length ≤ 1000) && ds.all (shal n)) = true := by
        rw [shal] at hd
        exact hd
      have hd' : ds.all (shal n) = true := (Bool.and_eq_true_iff.mp hd0).2
      have hsz : ds.length ≤ 1000 := of_decide_eq_true (Bool.and_eq_true_iff.mp hd0).1
      have l1 := dpa_len g1
      have l2 := dpa_len g2
      refine ⟨_, rfl, two_size, fun t nt => ?_⟩
      have e0 : Evl.Ex H (upd H t (.tup [.ty "list", .ty "tuple"])) := Evl.Ex.new nt
      have L1 := Evl.ex_l e0 h1
      have L2 := Evl.ex_l e0 h2
      refine ⟨_, t, _, _, _, true, rfl, upd_same, two_cls, tyx_l L2, kit2 (b := true) (c := false) (by decide +kernel) (by decide +kernel), _, rfl, iteT ?_⟩
      refine ⟨_, rfl, _, _, _, _, true, rfl, .ty _, tyx_l L1, kit_ty (by decide +kernel), _, rfl, _, _, _, _, true, rfl, .ty _, tyx_l L2, kit_ty (by decide +kernel), rfl, _, rfl, ifN rfl ?_⟩
      refine ⟨_, rfl, _, _, _, _, false, rfl, .ty _, tyx_l L1, kit_ty (by decide +kernel), _, rfl, _, _, _, _, false, rfl, .ty _, tyx_l L2, kit_ty (by decide +kernel), rfl, _, rfl, ifN rfl ?_⟩
      refine ⟨_, rfl, a1, _, rfl, .inl L1, _, rfl, a2, _, rfl, .inl L2, rfl, _, rfl, ifN ?_ ?_⟩
      · rw [l1, l2, decide_eq_true rfl]
        rfl
      refine ⟨_, rfl, _, rfl, a1, a2, xs, ys, rfl, .inl ⟨L1, L2, fun D nD => lc_it (walk_zip (xs := xs) (ys := ys) rfl)
        (fun i H' => Evl.Ex (upd H t (.tup [.ty "list", .ty "tuple"])) H' ∧ H' D = some (.lst ((List.replicate i true).map V.bl))) ⟨Evl.Ex.new nD, upd_same⟩
        (fun i H' _ p => ⟨Evl.ex_l p.1 L1, Evl.ex_l p.1 L2⟩) (fun i x H2 H3 hi p y => ?_) (fun H' p => ?_)⟩⟩
      · obtain ⟨T, u, v, rfl, nT, rfl, eu, ev⟩ := y
        have e2 := e0.trans (p.1.trans (Evl.Ex.new (o := .tup [u, v]) nT))
        obtain ⟨d1, k1, j1⟩ := dpa_at g1 eu
        obtain ⟨d2, k2, j2⟩ := dpa_at g2 ev
        rw [k1] at k2
        cases k2
        refine ⟨T, _, rfl, .inl (.inl upd_same), rfl, _, _, rfl, _, [], rfl, rfl, rfl, ?_⟩
        unfold tYes
        dsimp only
        rw [if_pos rfl]
        refine ⟨_, rfl, _, rfl, u, v, d1, rfl, dp_mono e2 j1, dp_mono e2 j2, all_at hd' k1, fun H4 e4 => ?_⟩
        have hD4 : H4 D = some (.lst ((List.replicate i true).map V.bl)) := e4 _ _ (by
          rw [upd_ne (ne_of_none p.2 nT)]
          exact p.2)
        refine ⟨_, hD4, ?_, ?_, ?_⟩
        · rw [List.length_map, List.length_replicate]
          exact Evl.sz_lt (by have := hsz; omega)
        · exact Evl.Ex.mut ((p.1.trans (Evl.Ex.new nT)).trans e4) nD
        · rw [upd_same, List.replicate_succ', List.map_append]
          rfl
      · refine ⟨D, _, rfl, .inl (.inl p.2), ?_⟩
        rw [all_yes]
        exact q _ (e0.trans p.1)
    | tuple ds =>
      cases hx with
      | tup h1 g1 =>
      cases hy with
      | tup h2 g2 =>
      rename_i a1 xs a2 ys
      cases n with
      | zero => exact absurd hd (by simp [shal])
      | succ n =>
      have hd0 : (decide (ds.length ≤ 1000) && ds.all (shal n)) = true := by
        rw [shal] at hd
        exact hd
      have hd' : ds.all (shal n) = true := (Bool.and_eq_true_iff.mp hd0).2
      have hsz : ds.length ≤ 1000 := of_decide_eq_true (Bool.and_eq_true_iff.mp hd0).1
      have l1 := dpa_len g1
      have l2 := dpa_len g2
      refine ⟨_, rfl, two_size, fun t nt => ?_⟩
      have e0 : Evl.Ex H (upd H t (.tup [.ty "list", .ty "tuple"])) := Evl.Ex.new nt
      have L1 := Evl.ex_t e0 h1
      have L2 := Evl.ex_t e0 h2
      refine ⟨_, t, _, _, _, true, rfl, upd_same, two_cls, tyx_t L2, kit2 (b := false) (c := true) (by decide +kernel) (by decide +kernel), _, rfl, iteT ?_⟩
      refine ⟨_, rfl, _, _, _, _, false, rfl, .ty _, tyx_t L1, kit_ty (by decide +kernel), _, rfl, _, _, _, _, false, rfl, .ty _, tyx_t L2, kit_ty (by decide +kernel), rfl, _, rfl, ifN rfl ?_⟩
      refine ⟨_, rfl, _, _, _, _, true, rfl, .ty _, tyx_t L1, kit_ty (by decide +kernel), _, rfl, _, _, _, _, true, rfl, .ty _, tyx_t L2, kit_ty (by decide +kernel), rfl, _, rfl, ifN rfl ?_⟩
      refine ⟨_, rfl, a1, _, rfl, .inr L1, _, rfl, a2, _, rfl, .inr L2, rfl, _, rfl, ifN ?_ ?_⟩
      · rw [l1, l2, decide_eq_true rfl]
        rfl
      refine ⟨_, rfl, _, rfl, a1, a2, xs, ys, rfl, .inr ⟨L1, L2, fun D nD => lc_it (walk_zipT (xs := xs) (ys := ys) rfl)
        (fun i H' => Evl.Ex (upd H t (.tup [.ty "list", .ty "tuple"])) H' ∧ H' D = some (.lst ((List.replicate i true).map V.bl))) ⟨Evl.Ex.new nD, upd_same⟩
        (fun i H' _ p => ⟨Evl.ex_t p.1 L1, Evl.ex_t p.1 L2⟩) (fun i x H2 H3 hi p y => ?_) (fun H' p => ?_)⟩⟩
      · obtain ⟨T, u, v, rfl, nT, rfl, eu, ev⟩ := y
        have e2 := e0.trans (p.1.trans (Evl.Ex.new (o := .tup [u, v]) nT))
        obtain ⟨d1, k1, j1⟩ := dpa_at g1 eu
        obtain ⟨d2, k2, j2⟩ := dpa_at g2 ev
        rw [k1] at k2
        cases k2
        refine ⟨T, _, rfl, .inl (.inl upd_same), rfl, _, _, rfl, _, [], rfl, rfl, rfl, ?_⟩
        unfold tYes
        dsimp only
        rw [if_pos rfl]
        refine ⟨_, rfl, _, rfl, u, v, d1, rfl, dp_mono e2 j1, dp_mono e2 j2, all_at hd' k1, fun H4 e4 => ?_⟩
        have hD4 : H4 D = some (.lst ((List.replicate i true).map V.bl)) := e4 _ _ (by
          rw [upd_ne (ne_of_none p.2 nT)]
          exact p.2)
        refine ⟨_, hD4, ?_, ?_, ?_⟩
        · rw [List.length_map, List.length_replicate]
          exact Evl.sz_lt (by have := hsz; omega)
        · exact Evl.Ex.mut ((p.1.trans (Evl.Ex.new nT)).trans e4) nD
        · rw [upd_same, List.replicate_succ', List.map_append]
          rfl
      · refine ⟨D, _, rfl, .inl (.inl p.2), ?_⟩
        rw [all_yes]
        exact q _ (e0.trans p.1)
    | dict kvs => cases hx
end
open Dv
section
variable {P : Program} {w : World} {K : PySem.W.Frag} {mg : Str → Option Value} {base : Heap}
theorem g_take {f : Addr} {fd : FuncData} (F : Fun K "_law_take" "_law_take" stTake f fd) : FnG P w K mg base 1 f fd ["_law_box_here", "_law_size"] (spD K 1 Ke.F_take) :=
  impG (toG (ok_take (k := 0) F)) fun vs H Q h => by
    obtain ⟨b, S, m, as, hA, bx, bs, al, hm, hF⟩ := h
    unfold Ke.F_take at hF
    split at hF
    · rename_i n
      cases hA with
      | cons a1 a2 =>
      cases a2 with
      | cons a2 a3 =>
      cases a3
      cases a2
      obtain ⟨p, rfl, rfl⟩ := a1
      obtain ⟨x, y, z, h1, h2, h3, h4, h5, h6⟩ := bx
      have hm' : m < 900000000 := by
        have : m + 1 ≤ 900000000 := hm
        omega
      refine ⟨p, x, y, z, n, rfl, h6, h1, h2, h3, h4, by omega, hF.1.1, hF.1.2, fun r x' z' g1 g2 g3 g4 g5 => hF.2 r g1 g2 _ _ (fun c o hc e => .lst (fun w => hc (by rw [w])) e h6) ⟨x', y, z', g3, h2, h3, by omega, by omega, upd_same⟩ (.int _)⟩
    · exact hF.elim
theorem g_box {f : Addr} {fd : FuncData} (F : Fun K "_law_box" "_law_box" stBox f fd) (ml : mg "len" = none) (ma : mg "abs" = none) (mi : mg "int" = none) : FnG P w K mg base 1 f fd ["_law_script", "_law_k"] (spBx K) :=
  impG (toG (ok_box (k := 0) F ml ma mi)) fun vs H Q h => h
theorem g_same {f : Addr} {fd : FuncData} (F : Fun K "_law_same" "_law_same" stSame f fd) (b : Binds K fd ["_law_found", "_law_due"] []) (gs : mg "_law_same" = some (.ref f)) (N : Names mg) : FnG P w K mg base 6 f fd ["_law_found", "_law_due"] (spD K 0 F_same) :=
  impG (toG (ok_same F b gs N 6)) fun vs H Q h => by
    obtain ⟨b, S, m, as, hA, bx, bs, al, hm, hF⟩ := h
    unfold F_same at hF
    split at hF
    · rename_i x y
      obtain ⟨⟨rfl, sh⟩, hF⟩ := hF
      cases hA with
      | cons a1 a2 =>
      cases a2 with
      | cons a2 a3 =>
      cases a3
      exact ⟨_, _, x, rfl, (Da.mono rm_le a1).dp, (Da.mono rm_le a2).dp, sh, fun H' e => hF _ _ (Stp.ex e) (bx.ex e) (.bl true)⟩
    · exact hF.elim
end
abbrev stFold : Stmt := topS 28
theorem scF : FnScope ["_law_script", "_law_size", "_law_cells", "_law_k", "_law_cell"] ["_law_script", "_law_size"] (defScope stFold) := ⟨rfl, rfl, rfl, by decide +kernel, rfl, by decide +kernel, by decide +kernel⟩
theorem fcut_to (ns : List Int) : cutV (ns.map V.int) none (some 3) = (ns.take 3).map V.int := by
  unfold cutV
  rw [HT.sIx_none, show HT.sIx (ns.map V.int).length (ns.map V.int).length (some 3) = min 3 (ns.map V.int).length from HT.sIx_nat _ _ 3, List.drop_zero, Nat.sub_zero, ← List.map_take, List.length_map]
  congr 1
  rw [List.take_eq_take_iff]
  omega
theorem fcut_on (ns : List Int) : ∃ ts : List Int, cutV (ns.map V.int) (some 3) (some 63) = ts.map V.int ∧ (ns.length ≤ 3 → ts = []) ∧ ts.length ≤ ns.length := by
  unfold cutV
  rw [show HT.sIx (ns.map V.int).length 0 (some 3) = min 3 (ns.map V.int).length from HT.sIx_nat _ _ 3, ← List.map_drop, ← List.map_take]
  refine ⟨_, rfl, fun h => ?_, ?_⟩
  · rw [List.length_map, List.drop_eq_nil_of_le (by omega), List.take_nil]
  · rw [List.length_take, List.length_drop]
    omega
theorem posc : (0 : Int) < 3 := by decide
section
variable {P : Program} {w : World} {K : PySem.W.Frag} {mg : Str → Option Value} {base : Heap}
theorem ok_fold {f : Addr} {fd : FuncData} {k : Nat} (F : Fun K "_law_folded" "_law_folded" stFold f fd) (ml : mg "list" = none) (me : mg "enumerate" = none) :
    FnOk P w K mg base CX0 (k + 1) f fd ["_law_script", "_law_size"] (Dv.spFold K 3) := by
  refine F.ok scF (fun vs H Q E h => ?_) (fun cdv A outer s H vs Q E hr h => ?_)
  · obtain ⟨a, ns, rfl, _⟩ := h
    rfl
  · obtain ⟨a, ns, rfl, hS, hlen, q⟩ := h
    refine ⟨_, pss_cons (ps_set (i := 2) scF.nd rfl (.inl rfl) (pe_callTy call_list_of (by rfl) ml PyProof.Rows.boot_list (pa_cons (pe_slice sl_list (pv 0) po_none (po_some (pv 1))) pa_nil)))
      (pss_cons (ps_for PassesOwn.never rfl (pi_enum (by rfl) me (pa_cons (pe_slice sl_list (pv 0) (po_some (pv 1)) (po_some pe_int)) pa_nil))
          (pg_tup rfl (pgs_cons (pg_name (i := 3) scF.nd rfl (.inl rfl)) (pgs_cons (pg_name (i := 4) scF.nd rfl (.inl rfl)) pgs_nil)))
        (pss_one (ps_asg (pe_op op_add (pe_ix ix_list (pv 2) (pe_op op_mod (pv 3) (pv 1)) (fun _ _ => rfl)) (pe_op op_mul (pv 4) (pe_op op_add (pv 3) pe_int)))
          (pg_sub (pv 2) (pe_op op_mod (pv 3) (pv 1)) set_list))))
      (pss_one (ps_ret (pe_ifExp (pt_cmpR (op_neD hr.units) (pv 2) (pe_lst pa_nil) (nomark _)) (pv 2) (pe_lst (pa_cons pe_int pa_nil)))))), ?_⟩
    refine ⟨_, rfl, _, rfl, 3, rfl, a, _, rfl, hS, fun c nc => ?_⟩
    refine ⟨c, _, rfl, .inl (.inl (.inl upd_same)), fun l nl => ?_⟩
    have x1 : Evl.Ex H (upd H c (.lst (cutV (ns.map V.int) none (some 3)))) := Evl.Ex.new nc
    have x2 := x1.trans (Evl.Ex.new (o := .lst (cutV (ns.map V.int) none (some 3))) nl)
    have nl0 : H l = none := Evl.fresh_back x1 nl
    refine ⟨_, rfl, _, rfl, 3, rfl, 63, rfl, a, _, rfl, Evl.ex_l x2 hS, fun d nd => ?_⟩
    obtain ⟨ts, ets, hts, htl⟩ := fcut_on ns
    rw [ets]
    have x3 := x2.trans (Evl.Ex.new (o := .lst (ts.map V.int)) nd)
    have nld : l ≠ d := fun e => by
      rw [← e, upd_same] at nd
      cases nd
    refine ⟨d, _, rfl, .inl (.inl upd_same), for_it (walk_enum (xs := ts.map V.int)) (fun i σ H' => ∃ (y3 y4 : Option V) (ms : List Int), σ = [some (.ref a), some (.int 3), some (.ref l), y3, y4] ∧
      Evl.Ex H H' ∧ H' d = some (.lst (ts.map V.int)) ∧ H' l = some (.lst (ms.map V.int)) ∧ ms.length = min 3 ns.length)
      ⟨none, none, ns.take 3, rfl, x3, upd_same, ?_, List.length_take⟩ (fun i σ H' _ h => ?_) (fun i x σ H1 H2 hi h y => ?_) (fun σ H' h => ?_)⟩
    · rw [upd_ne nld, upd_same, fcut_to]
    · obtain ⟨y3, y4, ms, rfl, x4, hd, hl, hm⟩ := h
      exact .inl (.inl hd)
    · obtain ⟨y3, y4, ms, rfl, x4, hd, hl, hm⟩ := h
      obtain ⟨T, x, y, rfl, nT, rfl, e1, e2⟩ := y
      cases e1
      rw [List.length_map] at hi
      have e3 : (ts.map V.int)[i]? = some (.int ts[i]) := by
        rw [List.getElem?_map, List.getElem?_eq_getElem hi]
        rfl
      have e2' : (ts.map V.int)[i]? = some y := e2
      rw [e3] at e2'
      cases e2'
      have h4 : 3 < ns.length := by
        by_cases z : ns.length ≤ 3
        · rw [hts z] at hi
          cases hi
        · omega
      have hm4 : ms.length = 3 := by omega
      refine ⟨T, _, rfl, .inl (.inl upd_same), rfl, _, _, rfl, _, [], rfl, rfl, ?_⟩
      have hlT : (upd H1 T (.tup [.int (i : Nat), .int ts[i]])) l = some (.lst (ms.map V.int)) := by
        rw [upd_ne (ne_of_none hl nT)]
        exact hl
      have lt : i % 3 < ms.length := by omega
      have gi : (ms.map V.int)[i % 3]? = some (.int ms[i % 3]) := by
        rw [List.getElem?_map, List.getElem?_eq_getElem lt]
        rfl
      have ei : ((i : Nat) : Int) % 3 = ((i % 3 : Nat) : Int) := by omega
      refine ⟨_, rfl, _, rfl, _, rfl, _, 3, rfl, rfl, posc, l, _, _, _, rfl, rfl, .inl (.inl hlT), at_of ei gi,
        _, rfl, _, rfl, _, 2, rfl, rfl, _, _, rfl, rfl, .inr ⟨?_, ?_⟩, _, _, rfl, rfl, _, rfl, _, rfl, _, rfl, _, 3, rfl, rfl, posc, l, _, _, i % 3, rfl, rfl, hlT, ?_, ?_⟩
      · show -(2 ^ 64) < ((i : Nat) : Int) + 2
        omega
      · show ((i : Nat) : Int) + 2 < 2 ^ 64
        omega
      · rw [ei]
        unfold ixN
        rw [List.length_map, if_pos (by omega), if_pos (by omega)]
        rfl
      · refine ⟨_, _, ms.set (i % 3) (ms[i % 3] + ts[i] * (((i : Nat) : Int) + 2)), rfl, ?_, ?_, ?_, ?_⟩
        · exact Evl.Ex.mut (x4.trans (Evl.Ex.new nT)) nl0
        · rw [upd_ne nld.symm, upd_ne (ne_of_none hd nT)]
          exact hd
        · rw [upd_same, List.map_set]
        · rw [List.length_set]
          exact hm
    · obtain ⟨y3, y4, ms, rfl, x4, hd, hl, hm⟩ := h
      have sl : SqL K H' l (ms.map V.int) := .inl (.inl hl)
      refine ⟨_, rfl, Nat.zero_le _, fun z nz => ?_⟩
      have hlz : (upd H' z (.lst [])) l = some (.lst (ms.map V.int)) := by
        rw [upd_ne (ne_of_none hl nz)]
        exact hl
      refine ⟨_, .list [], Dp.lst (.inl (.inl hlz)) (dp_ints ms), Dp.lst (.inl (.inl upd_same)) .nil, shp_ints ms, by decide +kernel, _, rfl, ?_⟩
      have x5 := x4.trans (Evl.Ex.new (o := .lst []) nz)
      cases ms with
      | nil =>
        refine iteF ?_
        refine ⟨show 1 ≤ sizeLine by decide, fun o no => ?_⟩
        exact q o _ [0] (x5.trans (Evl.Ex.new no)) (Evl.fresh_back x5 no) upd_same (by decide) (by decide)
      | cons m1 ms =>
        refine iteT ?_
        exact ⟨_, rfl, q l _ (m1 :: ms) x5 nl0 hlz (by rw [List.length_cons]; omega) (by omega)⟩
end
section
variable {P : Program} {w : World} {K : PySem.W.Frag} {mg : Str → Option Value} {base : Heap}
theorem g_fold {f : Addr} {fd : FuncData} (F : Fun K "_law_folded" "_law_folded" stFold f fd) (ml : mg "list" = none) (me : mg "enumerate" = none) : FnG P w K mg base 1 f fd ["_law_script", "_law_size"] (Dv.spFold K 3) :=
  Dv.toG (ok_fold (k := 0) F ml me)
end
end Kd
namespace Kd
open PySem PySem.Spec PyProof.Rows L2 Xg Dv
end Kd
namespace Kd
open PySem PySem.Spec PyProof.Rows L2 Xg Dv
theorem comp_at {g : FG} {te : FE} {ρ : List Sl} {Q : List PyData → Prop} (h : Nat → PyData) : ∀ (ds acc : List PyData) (k : Nat), (∀ i d, ds[i]? = some d → ∀ P : PyData → Prop, P (h (k + i)) → g d ρ fun ρ' => te ρ' P) → Q (acc ++ (List.range' k ds.length).map h) → compD g fYes te ρ ds acc Q
  | [], acc, k, _, q => by
    rw [List.length_nil, List.range'_zero, List.map_nil, List.append_nil] at q
    exact q
  | d :: ds, acc, k, hs, q => hs 0 d rfl (fun y => compD g fYes te ρ ds (acc ++ [y]) Q) (comp_at h ds _ (k + 1) (fun i e he P hp => hs (i + 1) e (by simpa using he) P (by rw [show k + (i + 1) = k + 1 + i by omega]; exact hp)) (by
    rw [List.append_assoc]
    rw [List.length_cons, List.range'_succ, List.map_cons] at q
    exact q))
def vec (n : Nat) (f : Nat → Int) : List Int := (List.range n).map f
theorem vec_len {n : Nat} {f : Nat → Int} : (vec n f).length = n := by unfold vec; rw [List.length_map, List.length_range]
theorem vec_at {n i : Nat} {f : Nat → Int} (h : i < n) : (vec n f)[i]? = some (f i) := by
  unfold vec
  rw [List.getElem?_map, List.getElem?_range h]
  rfl
theorem vec_get {n i : Nat} {f : Nat → Int} (h : i < n) : (vec n f).getD i 0 = f i := by
  rw [List.getD_eq_getElem?_getD, vec_at h]
  rfl
theorem vec_ext {n : Nat} {f g : Nat → Int} (h : ∀ i, i < n → f i = g i) : vec n f = vec n g := by
  unfold vec
  exact List.map_congr_left fun i hi => h i (List.mem_range.mp hi)
theorem list_vec (l : List Int) : l = vec l.length fun i => l.getD i 0 := by
  apply List.ext_getElem?
  intro i
  by_cases h : i < l.length
  · rw [vec_at h, List.getD_eq_getElem?_getD, List.getElem?_eq_getElem h]
    rfl
  · rw [List.getElem?_eq_none (by omega), List.getElem?_eq_none (by rw [vec_len]; omega)]
def sqd (k : Bool) (ds : List PyData) : PyData := match k with
  | true => .tuple ds
  | false => .list ds
abbrev iq (k : Bool) (ns : List Int) : PyData := sqd k (ns.map PyData.int)
def oI : Option Int → PyData
  | none => .none
  | some i => .int i
def fm (row : Bool) : Str := if row = true then "row" else "ring"
def ln (k row : Bool) (rooms : List Int) : PyData := sqd k [.str (fm row), iq k rooms]
theorem fm_row {row : Bool} : decide (fm row = "row") = row := by cases row <;> decide
theorem fm_ring {row : Bool} : decide (fm row = "ring") = !row := by cases row <;> decide
theorem len_i (ns : List Int) : (ns.map PyData.int).length = ns.length := List.length_map ..
def gts (row : Bool) (n : Nat) : Nat := if row = true then n + 1 else n
def mn : List Int → Int
  | [] => 0
  | [x] => x
  | x :: y :: r => if x ≤ mn (y :: r) then x else mn (y :: r)
theorem mn_mem : ∀ {l : List Int}, l ≠ [] → mn l ∈ l
  | [x], _ => by simp [mn]
  | x :: y :: r, _ => by
    have h := mn_mem (l := y :: r) (by simp)
    rw [mn]
    split
    · exact List.mem_cons_self ..
    · exact List.mem_cons_of_mem _ h
theorem mn_le : ∀ {l : List Int} {y : Int}, y ∈ l → mn l ≤ y
  | [x], y, h => by
    rw [List.mem_singleton.mp h]
    exact Int.le_refl _
  | x :: z :: r, y, h => by
    rw [mn]
    rcases List.mem_cons.mp h with rfl | h
    · split <;> omega
    · have g := mn_le (l := z :: r) h
      split <;> omega
theorem mn_is {l : List Int} {m : Int} (h : m ∈ l) (g : ∀ y ∈ l, m ≤ y) : m = mn l := Int.le_antisymm (g _ (mn_mem fun z => by rw [z] at h; cases h)) (mn_le h)
def prev (be : List Int) (j : Nat) : Int := if j = 0 then be.getD (be.length - 1) 0 else be.getD (j - 1) 0
def bnd (ring : Bool) (be ah : List Int) (j : Nat) (w : Option Int) : List Int := w.toList ++ (if (ring || decide (0 < j)) = true then [prev be j] else []) ++ (if j < ah.length then [ah.getD j 0] else [])
end Kd
namespace Kd
open PySem PySem.Spec PyProof.Rows L2 Xg Dv
def gone (row : Bool) (be ah : List Int) (ws : List (Option Int)) (j : Nat) : Int := mn (bnd (!row) be ah j (ws.getD j none))
def lackL (rooms hs : List Int) : List Int := vec rooms.length fun i => rooms.getD i 0 - hs.getD i 0
def mvd (row : Bool) (rooms : List Int) (ws : List (Option Int)) (hs : List Int) (forth : Bool) : List Int :=
  vec ws.length (if forth = true then gone row hs (lackL rooms hs) ws else gone row (lackL rooms hs) hs ws)
structure Ft (row : Bool) (rooms : List Int) (ws : List (Option Int)) (hs : List Int) : Prop where
  n0 : 0 < rooms.length
  n2 : row = false → 2 ≤ rooms.length
  nz : rooms.length ≤ 1000
  nw : ws.length = gts row rooms.length
  nh : hs.length = rooms.length
theorem bnd_ne {row : Bool} {be ah : List Int} {ws : List (Option Int)} {w : Option Int} {n j : Nat} (hb : be.length = n) (ha : ah.length = n) (n0 : 0 < n) : bnd (!row) be ah j w ≠ [] := fun e => by
  unfold bnd at e
  rw [List.append_eq_nil_iff, List.append_eq_nil_iff] at e
  obtain ⟨⟨_, e2⟩, e3⟩ := e
  by_cases z : j < ah.length
  · rw [if_pos z] at e3
    cases e3
  · rw [if_pos (by cases row <;> simp; omega)] at e2
    cases e2
end Kd
namespace Kd
open PySem PySem.Spec PyProof.Rows L2 Xg Dv
def cnt (row : Bool) (rooms : List Int) (ws : List (Option Int)) (hs : List Int) (forth : Bool) : List Int :=
  vec ws.length fun j => if forth = true then (mvd row rooms ws hs forth).getD j 0 else -(mvd row rooms ws hs forth).getD j 0
end Kd
namespace Kd
open PySem PySem.Spec PyProof.Rows L2 Xg Dv
def ledL (hs cs : List Int) : List Int := vec hs.length fun i => hs.getD i 0 + cs.getD i 0 - cs.getD ((i + 1) % cs.length) 0
def btL (row : Bool) (rooms : List Int) (ws : List (Option Int)) (hs : List Int) (forth : Bool) : List Int := ledL hs (cnt row rooms ws hs forth)
end Kd
namespace Kd
open PySem PySem.Spec PyProof.Rows L2 Xg Dv
theorem btL_len {row : Bool} {rooms hs : List Int} {ws : List (Option Int)} {forth : Bool} : (btL row rooms ws hs forth).length = hs.length := vec_len
theorem Ft.next {row : Bool} {rooms hs : List Int} {ws : List (Option Int)} {forth : Bool} (F : Ft row rooms ws hs) : Ft row rooms ws (btL row rooms ws hs forth) := ⟨F.n0, F.n2, F.nz, F.nw, btL_len.trans F.nh⟩
def addL (a b : List Int) : List Int := vec a.length fun i => a.getD i 0 + b.getD i 0
def ledR (row : Bool) (rooms : List Int) : List (Bool × List (Option Int)) → List Int → List Int → List Int × List Int
  | [], h, c => (h, c)
  | (b, ws) :: r, h, c => ledR row rooms r (ledL h (cnt row rooms ws h b)) (addL c (cnt row rooms ws h b))
end Kd
namespace Kd
open PySem PySem.Spec PyProof.Rows L2 Xg Dv
variable {b : Int}
end Kd
namespace Kd
open PySem PySem.Spec PyProof.Rows L2 Xg Dv
theorem comp_enc {α : Type} {g : FG} {te : FE} {ρ : List Sl} {Q : List PyData → Prop} (e r : α → PyData) : ∀ (xs : List α) (acc : List PyData), (∀ x ∈ xs, ∀ P : PyData → Prop, P (r x) → g (e x) ρ fun ρ' => te ρ' P) → Q (acc ++ xs.map r) → compD g fYes te ρ (xs.map e) acc Q
  | [], acc, _, q => by
    rw [List.map_nil, List.append_nil] at q
    exact q
  | x :: xs, acc, hs, q => hs x (List.mem_cons_self ..) (fun y => compD g fYes te ρ (xs.map e) (acc ++ [y]) Q) (comp_enc e r xs _ (fun z hz => hs z (List.mem_cons_of_mem _ hz)) (by
    rw [List.append_assoc]
    exact q))
theorem comp_any {α : Type} {g : FG} {te : FE} {ρ : List Sl} {Q : List PyData → Prop} (e : α → PyData) (R : PyData → Prop) : ∀ (xs : List α) (acc : List PyData), (∀ x ∈ xs, ∀ P : PyData → Prop, (∀ y, R y → P y) → g (e x) ρ fun ρ' => te ρ' P) →
    (∀ ys, ys.length = xs.length → (∀ y ∈ ys, R y) → Q (acc ++ ys)) → compD g fYes te ρ (xs.map e) acc Q
  | [], acc, _, q => by
    have z := q [] rfl (fun y hy => nomatch hy)
    rw [List.append_nil] at z
    exact z
  | x :: xs, acc, hs, q => hs x (List.mem_cons_self ..) (fun y => compD g fYes te ρ (xs.map e) (acc ++ [y]) Q) fun y hy => comp_any e R xs _ (fun z hz => hs z (List.mem_cons_of_mem _ hz)) fun ys hl hr => by
    rw [List.append_assoc]
    refine q (y :: ys) (by rw [List.length_cons, List.length_cons, hl]) fun z hz => ?_
    rcases List.mem_cons.mp hz with rfl | hz
    · exact hy
    · exact hr z hz
theorem for_inv {g : FG} {f : FS} {E : DEnds} (I : List Sl → Prop) : ∀ (ds : List PyData) (ρ : List Sl), (∀ ρ d (N : List Sl → Prop), I ρ → d ∈ ds → (∀ ρ', I ρ' → N ρ') → g d ρ fun ρ1 => f ρ1 { E with nx := N, ct := N, bk := E.nx }) → I ρ → (∀ ρ, I ρ → E.nx ρ) → forD g f ds ρ E
  | [], ρ, _, h0, he => he ρ h0
  | d :: ds, ρ, hs, h0, he => hs ρ d (fun ρ2 => forD g f ds ρ2 E) h0 (List.mem_cons_self ..) fun ρ' h => for_inv I ds ρ' (fun ρ e N i m => hs ρ e N i (List.mem_cons_of_mem _ m)) h he
theorem shal_iq {n : Nat} {k : Bool} {l : List Int} (h : l.length ≤ 1000) : shal (n + 1) (iq k l) = true := by
  have z : (l.map PyData.int).all (shal n) = true := by
    rw [List.all_eq_true]
    intro d hd
    obtain ⟨x, _, rfl⟩ := List.mem_map.mp hd
    cases n <;> rfl
  cases k with
  | true =>
    show (decide ((l.map PyData.int).length ≤ 1000) && (l.map PyData.int).all (shal n)) = true
    rw [z, len_i, decide_eq_true h]
    rfl
  | false =>
    show (decide ((l.map PyData.int).length ≤ 1000) && (l.map PyData.int).all (shal n)) = true
    rw [z, len_i, decide_eq_true h]
    rfl
theorem lay_flat {α : Type} (c : α → PyData) (h1 : ∀ a, (c a).canLay0 = true) (h2 : ∀ a, (c a).depth = 0) : ∀ ms : List α, PyData.canLayAll0 (ms.map c) = true ∧ PyData.depthAll (ms.map c) = 0
  | [] => ⟨rfl, rfl⟩
  | m :: r => by
    obtain ⟨g1, g2⟩ := lay_flat c h1 h2 r
    refine ⟨?_, ?_⟩
    · rw [List.map_cons, PyData.canLayAll0, h1, g1]
      rfl
    · rw [List.map_cons, PyData.depthAll, h2, g2]
      rfl
theorem range_mem {n : Nat} {d : PyData} (h : d ∈ rangeD 0 n) : ∃ k : Nat, k < n ∧ d = .int (k : Nat) := by
  unfold rangeD at h
  obtain ⟨k, hk, rfl⟩ := List.mem_map.mp h
  exact ⟨k, List.mem_range.mp hk, by rw [Int.zero_add]⟩
theorem range_len {lo : Int} {n : Nat} : (rangeD lo n).length = n := by
  unfold rangeD
  rw [List.length_map, List.length_range]
end Kd
namespace Kd
open PySem PySem.Spec PyProof.Rows L2 Xg Dv
def Nn (l : List Int) : Prop := ∀ i, 0 ≤ l.getD i 0
def Wn (ws : List (Option Int)) : Prop := ∀ j x, ws.getD j none = some x → 0 ≤ x
structure Vd (rooms hs : List Int) : Prop where
  len : hs.length = rooms.length
  lo : ∀ i, i < rooms.length → 0 ≤ hs.getD i 0
  hi : ∀ i, i < rooms.length → hs.getD i 0 ≤ rooms.getD i 0
theorem get_out {l : List Int} {i : Nat} (h : l.length ≤ i) : l.getD i 0 = 0 := by
  rw [List.getD_eq_getElem?_getD, List.getElem?_eq_none h]
  rfl
theorem Vd.nn {rooms hs : List Int} (h : Vd rooms hs) : Nn hs := fun i => by
  by_cases z : i < rooms.length
  · exact h.lo i z
  · rw [get_out (by rw [h.len]; omega)]
    exact Int.le_refl _
theorem Vd.lack {rooms hs : List Int} (h : Vd rooms hs) : Nn (lackL rooms hs) := fun i => by
  unfold lackL
  by_cases z : i < rooms.length
  · rw [vec_get z]
    have := h.hi i z
    omega
  · rw [get_out (by rw [vec_len]; omega)]
    exact Int.le_refl _
theorem prev_nn {be : List Int} {j : Nat} (h : Nn be) : 0 ≤ prev be j := by
  unfold prev
  split
  · exact h _
  · exact h _
section
variable {row : Bool} {be ah : List Int} {ws : List (Option Int)} {j n : Nat}
theorem mem_bnd {ring : Bool} {w : Option Int} {x : Int} : x ∈ bnd ring be ah j w ↔ (w = some x ∨ ((ring || decide (0 < j)) = true ∧ x = prev be j) ∨ (j < ah.length ∧ x = ah.getD j 0)) := by
  unfold bnd
  rw [List.mem_append, List.mem_append]
  constructor
  · rintro ((h | h) | h)
    · left
      cases w with
      | none => simp at h
      | some y => simp at h; rw [h]
    · right; left
      split at h
      · exact ⟨by assumption, List.mem_singleton.mp h⟩
      · simp at h
    · right; right
      split at h
      · exact ⟨by assumption, List.mem_singleton.mp h⟩
      · simp at h
  · rintro (h | ⟨h, e⟩ | ⟨h, e⟩)
    · subst h
      left; left
      simp
    · left; right
      rw [if_pos h, e]
      simp
    · right
      rw [if_pos h, e]
      simp
theorem gone_nn (hb : Nn be) (ha : Nn ah) (hw : Wn ws) (lb : be.length = n) (la : ah.length = n) (n0 : 0 < n) : 0 ≤ gone row be ah ws j := by
  have h := mn_mem (bnd_ne (row := row) (ws := ws) (w := ws.getD j none) (j := j) lb la n0)
  unfold gone
  rcases mem_bnd.mp h with e | ⟨_, e⟩ | ⟨_, e⟩
  · exact hw j _ e
  · rw [e]
    exact prev_nn hb
  · rw [e]
    exact ha _
theorem gone_a (h : j < ah.length) : gone row be ah ws j ≤ ah.getD j 0 := mn_le (mem_bnd.mpr (.inr (.inr ⟨h, rfl⟩)))
theorem gone_b (h : ((!row) || decide (0 < j)) = true) : gone row be ah ws j ≤ prev be j := mn_le (mem_bnd.mpr (.inr (.inl ⟨h, rfl⟩)))
theorem next_prev {i : Nat} (hi : i < n) (lb : be.length = n) : ((!row) || decide (0 < (i + 1) % gts row n)) = true ∧ prev be ((i + 1) % gts row n) = be.getD i 0 ∧ (i + 1) % gts row n < gts row n := by
  have g0 : 0 < gts row n := by
    unfold gts
    split <;> omega
  refine ⟨?_, ?_, Nat.mod_lt _ g0⟩
  · cases row with
    | false => rfl
    | true =>
      show (false || decide (0 < (i + 1) % (n + 1))) = true
      rw [Nat.mod_eq_of_lt (by omega)]
      simp
  · unfold prev
    cases row with
    | true =>
      show (if (i + 1) % (n + 1) = 0 then _ else be.getD ((i + 1) % (n + 1) - 1) 0) = _
      rw [Nat.mod_eq_of_lt (by omega), if_neg (by omega)]
      rfl
    | false =>
      show (if (i + 1) % n = 0 then be.getD (be.length - 1) 0 else be.getD ((i + 1) % n - 1) 0) = _
      by_cases z : i + 1 = n
      · rw [z, Nat.mod_self, if_pos rfl, lb, ← z]
        rfl
      · rw [Nat.mod_eq_of_lt (by omega), if_neg (by omega)]
        rfl
end
section
variable {row : Bool} {rooms hs : List Int} {ws : List (Option Int)} {forth : Bool}
theorem cnt_len : (cnt row rooms ws hs forth).length = ws.length := vec_len
theorem mvd_get {j : Nat} (h : j < ws.length) : (mvd row rooms ws hs forth).getD j 0 = if forth = true then gone row hs (lackL rooms hs) ws j else gone row (lackL rooms hs) hs ws j := by
  unfold mvd
  rw [vec_get h]
  cases forth <;> rfl
theorem cnt_get {j : Nat} (h : j < ws.length) : (cnt row rooms ws hs forth).getD j 0 = if forth = true then gone row hs (lackL rooms hs) ws j else -gone row (lackL rooms hs) hs ws j := by
  unfold cnt
  rw [vec_get h, mvd_get h]
  cases forth <;> rfl
theorem lack_len : (lackL rooms hs).length = rooms.length := vec_len
theorem lack_get {i : Nat} (h : i < rooms.length) : (lackL rooms hs).getD i 0 = rooms.getD i 0 - hs.getD i 0 := vec_get h
theorem bt_get (F : Ft row rooms ws hs) {i : Nat} (h : i < rooms.length) : (btL row rooms ws hs forth).getD i 0 = hs.getD i 0 + (cnt row rooms ws hs forth).getD i 0 - (cnt row rooms ws hs forth).getD ((i + 1) % gts row rooms.length) 0 := by
  unfold btL ledL
  rw [vec_get (by rw [F.nh]; exact h), cnt_len, F.nw]
theorem gate_lt (F : Ft row rooms ws hs) {i : Nat} (h : i < rooms.length) : i < ws.length := by
  rw [F.nw]
  unfold gts
  split <;> omega
theorem Vd.next (F : Ft row rooms ws hs) (V : Vd rooms hs) (W : Wn ws) : Vd rooms (btL row rooms ws hs forth) := by
  have key : ∀ i, i < rooms.length → 0 ≤ (btL row rooms ws hs forth).getD i 0 ∧ (btL row rooms ws hs forth).getD i 0 ≤ rooms.getD i 0 := fun i hi => by
    have gi := gate_lt F hi
    have lk := lack_get (hs := hs) hi
    rw [bt_get F hi]
    cases forth with
    | true =>
      obtain ⟨p1, p2, p3⟩ := next_prev (row := row) (be := hs) hi F.nh
      have q : (i + 1) % gts row rooms.length < ws.length := by
        rw [F.nw]
        exact p3
      rw [cnt_get gi, cnt_get q]
      have a1 := gone_nn (row := row) (j := i) V.nn V.lack W F.nh lack_len F.n0
      have a2 := gone_nn (row := row) (j := (i + 1) % gts row rooms.length) V.nn V.lack W F.nh lack_len F.n0
      have a3 := gone_a (row := row) (be := hs) (ah := lackL rooms hs) (ws := ws) (j := i) (by rw [lack_len]; exact hi)
      have a4 := gone_b (row := row) (be := hs) (ah := lackL rooms hs) (ws := ws) p1
      rw [p2] at a4
      simp only [if_pos]
      omega
    | false =>
      obtain ⟨p1, p2, p3⟩ := next_prev (row := row) (be := lackL rooms hs) hi lack_len
      have q : (i + 1) % gts row rooms.length < ws.length := by
        rw [F.nw]
        exact p3
      rw [cnt_get gi, cnt_get q]
      have a1 := gone_nn (row := row) (j := i) V.lack V.nn W lack_len F.nh F.n0
      have a2 := gone_nn (row := row) (j := (i + 1) % gts row rooms.length) V.lack V.nn W lack_len F.nh F.n0
      have a3 := gone_a (row := row) (be := lackL rooms hs) (ah := hs) (ws := ws) (j := i) (by rw [F.nh]; exact hi)
      have a4 := gone_b (row := row) (be := lackL rooms hs) (ah := hs) (ws := ws) p1
      rw [p2] at a4
      simp only [Bool.false_eq_true, if_false]
      omega
  exact ⟨btL_len.trans F.nh, fun i hi => (key i hi).1, fun i hi => (key i hi).2⟩
end
end Kd
namespace Kd
open PySem PySem.Spec PyProof.Rows L2 Xg Dv
@[irreducible] def f__law_line_0 : FS := (sRet (eTup (dCons (eIf (fAnd (fTest (eBin (gC fun i j => decide (j < i)) (eVar 2) (eC (.int 1)))) (fTest (eBin gEq (eCall F_take (aBox 0 (aCons (eC (.int 3)) aNil))) (eC (.int 0))))) (eC (.str "ring")) (eC (.str "row"))) (dCons (eVar 3) dNil))))
def t__law_line_0 (K : PySem.W.Frag) : TS := (tRet (tTup (tCons (tIf (tAnd (tTest (tOp (rI0 fun i j => .bl (decide (j < i))) (tVar 2) (tC (.int 1)))) (tTest (tOp (rEqX K) (tCallG (spD K 1 F_take) (tCons (tVar 0) (tCons (tC (.int 3)) tNil))) (tC (.int 0))))) (tC (.str "ring")) (tC (.str "row"))) (tCons (tVar 3) tNil))))
theorem s__law_line_0 (K : PySem.W.Frag) : SndS K (t__law_line_0 K) 1 f__law_line_0 := by
  unfold f__law_line_0
  exact (snds_ret (snd_tup (sndd_cons (snd_if (sndt_and (sndt_test (snd_op ops_C snd_var snd_int)) (sndt_test (snd_op ops_eq (snd_call m_take (snda_box (snda_cons snd_int snda_nil))) snd_int))) snd_str snd_str) (sndd_cons snd_var sndd_nil)) (by decide)))
@[irreducible] def f__law_line_1 : FS := (sSeq (sAsg (eUn tupD (eL (fComp 100 (fRange1 (eVar 2)) [4] (gN 4) fYes (eBin gIx (eLst (dCons (eC (.int 1)) (dCons (eC (.int 2)) (dCons (eC (.int 3)) (dCons (eBin gAdd (eC (.int 1)) (eCall F_take (aBox 0 (aCons (eC (.int 9)) aNil)))) dNil))))) (eCall F_take (aBox 0 (aCons (eC (.int 4)) aNil))))))) (gN 3)) f__law_line_0)
def t__law_line_1 (K : PySem.W.Frag) : TS := (tSeq (tAsg (tThen (tLc (iRng1 (tCons (tVar 2) tNil)) (gName 4) tYes (tOp (rIx K) (tLst (tCons (tC (.int 1)) (tCons (tC (.int 2)) (tCons (tC (.int 3)) (tCons (tOp (rAdd K) (tC (.int 1)) (tCallG (spD K 1 F_take) (tCons (tVar 0) (tCons (tC (.int 9)) tNil)))) tNil))))) (tCallG (spD K 1 F_take) (tCons (tVar 0) (tCons (tC (.int 4)) tNil)))) [4]) (kTup K)) (gName 3)) (t__law_line_0 K))
theorem s__law_line_1 (K : PySem.W.Frag) : SndS K (t__law_line_1 K) 201 f__law_line_1 := by
  unfold f__law_line_1
  exact (snds_seq (snds_asg (vs := [3]) (snd_tupOf (SndL.d (sndl_comp (N := 100) (by decide) (sndi_range1 snd_var) (sndg_name (by decide)) sndt_yes (snd_op ops_ix (SndL.d (sndl_lst (sndd_cons snd_int (sndd_cons snd_int (sndd_cons snd_int (sndd_cons (snd_op ops_add snd_int (snd_call m_take (snda_box (snda_cons snd_int snda_nil)))) sndd_nil)))) (by decide))) (snd_call m_take (snda_box (snda_cons snd_int snda_nil))))))) (sndg_name (by decide))) (s__law_line_0 K))
def f__law_line : FS := (sSeq (sAsg (eBin gAdd (eC (.int 1)) (eCall F_take (aBox 0 (aCons (eVar 1) aNil)))) (gN 2)) f__law_line_1)
@[irreducible] def F__law_line : FF := mkF 2 5 f__law_line
def t__law_line (K : PySem.W.Frag) : TS := (tSeq (tAsg (tOp (rAdd K) (tC (.int 1)) (tCallG (spD K 1 F_take) (tCons (tVar 0) (tCons (tVar 1) tNil)))) (gName 2)) (t__law_line_1 K))
theorem s__law_line (K : PySem.W.Frag) : SndS K (t__law_line K) 202 f__law_line := (snds_seq (snds_asg (vs := [2]) (snd_op ops_add snd_int (snd_call m_take (snda_box (snda_cons snd_var snda_nil)))) (sndg_name (by decide))) (s__law_line_1 K))
theorem m__law_line (K : PySem.W.Frag) : MonoF F__law_line := by
  unfold F__law_line
  exact mkF_mono (s__law_line K)
end Kd
namespace Kd
open PySem PySem.Spec PyProof.Rows L2 Xg Dv
theorem ext_get {a b : List Int} (hl : a.length = b.length) (h : ∀ i, i < a.length → a.getD i 0 = b.getD i 0) : a = b := by
  rw [list_vec a, list_vec b, ← hl]
  exact vec_ext h
def ov {α : Type} (row : Bool) (l : List α) : List α := if row = true then l.reverse else l.take 1 ++ (l.drop 1).reverse
section
variable {α : Type} {row : Bool} {n j : Nat}
variable {be ah : List Int} {ws : List (Option Int)}
end
section
variable {row : Bool} {rooms hs cs : List Int} {ws : List (Option Int)} {f : Bool}
theorem gts_le {n : Nat} : n ≤ gts row n := by
  unfold gts
  split <;> omega
theorem ld_get {i : Nat} (h : i < hs.length) : (ledL hs cs).getD i 0 = hs.getD i 0 + cs.getD i 0 - cs.getD ((i + 1) % cs.length) 0 := vec_get h
theorem ld_len : (ledL hs cs).length = hs.length := vec_len
theorem add_len {a b : List Int} : (addL a b).length = a.length := vec_len
theorem add_get {a b : List Int} {i : Nat} (h : i < a.length) : (addL a b).getD i 0 = a.getD i 0 + b.getD i 0 := vec_get h
end
end Kd
namespace Kd
open PySem PySem.Spec PyProof.Rows L2 Xg Dv
end Kd
namespace Kd
open PySem PySem.Spec PyProof.Rows L2 Xg Dv
section
variable {row : Bool} {rooms hs cs : List Int} {ws : List (Option Int)} {f : Bool}
structure Rf (row : Bool) (n : Nat) (run : List (Bool × List (Option Int))) : Prop where
  len : ∀ s ∈ run, s.2.length = gts row n
  wn : ∀ s ∈ run, Wn s.2
end
theorem bools_all {α : Type} (xs : List α) : xs.map (fun _ => PyData.bool true) = (List.replicate xs.length true).map PyData.bool := by
  rw [List.map_const', List.map_replicate]
theorem all_true (n : Nat) : (List.replicate n true).all id = true := by
  rw [List.all_eq_true]
  intro x hx
  exact List.eq_of_mem_replicate hx
end Kd
namespace Kd
open PySem PySem.Spec PyProof.Rows L2 Xg Dv
section
variable {row : Bool} {rooms h0 x y : List Int} {ws : List (Option Int)}
structure Fth (row : Bool) (rooms h0 : List Int) (ws : List (Option Int)) (x y : List Int) : Prop where
  w : ∀ j a, j < gts row rooms.length → ws.getD j none = some a → y.getD j 0 - x.getD j 0 ≤ a
  b : ∀ i, i < rooms.length → y.getD ((i + 1) % gts row rooms.length) 0 ≤ x.getD i 0 + h0.getD i 0
  a : ∀ i, i < rooms.length → y.getD i 0 ≤ x.getD ((i + 1) % gts row rooms.length) 0 + (rooms.getD i 0 - h0.getD i 0)
theorem bin_of {n j : Nat} {be : List Int} (n0 : 0 < n) (lb : be.length = n) (hj : j < gts row n) (hc : ((!row) || decide (0 < j)) = true) : ∃ i, i < n ∧ (i + 1) % gts row n = j ∧ prev be j = be.getD i 0 := by
  have key : ∀ i, i < n → (i + 1) % gts row n = j → ∃ i, i < n ∧ (i + 1) % gts row n = j ∧ prev be j = be.getD i 0 := fun i hi e => by
    have z := (next_prev (row := row) hi lb).2.1
    rw [e] at z
    exact ⟨i, hi, e, z⟩
  cases row with
  | true =>
    have hj : j < n + 1 := hj
    have hc : (false || decide (0 < j)) = true := hc
    rw [Bool.false_or, decide_eq_true_eq] at hc
    exact key (j - 1) (by omega) (by show (j - 1 + 1) % (n + 1) = j; rw [Nat.mod_eq_of_lt (by omega)]; omega)
  | false =>
    have hj : j < n := hj
    by_cases z : j = 0
    · subst z
      exact key (n - 1) (by omega) (by show (n - 1 + 1) % n = 0; rw [show n - 1 + 1 = n by omega, Nat.mod_self])
    · exact key (j - 1) (by omega) (by show (j - 1 + 1) % n = j; rw [Nat.mod_eq_of_lt (by omega)]; omega)
theorem le_mn {l : List Int} {m : Int} (h : l ≠ []) : m ≤ mn l ↔ ∀ z ∈ l, m ≤ z := ⟨fun g z hz => Int.le_trans g (mn_le hz), fun g => g _ (mn_mem h)⟩
structure Fc (row : Bool) (rooms : List Int) (ws : List (Option Int)) (h0 x : List Int) : Prop where
  n0 : 0 < rooms.length
  lw : ws.length = gts row rooms.length
  lh : h0.length = rooms.length
  lx : x.length = gts row rooms.length
theorem st_get (F : Fc row rooms ws h0 x) {i : Nat} (hi : i < rooms.length) : (ledL h0 x).getD i 0 = h0.getD i 0 + x.getD i 0 - x.getD ((i + 1) % gts row rooms.length) 0 := by
  rw [ld_get (by rw [F.lh]; exact hi), F.lx]
theorem st_lack (F : Fc row rooms ws h0 x) {i : Nat} (hi : i < rooms.length) : (lackL rooms (ledL h0 x)).getD i 0 = rooms.getD i 0 - (h0.getD i 0 + x.getD i 0 - x.getD ((i + 1) % gts row rooms.length) 0) := by
  rw [lack_get hi, st_get F hi]
theorem forth_iff (F : Fc row rooms ws h0 x) : (∀ j, j < gts row rooms.length → y.getD j 0 ≤ x.getD j 0 + (cnt row rooms ws (ledL h0 x) true).getD j 0) ↔ Fth row rooms h0 ws x y := by
  have n0 := F.n0
  have lh : (ledL h0 x).length = rooms.length := by rw [ld_len, F.lh]
  have one : ∀ j, j < gts row rooms.length → (y.getD j 0 ≤ x.getD j 0 + (cnt row rooms ws (ledL h0 x) true).getD j 0 ↔ ∀ z ∈ bnd (!row) (ledL h0 x) (lackL rooms (ledL h0 x)) j (ws.getD j none), y.getD j 0 - x.getD j 0 ≤ z) := fun j hj => by
    rw [cnt_get (by rw [F.lw]; exact hj), if_pos rfl]
    unfold gone
    rw [← le_mn (bnd_ne (ws := ws) lh lack_len n0)]
    constructor <;> intro h <;> omega
  constructor
  · intro h
    refine ⟨fun j a hj e => ((one j hj).mp (h j hj)) a (mem_bnd.mpr (.inl e)), fun i hi => ?_, fun i hi => ?_⟩
    · obtain ⟨p1, p2, p3⟩ := next_prev (row := row) (be := ledL h0 x) hi lh
      have z := ((one _ p3).mp (h _ p3)) _ (mem_bnd.mpr (.inr (.inl ⟨p1, rfl⟩)))
      rw [p2, st_get F hi] at z
      omega
    · have hj : i < gts row rooms.length := Nat.lt_of_lt_of_le hi gts_le
      have z := ((one _ hj).mp (h _ hj)) _ (mem_bnd.mpr (.inr (.inr ⟨by rw [lack_len]; exact hi, rfl⟩)))
      rw [st_lack F hi] at z
      omega
  · intro f j hj
    refine (one j hj).mpr fun z hz => ?_
    rcases mem_bnd.mp hz with e | ⟨c, e⟩ | ⟨c, e⟩
    · exact f.w j z hj e
    · obtain ⟨i, hi, e1, e2⟩ := bin_of (row := row) n0 lh hj c
      have g := f.b i hi
      rw [e1] at g
      rw [e, e2, st_get F hi, e1]
      omega
    · rw [lack_len] at c
      have g := f.a j c
      rw [e, st_lack F c]
      omega
theorem back_iff (F : Fc row rooms ws h0 y) : (∀ j, j < gts row rooms.length → y.getD j 0 + (cnt row rooms ws (ledL h0 y) false).getD j 0 ≤ x.getD j 0) ↔ Fth row rooms h0 ws x y := by
  have n0 := F.n0
  have lh : (ledL h0 y).length = rooms.length := by rw [ld_len, F.lh]
  have one : ∀ j, j < gts row rooms.length → (y.getD j 0 + (cnt row rooms ws (ledL h0 y) false).getD j 0 ≤ x.getD j 0 ↔ ∀ z ∈ bnd (!row) (lackL rooms (ledL h0 y)) (ledL h0 y) j (ws.getD j none), y.getD j 0 - x.getD j 0 ≤ z) := fun j hj => by
    rw [cnt_get (by rw [F.lw]; exact hj), if_neg Bool.false_ne_true]
    unfold gone
    rw [← le_mn (bnd_ne (ws := ws) lack_len lh n0)]
    constructor <;> intro h <;> omega
  constructor
  · intro h
    refine ⟨fun j a hj e => ((one j hj).mp (h j hj)) a (mem_bnd.mpr (.inl e)), fun i hi => ?_, fun i hi => ?_⟩
    · have hj : i < gts row rooms.length := Nat.lt_of_lt_of_le hi gts_le
      have z := ((one _ hj).mp (h _ hj)) _ (mem_bnd.mpr (.inr (.inr ⟨by rw [lh]; exact hi, rfl⟩)))
      rw [st_get F hi] at z
      omega
    · obtain ⟨p1, p2, p3⟩ := next_prev (row := row) (be := lackL rooms (ledL h0 y)) hi lack_len
      have z := ((one _ p3).mp (h _ p3)) _ (mem_bnd.mpr (.inr (.inl ⟨p1, rfl⟩)))
      rw [p2, st_lack F hi] at z
      omega
  · intro f j hj
    refine (one j hj).mpr fun z hz => ?_
    rcases mem_bnd.mp hz with e | ⟨c, e⟩ | ⟨c, e⟩
    · exact f.w j z hj e
    · obtain ⟨i, hi, e1, e2⟩ := bin_of (row := row) (be := lackL rooms (ledL h0 y)) n0 lack_len hj c
      have g := f.a i hi
      rw [e1] at g
      rw [e, e2, st_lack F hi, e1]
      omega
    · rw [lh] at c
      have g := f.b j c
      rw [e, st_get F c]
      omega
def Le (n : Nat) (x y : List Int) : Prop := ∀ j, j < n → x.getD j 0 ≤ y.getD j 0
theorem Le.refl {n : Nat} {x : List Int} : Le n x x := fun _ _ => Int.le_refl _
theorem Le.trans {n : Nat} {x y z : List Int} (a : Le n x y) (b : Le n y z) : Le n x z := fun j h => Int.le_trans (a j h) (b j h)
theorem Le.anti {n : Nat} {x y : List Int} (lx : x.length = n) (ly : y.length = n) (a : Le n x y) (b : Le n y x) : x = y := ext_get (by rw [lx, ly]) fun i hi => Int.le_antisymm (a i (by omega)) (b i (by omega))
def runX (row : Bool) (rooms h0 : List Int) : List (Bool × List (Option Int)) → List Int → List Int
  | [], x => x
  | (b, ws) :: r, x => runX row rooms h0 r (addL x (cnt row rooms ws (ledL h0 x) b))
theorem runX_len : ∀ {run : List (Bool × List (Option Int))} {x : List Int}, (runX row rooms h0 run x).length = x.length
  | [], x => rfl
  | (b, ws) :: r, x => by
    unfold runX
    rw [runX_len, add_len]
theorem runX_app : ∀ {r1 r2 : List (Bool × List (Option Int))} {x : List Int}, runX row rooms h0 (r1 ++ r2) x = runX row rooms h0 r2 (runX row rooms h0 r1 x)
  | [], r2, x => rfl
  | (b, ws) :: r, r2, x => by
    show runX row rooms h0 (r ++ r2) (addL x (cnt row rooms ws (ledL h0 x) b)) = _
    rw [runX_app]
    rfl
def tb (run : List (Bool × List (Option Int))) : List (Bool × List (Option Int)) := run.reverse.map fun s => (!s.1, s.2)
theorem tb_cons {s : Bool × List (Option Int)} {r : List (Bool × List (Option Int))} : tb (s :: r) = tb r ++ [(!s.1, s.2)] := by
  unfold tb
  rw [List.reverse_cons, List.map_append]
  rfl
theorem add_le {n : Nat} {a b c : List Int} (la : a.length = n) : Le n c (addL a b) ↔ ∀ j, j < n → c.getD j 0 ≤ a.getD j 0 + b.getD j 0 := by
  unfold Le
  constructor
  · intro h j hj
    have z := h j hj
    rw [add_get (by omega)] at z
    exact z
  · intro h j hj
    rw [add_get (by omega)]
    exact h j hj
theorem le_add {n : Nat} {a b c : List Int} (la : a.length = n) : Le n (addL a b) c ↔ ∀ j, j < n → a.getD j 0 + b.getD j 0 ≤ c.getD j 0 := by
  unfold Le
  constructor
  · intro h j hj
    have z := h j hj
    rw [add_get (by omega)] at z
    exact z
  · intro h j hj
    rw [add_get (by omega)]
    exact h j hj
theorem mates (n0 : 0 < rooms.length) (lh : h0.length = rooms.length) : ∀ (run : List (Bool × List (Option Int))) (x y : List Int), (∀ s ∈ run, s.1 = true ∧ s.2.length = gts row rooms.length) → x.length = gts row rooms.length → y.length = gts row rooms.length →
    (Le (gts row rooms.length) y (runX row rooms h0 run x) ↔ Le (gts row rooms.length) (runX row rooms h0 (tb run) y) x)
  | [], x, y, _, _, _ => Iff.rfl
  | (b, ws) :: r, x, y, hr, lx, ly => by
    obtain ⟨hb, lw⟩ := hr _ (List.mem_cons_self ..)
    have hb : b = true := hb
    subst hb
    have lw : ws.length = gts row rooms.length := lw
    have lx' : (addL x (cnt row rooms ws (ledL h0 x) true)).length = gts row rooms.length := by rw [add_len, lx]
    have ih := mates n0 lh r (addL x (cnt row rooms ws (ledL h0 x) true)) y (fun s m => hr s (List.mem_cons_of_mem _ m)) lx' ly
    have lv : (runX row rooms h0 (tb r) y).length = gts row rooms.length := by rw [runX_len, ly]
    rw [tb_cons, runX_app]
    show Le _ y (runX row rooms h0 r (addL x (cnt row rooms ws (ledL h0 x) true))) ↔ Le _ (addL (runX row rooms h0 (tb r) y) (cnt row rooms ws (ledL h0 (runX row rooms h0 (tb r) y)) false)) x
    rw [ih, add_le lx, le_add lv, forth_iff ⟨n0, lw, lh, lx⟩, back_iff ⟨n0, lw, lh, lv⟩]
end
end Kd
namespace Kd
open PySem PySem.Spec PyProof.Rows L2 Xg Dv
theorem ints_ex {R : Int → Prop} : ∀ {ys : List PyData}, (∀ y ∈ ys, ∃ x, y = .int x ∧ R x) → ∃ ns : List Int, ys = ns.map PyData.int ∧ ∀ x ∈ ns, R x
  | [], _ => ⟨[], rfl, fun x h => nomatch h⟩
  | y :: ys, h => by
    obtain ⟨x, rfl, hx⟩ := h y (List.mem_cons_self ..)
    obtain ⟨ns, rfl, hn⟩ := ints_ex fun z hz => h z (List.mem_cons_of_mem _ hz)
    refine ⟨x :: ns, rfl, fun z hz => ?_⟩
    rcases List.mem_cons.mp hz with rfl | hz
    · exact hx
    · exact hn z hz
def Rm (rooms : List Int) : Prop := ∀ x ∈ rooms, 1 ≤ x ∧ x ≤ 1000000000
def Dr (w : Option Int) : Prop := ∀ x, w = some x → 0 ≤ x ∧ x ≤ 1000000000
theorem dr_none : Dr none := fun x e => nomatch e
theorem dr_some {i : Int} (h : 0 ≤ i ∧ i ≤ 1000000000) : Dr (some i) := fun x e => by
  cases e
  exact h
def Dw (ws : List (Option Int)) : Prop := ∀ w ∈ ws, Dr w
theorem Dw.wn {ws : List (Option Int)} (h : Dw ws) : Wn ws := fun j x e => by
  rw [List.getD_eq_getElem?_getD] at e
  cases z : ws[j]? with
  | none => rw [z] at e; cases e
  | some w =>
    rw [z] at e
    exact (h w (List.mem_of_getElem? z) x e).1
structure Ln (row : Bool) (rooms : List Int) (most : Nat) : Prop where
  n0 : 0 < rooms.length
  n2 : row = false → 2 ≤ rooms.length
  nz : rooms.length ≤ most
  rm : Rm rooms
theorem size_of {row : Bool} {rooms : List Int} {Q : PyData → Prop} (q : Q (.int (gts row rooms.length : Nat))) : Q (.int (((rooms.map PyData.int).length : Nat) + (if decide (fm row = "row") = true then 1 else 0))) := by
  rw [fm_row, len_i]
  cases row with
  | true => exact q
  | false => exact q
theorem vd_of {rooms hs : List Int} (hl : hs.length = rooms.length) (h : ∀ i, i < rooms.length → 0 ≤ hs.getD i 0 ∧ hs.getD i 0 ≤ rooms.getD i 0) : Vd rooms hs := ⟨hl, fun i hi => (h i hi).1, fun i hi => (h i hi).2⟩
inductive All2 {α β : Type} (R : α → β → Prop) : List α → List β → Prop
  | nil : All2 R [] []
  | cons {a : α} {b : β} {as : List α} {bs : List β} : R a b → All2 R as bs → All2 R (a :: as) (b :: bs)
theorem vd_all : ∀ {rooms hs : List Int}, All2 (fun r h => 0 ≤ h ∧ h ≤ r) rooms hs → Vd rooms hs
  | _, _, .nil => ⟨rfl, fun i hi => absurd hi (Nat.not_lt_zero _), fun i hi => absurd hi (Nat.not_lt_zero _)⟩
  | r :: rooms, h :: hs, .cons a b => by
    have v := vd_all b
    refine vd_of (by rw [List.length_cons, List.length_cons, v.len]) fun i hi => ?_
    cases i with
    | zero => exact a
    | succ i => exact ⟨v.lo i (by rw [List.length_cons] at hi; omega), v.hi i (by rw [List.length_cons] at hi; omega)⟩
end Kd
namespace Kd
open PySem PySem.Spec PyProof.Rows L2 Xg Dv
end Kd
namespace Kd
open PySem PySem.Spec PyProof.Rows L2 Xg Dv
def pre (hs ks : List Int) (j : Nat) : Int := (vec j fun i => hs.getD i 0 - ks.getD i 0).sum
def btw (row : Bool) (n : Nat) (hs ks : List Int) : List Int := vec (gts row n) (pre hs ks)
end Kd
namespace Kd
open PySem PySem.Spec PyProof.Rows L2 Xg Dv
section
variable {k k1 k2 row : Bool} {rooms hs ks : List Int} {Q : PyData → Prop}
end
end Kd
namespace Kd
open PySem PySem.Spec PyProof.Rows L2 Xg Dv
section
variable {row : Bool} {rooms h0 : List Int} {run : List (Bool × List (Option Int))}
def subL (a b : List Int) : List Int := vec a.length fun i => a.getD i 0 - b.getD i 0
end
end Kd
namespace Kd
open PySem PySem.Spec PyProof.Rows L2 Xg Dv
section
variable {row : Bool} {rooms h0 hs ks x y : List Int}
structure Pr (row : Bool) (rooms hs ks : List Int) : Prop where
  lh : hs.length = rooms.length
  lk : ks.length = rooms.length
  sm : row = false → hs.sum = ks.sum
structure Two2 (row : Bool) (rooms hs ks : List Int) (run : List (Bool × List (Option Int))) (hs' ks' X Y : List Int) : Prop where
  eh : hs' = ledL hs X
  ek : ks' = ledL hs Y
  lX : X.length = gts row rooms.length
  lY : Y.length = gts row rooms.length
  e1 : ledR row rooms run hs (vec (gts row rooms.length) fun _ => 0) = (hs', X)
  e2 : ledR row rooms run ks (vec (gts row rooms.length) fun _ => 0) = (ks', subL Y (btw row rooms.length hs ks))
  pr : Pr row rooms hs' ks'
  rng : ∀ a b, (∀ j, j < gts row rooms.length → a ≤ (btw row rooms.length hs ks).getD j 0 ∧ (btw row rooms.length hs ks).getD j 0 ≤ b) → ∀ j, j < gts row rooms.length → a ≤ Y.getD j 0 - X.getD j 0 ∧ Y.getD j 0 - X.getD j 0 ≤ b
  dif : btw row rooms.length hs' ks' = vec (gts row rooms.length) fun j => (Y.getD j 0 - X.getD j 0) - (Y.getD 0 0 - X.getD 0 0)
end
end Kd
namespace Kd
open PySem PySem.Spec PyProof.Rows L2 Xg Dv
end Kd
namespace Kc
open PySem PySem.Spec PyProof.Rows L2 Xg Dv Kd
abbrev F_take : FF := Ke.F_take
theorem m_take : MonoF F_take := Ke.m_take
def f__law_pick : FS := (sRet (eBin gIx (eVar 1) (eCall F_take (aBox 0 (aCons (eCB (g1 lenD) (dCons (eVar 1) dNil)) aNil)))))
@[irreducible] def F__law_pick : FF := mkF 2 2 f__law_pick
def t__law_pick (K : PySem.W.Frag) : TS := (tRet (tOp (rIx K) (tVar 1) (tCallG (spD K 1 F_take) (tCons (tVar 0) (tCons (tCB (fun xs H Q => ∃ x n, xs = [x] ∧ LenV K x H n ∧ Q (.int n) H) (tCons (tVar 1) tNil)) tNil)))))
theorem s__law_pick (K : PySem.W.Frag) : SndS K (t__law_pick K) 1 f__law_pick := (snds_ret (snd_op ops_ix snd_var (snd_call m_take (snda_box (snda_cons (snd_cb cs_len (sndd_cons snd_var sndd_nil)) snda_nil)))))
theorem m__law_pick (K : PySem.W.Frag) : MonoF F__law_pick := by
  unfold F__law_pick
  exact mkF_mono (s__law_pick K)
@[irreducible] def f__law_line_0 : FS := (sRet (eTup (dCons (eVar 3) (dCons (eUn tupD (eL (fComp 100 (fRange1 (eBin gAdd (eVar 4) (eCall F_take (aBox 0 (aCons (eBin (gI fun i j => i - j) (eBin gAdd (eVar 1) (eC (.int 1))) (eVar 4)) aNil))))) [6] (gN 6) fYes (eBin gAdd (eC (.int 1)) (eCall F_take (aBox 0 (aCons (eVar 5) aNil))))))) dNil))))
def t__law_line_0 (K : PySem.W.Frag) : TS := (tRet (tTup (tCons (tVar 3) (tCons (tThen (tLc (iRng1 (tCons (tOp (rAdd K) (tVar 4) (tCallG (spD K 1 F_take) (tCons (tVar 0) (tCons (tOp (rI0 fun i j => .int (i - j)) (tOp (rAdd K) (tVar 1) (tC (.int 1))) (tVar 4)) tNil)))) tNil)) (gName 6) tYes (tOp (rAdd K) (tC (.int 1)) (tCallG (spD K 1 F_take) (tCons (tVar 0) (tCons (tVar 5) tNil)))) [6]) (kTup K)) tNil))))
theorem s__law_line_0 (K : PySem.W.Frag) : SndS K (t__law_line_0 K) 101 f__law_line_0 := by
  unfold f__law_line_0
  exact (snds_ret (snd_tup (sndd_cons snd_var (sndd_cons (snd_tupOf (SndL.d (sndl_comp (N := 100) (by decide) (sndi_range1 (snd_op ops_add snd_var (snd_call m_take (snda_box (snda_cons (snd_op ops_I (snd_op ops_add snd_var snd_int) snd_var) snda_nil))))) (sndg_name (by decide)) sndt_yes (snd_op ops_add snd_int (snd_call m_take (snda_box (snda_cons snd_var snda_nil))))))) sndd_nil)) (by decide)))
@[irreducible] def f__law_line_1 : FS := (sSeq (sAsg (eCall F__law_pick (aBox 0 (aCons (eLst (dCons (eC (.int 1)) (dCons (eC (.int 2)) (dCons (eC (.int 3)) (dCons (eVar 2) (dCons (eVar 2) dNil)))))) aNil))) (gN 5)) f__law_line_0)
def t__law_line_1 (K : PySem.W.Frag) : TS := (tSeq (tAsg (tCallG (spD K 1 F__law_pick) (tCons (tVar 0) (tCons (tLst (tCons (tC (.int 1)) (tCons (tC (.int 2)) (tCons (tC (.int 3)) (tCons (tVar 2) (tCons (tVar 2) tNil)))))) tNil))) (gName 5)) (t__law_line_0 K))
theorem s__law_line_1 (K : PySem.W.Frag) : SndS K (t__law_line_1 K) 102 f__law_line_1 := by
  unfold f__law_line_1
  exact (snds_seq (snds_asg (vs := [5]) (snd_call (m__law_pick K) (snda_box (snda_cons (SndL.d (sndl_lst (sndd_cons snd_int (sndd_cons snd_int (sndd_cons snd_int (sndd_cons snd_var (sndd_cons snd_var sndd_nil))))) (by decide))) snda_nil))) (sndg_name (by decide))) (s__law_line_0 K))
@[irreducible] def f__law_line_2 : FS := (sSeq (sAsg (eBin gAdd (eC (.int 1)) (eCB (g1 intD) (dCons (eBin gEq (eVar 3) (eC (.str "ring"))) dNil))) (gN 4)) f__law_line_1)
def t__law_line_2 (K : PySem.W.Frag) : TS := (tSeq (tAsg (tOp (rAdd K) (tC (.int 1)) (tCB (fun xs H Q => (∃ i, xs = [.int i] ∧ Q (.int i) H) ∨ ∃ k, xs = [.bl k] ∧ Q (.int (if k then 1 else 0)) H) (tCons (tOp (rEqX K) (tVar 3) (tC (.str "ring"))) tNil))) (gName 4)) (t__law_line_1 K))
theorem s__law_line_2 (K : PySem.W.Frag) : SndS K (t__law_line_2 K) 102 f__law_line_2 := by
  unfold f__law_line_2
  exact (snds_seq (snds_asg (vs := [4]) (snd_op ops_add snd_int (snd_cb cs_int (sndd_cons (snd_op ops_eq snd_var snd_str) sndd_nil))) (sndg_name (by decide))) (s__law_line_1 K))
def f__law_line : FS := (sSeq (sAsg (eCall F__law_pick (aBox 0 (aCons (eLst (dCons (eC (.str "row")) (dCons (eC (.str "row")) (dCons (eC (.str "ring")) dNil)))) aNil))) (gN 3)) f__law_line_2)
@[irreducible] def F__law_line : FF := mkF 3 7 f__law_line
def t__law_line (K : PySem.W.Frag) : TS := (tSeq (tAsg (tCallG (spD K 1 F__law_pick) (tCons (tVar 0) (tCons (tLst (tCons (tC (.str "row")) (tCons (tC (.str "row")) (tCons (tC (.str "ring")) tNil)))) tNil))) (gName 3)) (t__law_line_2 K))
theorem s__law_line (K : PySem.W.Frag) : SndS K (t__law_line K) 103 f__law_line := (snds_seq (snds_asg (vs := [3]) (snd_call (m__law_pick K) (snda_box (snda_cons (SndL.d (sndl_lst (sndd_cons snd_str (sndd_cons snd_str (sndd_cons snd_str sndd_nil))) (by decide))) snda_nil))) (sndg_name (by decide))) (s__law_line_2 K))
theorem m__law_line (K : PySem.W.Frag) : MonoF F__law_line := by
  unfold F__law_line
  exact mkF_mono (s__law_line K)
def f__law_gates : FS := (sRet (eBin gAdd (eCB (g1 lenD) (dCons (eBin gIx (eVar 0) (eC (.int 1))) dNil)) (eCB (g1 intD) (dCons (eBin gEq (eBin gIx (eVar 0) (eC (.int 0))) (eC (.str "row"))) dNil))))
@[irreducible] def F__law_gates : FF := mkF 1 1 f__law_gates
def t__law_gates (K : PySem.W.Frag) : TS := (tRet (tOp (rAdd K) (tCB (fun xs H Q => ∃ x n, xs = [x] ∧ LenV K x H n ∧ Q (.int n) H) (tCons (tOp (rIx K) (tVar 0) (tC (.int 1))) tNil)) (tCB (fun xs H Q => (∃ i, xs = [.int i] ∧ Q (.int i) H) ∨ ∃ k, xs = [.bl k] ∧ Q (.int (if k then 1 else 0)) H) (tCons (tOp (rEqX K) (tOp (rIx K) (tVar 0) (tC (.int 0))) (tC (.str "row"))) tNil))))
theorem s__law_gates (K : PySem.W.Frag) : SndS K (t__law_gates K) 0 f__law_gates := (snds_ret (snd_op ops_add (snd_cb cs_len (sndd_cons (snd_op ops_ix snd_var snd_int) sndd_nil)) (snd_cb cs_int (sndd_cons (snd_op ops_eq (snd_op ops_ix snd_var snd_int) snd_str) sndd_nil))))
theorem m__law_gates (K : PySem.W.Frag) : MonoF F__law_gates := by
  unfold F__law_gates
  exact mkF_mono (s__law_gates K)
@[irreducible] def f__law_widths_0 : FS := (sApp 4 (eIf (fOr (fTest (eBin gIs (eVar 6) (eC .none))) (fTest (eBin (gC fun i j => decide (i < j)) (eVar 6) (eC (.int 3))))) (eVar 6) (eBin gAdd (eC (.int 1)) (eCall F_take (aBox 0 (aCons (eVar 6) aNil))))))
def t__law_widths_0 (K : PySem.W.Frag) : TS := (tDrop (tBM K "list" rAppend (tVar 4) (tCons (tIf (tOr (tTest (tOp (fun x y H Q => y = .non ∧ Q (.bl (decide (x = .non))) H) (tVar 6) (tC .non))) (tTest (tOp (rI0 fun i j => .bl (decide (i < j))) (tVar 6) (tC (.int 3))))) (tVar 6) (tOp (rAdd K) (tC (.int 1)) (tCallG (spD K 1 F_take) (tCons (tVar 0) (tCons (tVar 6) tNil))))) tNil)))
theorem s__law_widths_0 (K : PySem.W.Frag) : SndS K (t__law_widths_0 K) 1 f__law_widths_0 := by
  unfold f__law_widths_0
  exact (snds_app (snd_if (sndt_or (sndt_test (snd_op ops_is snd_var snd_non)) (sndt_test (snd_op ops_C snd_var snd_int))) snd_var (snd_op ops_add snd_int (snd_call m_take (snda_box (snda_cons snd_var snda_nil))))))
@[irreducible] def f__law_widths_1 : FS := (sRet (eUn tupD (eVarV 4)))
def t__law_widths_1 (K : PySem.W.Frag) : TS := (tRet (tThen (tVar 4) (kTup K)))
theorem s__law_widths_1 (K : PySem.W.Frag) : SndS K (t__law_widths_1 K) 0 f__law_widths_1 := by
  unfold f__law_widths_1
  exact (snds_ret (snd_tupOf sndV_var))
@[irreducible] def f__law_widths_2 : FS := (sSeq (sIf (fAnd (fTest (eBin gEq (eBin gIx (eVar 1) (eC (.int 0))) (eC (.str "row")))) (fTest (eBin gEq (eCall F_take (aBox 0 (aCons (eC (.int 2)) aNil))) (eC (.int 0))))) (sOwn (fCat (eBin gAdd (eLst (dCons (eC (.int 0)) dNil)) (eSl (eVarV 4) (oSome (eC (.int 1))) (oSome (eUn negD (eC (.int 1)))))) (eLst (dCons (eC (.int 0)) dNil))) 4) sSkip) f__law_widths_1)
def t__law_widths_2 (K : PySem.W.Frag) : TS := (tSeq (tIfS (tAnd (tTest (tOp (rEqX K) (tOp (rIx K) (tVar 1) (tC (.int 0))) (tC (.str "row")))) (tTest (tOp (rEqX K) (tCallG (spD K 1 F_take) (tCons (tVar 0) (tCons (tC (.int 2)) tNil))) (tC (.int 0))))) (tAsg (tOp rCat (tOp (rAdd K) (tLst (tCons (tC (.int 0)) tNil)) (tSl (rSlX K) (tVar 4) (tPart (tC (.int 1))) (tPart (tUn (rU fun i => .int (-i)) (tC (.int 1)))))) (tLst (tCons (tC (.int 0)) tNil))) (gName 4)) tNext) (t__law_widths_1 K))
theorem s__law_widths_2 (K : PySem.W.Frag) : SndS K (t__law_widths_2 K) 1 f__law_widths_2 := by
  unfold f__law_widths_2
  exact (snds_seq (snds_if (sndt_and (sndt_test (snd_op ops_eq (snd_op ops_ix snd_var snd_int) snd_str)) (sndt_test (snd_op ops_eq (snd_call m_take (snda_box (snda_cons snd_int snda_nil))) snd_int))) (snds_own (sndl_cat (snd_op ops_add (SndL.d (sndl_lst (sndd_cons snd_int sndd_nil) (by decide))) (snd_sl sndV_var (sndo_some snd_int) (sndo_some (snd_un us_neg snd_int)))) (SndL.d (sndl_lst (sndd_cons snd_int sndd_nil) (by decide))))) snds_nil) (s__law_widths_1 K))
@[irreducible] def f__law_widths_3 : FS := (sSeq (sFor 100 (fRange1 (eCall F__law_gates (aCons (eVar 1) aNil))) (gN 5) (sSeq (sAsg (eCall F__law_pick (aBox 0 (aCons (eVar 3) aNil))) (gN 6)) f__law_widths_0)) f__law_widths_2)
def t__law_widths_3 (K : PySem.W.Frag) : TS := (tSeq (tFor (iRng1 (tCons (tCallG (spD K 0 F__law_gates) (tCons (tVar 1) tNil)) tNil)) (gName 5) (tSeq (tAsg (tCallG (spD K 1 F__law_pick) (tCons (tVar 0) (tCons (tVar 3) tNil))) (gName 6)) (t__law_widths_0 K))) (t__law_widths_2 K))
theorem s__law_widths_3 (K : PySem.W.Frag) : SndS K (t__law_widths_3 K) 201 f__law_widths_3 := by
  unfold f__law_widths_3
  exact (snds_seq (snds_for (vs := [5]) (N := 100) (sndi_range1 (snd_call (m__law_gates K) (snda_cons snd_var snda_nil))) (sndg_name (by decide)) (snds_seq (snds_asg (vs := [6]) (snd_call (m__law_pick K) (snda_box (snda_cons snd_var snda_nil))) (sndg_name (by decide))) (s__law_widths_0 K))) (s__law_widths_2 K))
@[irreducible] def f__law_widths_4 : FS := (sSeq (sOwn dNil 4) f__law_widths_3)
def t__law_widths_4 (K : PySem.W.Frag) : TS := (tSeq (tAsg (tLst tNil) (gName 4)) (t__law_widths_3 K))
theorem s__law_widths_4 (K : PySem.W.Frag) : SndS K (t__law_widths_4 K) 201 f__law_widths_4 := by
  unfold f__law_widths_4
  exact (snds_seq (snds_own (sndl_lst sndd_nil (by decide))) (s__law_widths_3 K))
def f__law_widths : FS := (sSeq (sAsg (eCall F__law_pick (aBox 0 (aCons (eLst (dCons (eLst (dCons (eC .none) dNil)) (dCons (eLst (dCons (eC .none) (dCons (eC .none) (dCons (eVar 2) dNil)))) (dCons (eLst (dCons (eVar 2) dNil)) (dCons (eLst (dCons (eC (.int 0)) (dCons (eC (.int 1)) (dCons (eVar 2) (dCons (eC .none) dNil))))) (dCons (eLst (dCons (eC (.int 1)) (dCons (eC (.int 2)) (dCons (eVar 2) dNil)))) dNil)))))) aNil))) (gN 3)) f__law_widths_4)
@[irreducible] def F__law_widths : FF := mkF 3 7 f__law_widths
def t__law_widths (K : PySem.W.Frag) : TS := (tSeq (tAsg (tCallG (spD K 1 F__law_pick) (tCons (tVar 0) (tCons (tLst (tCons (tLst (tCons (tC .non) tNil)) (tCons (tLst (tCons (tC .non) (tCons (tC .non) (tCons (tVar 2) tNil)))) (tCons (tLst (tCons (tVar 2) tNil)) (tCons (tLst (tCons (tC (.int 0)) (tCons (tC (.int 1)) (tCons (tVar 2) (tCons (tC .non) tNil))))) (tCons (tLst (tCons (tC (.int 1)) (tCons (tC (.int 2)) (tCons (tVar 2) tNil)))) tNil)))))) tNil))) (gName 3)) (t__law_widths_4 K))
theorem s__law_widths (K : PySem.W.Frag) : SndS K (t__law_widths K) 202 f__law_widths := (snds_seq (snds_asg (vs := [3]) (snd_call (m__law_pick K) (snda_box (snda_cons (SndL.d (sndl_lst (sndd_cons (SndL.d (sndl_lst (sndd_cons snd_non sndd_nil) (by decide))) (sndd_cons (SndL.d (sndl_lst (sndd_cons snd_non (sndd_cons snd_non (sndd_cons snd_var sndd_nil))) (by decide))) (sndd_cons (SndL.d (sndl_lst (sndd_cons snd_var sndd_nil) (by decide))) (sndd_cons (SndL.d (sndl_lst (sndd_cons snd_int (sndd_cons snd_int (sndd_cons snd_var (sndd_cons snd_non sndd_nil)))) (by decide))) (sndd_cons (SndL.d (sndl_lst (sndd_cons snd_int (sndd_cons snd_int (sndd_cons snd_var sndd_nil))) (by decide))) sndd_nil))))) (by decide))) snda_nil))) (sndg_name (by decide))) (s__law_widths_4 K))
theorem m__law_widths (K : PySem.W.Frag) : MonoF F__law_widths := by
  unfold F__law_widths
  exact mkF_mono (s__law_widths K)
@[irreducible] def f__law_lying_0 : FS := (sRet (eUn tupD (eVarV 3)))
def t__law_lying_0 (K : PySem.W.Frag) : TS := (tRet (tThen (tVar 3) (kTup K)))
theorem s__law_lying_0 (K : PySem.W.Frag) : SndS K (t__law_lying_0 K) 0 f__law_lying_0 := by
  unfold f__law_lying_0
  exact (snds_ret (snd_tupOf sndV_var))
@[irreducible] def f__law_lying_1 : FS := (sSeq (sFor 100 (fIt (eBin gIx (eVar 1) (eC (.int 1)))) (gN 4) (sApp 3 (eCall F__law_pick (aBox 0 (aCons (eSl (eLst (dCons (eC (.int 0)) (dCons (eVar 4) (dCons (eCall F_take (aBox 0 (aCons (eBin gAdd (eVar 4) (eC (.int 1))) aNil))) dNil)))) oNone (oSome (eBin gAdd (eC (.int 1)) (eCall F__law_pick (aBox 0 (aCons (eVar 2) aNil)))))) aNil))))) f__law_lying_0)
def t__law_lying_1 (K : PySem.W.Frag) : TS := (tSeq (tFor (Pw.iSeq K (tOp (rIx K) (tVar 1) (tC (.int 1)))) (gName 4) (tDrop (tBM K "list" rAppend (tVar 3) (tCons (tCallG (spD K 1 F__law_pick) (tCons (tVar 0) (tCons (tSl (rSlX K) (tLst (tCons (tC (.int 0)) (tCons (tVar 4) (tCons (tCallG (spD K 1 F_take) (tCons (tVar 0) (tCons (tOp (rAdd K) (tVar 4) (tC (.int 1))) tNil))) tNil)))) tNoPart (tPart (tOp (rAdd K) (tC (.int 1)) (tCallG (spD K 1 F__law_pick) (tCons (tVar 0) (tCons (tVar 2) tNil)))))) tNil))) tNil)))) (t__law_lying_0 K))
theorem s__law_lying_1 (K : PySem.W.Frag) : SndS K (t__law_lying_1 K) 300 f__law_lying_1 := by
  unfold f__law_lying_1
  exact (snds_seq (snds_for (vs := [4]) (N := 100) (sndi_seq (snd_op ops_ix snd_var snd_int)) (sndg_name (by decide)) (snds_app (snd_call (m__law_pick K) (snda_box (snda_cons (snd_sl (SndL.d (sndl_lst (sndd_cons snd_int (sndd_cons snd_var (sndd_cons (snd_call m_take (snda_box (snda_cons (snd_op ops_add snd_var snd_int) snda_nil))) sndd_nil))) (by decide))) sndo_none (sndo_some (snd_op ops_add snd_int (snd_call (m__law_pick K) (snda_box (snda_cons snd_var snda_nil)))))) snda_nil))))) (s__law_lying_0 K))
@[irreducible] def f__law_lying_2 : FS := (sSeq (sOwn dNil 3) f__law_lying_1)
def t__law_lying_2 (K : PySem.W.Frag) : TS := (tSeq (tAsg (tLst tNil) (gName 3)) (t__law_lying_1 K))
theorem s__law_lying_2 (K : PySem.W.Frag) : SndS K (t__law_lying_2 K) 300 f__law_lying_2 := by
  unfold f__law_lying_2
  exact (snds_seq (snds_own (sndl_lst sndd_nil (by decide))) (s__law_lying_1 K))
def f__law_lying : FS := (sSeq (sAsg (eCall F__law_pick (aBox 0 (aCons (eLst (dCons (eLst (dCons (eC (.int 0)) (dCons (eC (.int 1)) (dCons (eC (.int 2)) dNil)))) (dCons (eLst (dCons (eC (.int 2)) dNil)) (dCons (eLst (dCons (eC (.int 2)) dNil)) (dCons (eLst (dCons (eC (.int 0)) (dCons (eC (.int 2)) dNil))) (dCons (eLst (dCons (eC (.int 1)) (dCons (eC (.int 2)) dNil))) dNil)))))) aNil))) (gN 2)) f__law_lying_2)
@[irreducible] def F__law_lying : FF := mkF 2 5 f__law_lying
def t__law_lying (K : PySem.W.Frag) : TS := (tSeq (tAsg (tCallG (spD K 1 F__law_pick) (tCons (tVar 0) (tCons (tLst (tCons (tLst (tCons (tC (.int 0)) (tCons (tC (.int 1)) (tCons (tC (.int 2)) tNil)))) (tCons (tLst (tCons (tC (.int 2)) tNil)) (tCons (tLst (tCons (tC (.int 2)) tNil)) (tCons (tLst (tCons (tC (.int 0)) (tCons (tC (.int 2)) tNil))) (tCons (tLst (tCons (tC (.int 1)) (tCons (tC (.int 2)) tNil))) tNil)))))) tNil))) (gName 2)) (t__law_lying_2 K))
theorem s__law_lying (K : PySem.W.Frag) : SndS K (t__law_lying K) 301 f__law_lying := (snds_seq (snds_asg (vs := [2]) (snd_call (m__law_pick K) (snda_box (snda_cons (SndL.d (sndl_lst (sndd_cons (SndL.d (sndl_lst (sndd_cons snd_int (sndd_cons snd_int (sndd_cons snd_int sndd_nil))) (by decide))) (sndd_cons (SndL.d (sndl_lst (sndd_cons snd_int sndd_nil) (by decide))) (sndd_cons (SndL.d (sndl_lst (sndd_cons snd_int sndd_nil) (by decide))) (sndd_cons (SndL.d (sndl_lst (sndd_cons snd_int (sndd_cons snd_int sndd_nil)) (by decide))) (sndd_cons (SndL.d (sndl_lst (sndd_cons snd_int (sndd_cons snd_int sndd_nil)) (by decide))) sndd_nil))))) (by decide))) snda_nil))) (sndg_name (by decide))) (s__law_lying_2 K))
theorem m__law_lying (K : PySem.W.Frag) : MonoF F__law_lying := by
  unfold F__law_lying
  exact mkF_mono (s__law_lying K)
end Kc
namespace Dv
open PySem PySem.Spec PyProof.Rows L2 Xg
section
variable {K : PySem.W.Frag} {md : Bool} {ta tb : TE} {ca cb : Nat} {fa fb : FE}
end
end Dv
namespace Dv
open PySem PySem.Spec PyProof.Rows L2 Xg
section
variable {K : PySem.W.Frag} {md : Bool} {ta tb : TE} {ca cb : Nat} {fa fb : FE}
end
end Dv
namespace Dv
open PySem PySem.Spec PyProof.Rows L2 Xg
section
variable {X : Cx}
end
section
variable {K : PySem.W.Frag} {md : Bool} {ta tb : TE} {ca cb : Nat} {fa fb : FE}
end
end Dv
namespace Dv
open PySem PySem.Spec PyProof.Rows L2 Xg NdefX
open Classical
noncomputable def offC (cs : List Addr) (H : Hp) : Hp := fun a => if a ∈ cs then none else H a
theorem offC_in {cs : List Addr} {H : Hp} {a : Addr} (h : a ∈ cs) : offC cs H a = none := if_pos h
theorem offC_out {cs : List Addr} {H : Hp} {a : Addr} (h : a ∉ cs) : offC cs H a = H a := if_neg h
theorem offC_some {cs : List Addr} {H : Hp} {a : Addr} {o : HO} (h : offC cs H a = some o) : a ∉ cs ∧ H a = some o := by
  unfold offC at h
  split at h
  · cases h
  · exact ⟨by assumption, h⟩
theorem offC_none {cs : List Addr} {H : Hp} {a : Addr} (h : H a = none) : offC cs H a = none := by
  unfold offC
  split
  · rfl
  · exact h
def Cells (cs : List Addr) (H : Hp) : Prop := ∀ c ∈ cs, ∃ (o : Obj) (u : Value), H c = some (CelO o) ∧ o.data = .cell (some u)
theorem Cells.out {cs : List Addr} {H : Hp} (h : Cells cs H) {a : Addr} {u : HO} (e : H a = some u) (n : ∀ o, u ≠ CelO o) : a ∉ cs := fun m => by
  obtain ⟨o, _, z, _⟩ := h a m
  rw [e] at z
  exact n o (Option.some.inj z)
section
variable {cl : List (Str × Addr)} {H : Hp}
theorem Cap.len : ∀ {fr : List Str} {cs : List Addr} {vs : List V}, Cap H cl fr cs vs → cs.length = fr.length ∧ vs.length = fr.length
  | _, _, _, .nil => ⟨rfl, rfl⟩
  | _, _, _, .cons _ _ _ _ _ r => by
    obtain ⟨a, b⟩ := r.len
    exact ⟨by rw [List.length_cons, List.length_cons, a], by rw [List.length_cons, List.length_cons, b]⟩
theorem Cap.at_ : ∀ {fr : List Str} {cs : List Addr} {vs : List V} {i : Nat} {y : Str}, Cap H cl fr cs vs → fr[i]? = some y → ∃ (c : Addr) (v : V) (o : Obj) (u : Value), c ∈ cs ∧ vs[i]? = some v ∧ cl.lookup y = some c ∧ H c = some (CelO o) ∧ o.data = .cell (some u) ∧ L2.RelV v u
  | _, _, _, _, _, .nil, e => by simp at e
  | _, _, _, 0, _, .cons a b c d n r, e => by
    simp at e
    subst e
    exact ⟨_, _, _, _, List.mem_cons_self, rfl, a, b, c, d⟩
  | _, _, _, i + 1, _, .cons a b c d n r, e => by
    obtain ⟨c', v', o', u', m, e1, r1⟩ := r.at_ (i := i) (by simpa using e)
    exact ⟨c', v', o', u', List.mem_cons_of_mem _ m, by simpa using e1, r1⟩
theorem Cap.all : ∀ {fr : List Str} {cs : List Addr} {vs : List V}, Cap H cl fr cs vs → Cells cs H
  | _, _, _, .nil => fun c m => nomatch m
  | _, _, _, .cons a b c d n r => fun x m => by
    rcases List.mem_cons.mp m with rfl | m
    · exact ⟨_, _, b, c⟩
    · exact r.all x m
theorem Cap.inj : ∀ {fr : List Str} {cs : List Addr} {vs : List V} {x y : Str} {c : Addr}, Cap H cl fr cs vs → x ∈ fr → y ∈ fr → cl.lookup x = some c → cl.lookup y = some c → x = y
  | _, _, _, _, _, _, .nil, h, _, _, _ => nomatch h
  | _, _, _, x, y, c, .cons (fr := fr) (cs := cs) (c := c0) a b _ _ n r, hx, hy, ex, ey => by
    have im : ∀ z, z ∈ fr → cl.lookup z = some c0 → c0 ∈ cs := fun z hz ez => by
      obtain ⟨i, hi⟩ := List.mem_iff_getElem?.mp hz
      obtain ⟨c', _, _, _, m, _, e, _⟩ := r.at_ hi
      rw [ez] at e
      cases e
      exact m
    rcases List.mem_cons.mp hx with x1 | x1 <;> rcases List.mem_cons.mp hy with y1 | y1
    · rw [x1, y1]
    · rw [x1, a] at ex
      cases ex
      exact absurd (im _ y1 ey) n
    · rw [y1, a] at ey
      cases ey
      exact absurd (im _ x1 ex) n
    · exact r.inj x1 y1 ex ey
theorem hok_cel {P : Program} {w : World} {h : Heap} {c : Addr} {o : Obj} (ok : HOk P w H h) (e : H c = some (CelO o)) : h.get? c = some o := (ok c _ e).1
theorem Cap.cells {P : Program} {w : World} {h : Heap} {fr : List Str} {cs : List Addr} {vs : List V} (C : Cap H cl fr cs vs) (all : ∀ y c, cl.lookup y = some c → y ∈ fr) (ok : HOk P w H h) : CellsAt cl fr (vs.map some) h (offC cs H) := by
  refine ⟨by rw [List.length_map]; exact C.len.2, fun y c e => ?_, fun x y c e1 e2 => C.inj (all x c e1) (all y c e2) e1 e2, fun i y e => ?_⟩
  · obtain ⟨i, hi⟩ := List.mem_iff_getElem?.mp (all y c e)
    obtain ⟨c', v, o, u, m, _, e1, e2, e3, _⟩ := C.at_ hi
    rw [e] at e1
    cases e1
    exact ⟨offC_in m, some u, o, hok_cel ok e2, e3⟩
  · obtain ⟨c, v, o, u, m, ev, e1, e2, e3, r⟩ := C.at_ e
    refine ⟨c, e1, fun v' ev' => ⟨u, ?_, o, hok_cel ok e2, e3⟩⟩
    rw [List.getElem?_map, ev] at ev'
    cases ev'
    exact r
end
section
variable {P : Program} {w : World} {K : PySem.W.Frag} {mg : Str → Option Value} {base : Heap} {H H' : Hp} {h h' : Heap} {cs : List Addr}
theorem hok_off (ok : HOk P w H h) (hc : Cells cs H) : HOk P w (offC cs H) h := fun a o e => by
  obtain ⟨_, e1⟩ := offC_some e
  refine (ok a o e1).stay (fun _ _ _ q => q) (fun b q => ?_) fun b xs q => ?_
  · rw [offC_out (hc.out q fun o z => by cases z)]
    exact q
  · rw [offC_out (hc.out q fun o z => by cases z)]
    exact q
mutual
theorem Da.sub (e1 : ∀ a xs, H a = some (.lst xs) → H' a = some (.lst xs)) (e2 : ∀ a xs, H a = some (.tup xs) → H' a = some (.tup xs)) : ∀ {v : V} {d : PyData}, Da K H v d → Da K H' v d
  | _, _, .non => .non
  | _, _, .bl b => .bl b
  | _, _, .int i => .int i
  | _, _, .str x => .str x
  | _, _, .lst h g => .lst (e1 _ _ h) (DaL.sub e1 e2 g)
  | _, _, .tup h g => .tup (e2 _ _ h) (DaL.sub e1 e2 g)
theorem DaL.sub (e1 : ∀ a xs, H a = some (.lst xs) → H' a = some (.lst xs)) (e2 : ∀ a xs, H a = some (.tup xs) → H' a = some (.tup xs)) : ∀ {vs : List V} {ds : List PyData}, DaL K H vs ds → DaL K H' vs ds
  | _, _, .nil => .nil
  | _, _, .cons h g => .cons (Da.sub e1 e2 h) (DaL.sub e1 e2 g)
end
def lamV : Nat → List PyData → PyData → Option PyData
  | 0, [.int g, .int m], .list xs => match L2.atI xs g with
    | some (.int x) => some (.bool (decide (m ≤ x)))
    | _ => none
  | 1, [.list ys], .list xs => if SeqAt.shaped (.list xs) = true ∧ SeqAt.shaped (.list ys) = true then some (.bool (PyData.eqv (.list xs) (.list ys))) else none
  | 2, [.int p], .tuple [.int c, .list ws] => if (2 ≤ ws.length ∧ ws.length ≤ 1000000) ∧ 0 ≤ p ∧ p < 2 ^ 60 then some (.int (c * (p / ((ws.length : Int) - 1)))) else none
  | _, _, _ => none
end
end Dv
namespace Dv
open PySem PySem.Spec PyProof.Rows L2 Xg NdefX
open Classical
section
variable {X : Cx} {pins : List (Addr × Obj)} {σ : L2.St} {H : Hp} {s : Shared}
end
inductive CapH (h : Heap) (cl : List (Str × Addr)) : List Str → List Addr → List V → Prop
  | nil : CapH h cl [] [] []
  | cons {y : Str} {c : Addr} {o : Obj} {u : Value} {v : V} {fr : List Str} {cs : List Addr} {vs : List V} : cl.lookup y = some c → h.get? c = some o → o.data = .cell (some u) → L2.RelV v u → c ∉ cs → CapH h cl fr cs vs → CapH h cl (y :: fr) (c :: cs) (v :: vs)
noncomputable def onC (cs : List Addr) (h : Heap) (H : Hp) : Hp := fun a => if a ∈ cs then (h.get? a).map CelO else H a
theorem onC_out {cs : List Addr} {h : Heap} {H : Hp} {a : Addr} (n : a ∉ cs) : onC cs h H a = H a := if_neg n
theorem onC_in {cs : List Addr} {h : Heap} {H : Hp} {a : Addr} {o : Obj} (m : a ∈ cs) (e : h.get? a = some o) : onC cs h H a = some (CelO o) := by
  unfold onC
  rw [if_pos m, e]
  rfl
section
variable {X : Cx} {pins : List (Addr × Obj)} {σ : L2.St} {H : Hp} {s : Shared}
structure Mine (X : Cx) (cs : List Addr) (s : Shared) : Prop where
  cell : ∀ c ∈ cs, ∃ y, X.env.cells.lookup y = some c ∧ X.fn y = true
  at_ : ∀ c ∈ cs, ∃ (o : Obj) (u : Value), s.heap.get? c = some o ∧ o.data = .cell (some u)
theorem CapH.at_ {h : Heap} {cl : List (Str × Addr)} : ∀ {fr : List Str} {cs : List Addr} {vs : List V}, CapH h cl fr cs vs → ∀ c ∈ cs, ∃ (o : Obj) (u : Value), h.get? c = some o ∧ o.data = .cell (some u)
  | _, _, _, .nil => fun c m => nomatch m
  | _, _, _, .cons a b c d n r => fun x m => by
    rcases List.mem_cons.mp m with rfl | m
    · exact ⟨_, _, b, c⟩
    · exact r.at_ x m
variable {cs : List Addr}
theorem Mine.free (M : Mine X cs s) (I : Inv X pins σ H s) : ∀ c ∈ cs, H c = none := fun c m => let ⟨y, e, _⟩ := M.cell c m; I.freeC y c e
theorem Mine.cells (M : Mine X cs s) : Cells cs (onC cs s.heap H) := fun c m => let ⟨o, u, e, d⟩ := M.at_ c m; ⟨o, u, onC_in m e, d⟩
theorem Mine.ex (M : Mine X cs s) (I : Inv X pins σ H s) : Evl.Ex H (onC cs s.heap H) := fun a o e => by
  rw [onC_out fun m => by rw [M.free I a m] at e; cases e]
  exact e
theorem Mine.nofr (M : Mine X cs s) (I : Inv X pins σ H s) : ∀ c ∈ cs, c ∉ frs X.stack := fun c m hb => by
  obtain ⟨y, e, f⟩ := M.cell c m
  rcases List.mem_cons.mp (I.stkSub c hb) with z | z
  · exact I.cne y c e z
  · obtain ⟨_, o, ho, _⟩ := I.ok.funs.mem z
    exact absurd (Nat.lt_of_lt_of_le (Heap.lt_size ho) (I.ok.cab y c f e)) (Nat.lt_irrefl _)
theorem Mine.env (M : Mine X cs s) (I : Inv X pins σ H s) : Env0 X.prog X.w X.K X.mg X.base X.A X.stack s (onC cs s.heap H) := by
  have e0 := I.env0
  refine ⟨e0.frames, e0.mod, fun b o e => ⟨(e0.bs b o e).1, ?_⟩, e0.bsz, e0.funs, fun b hb => ?_, fun a o e => ?_, e0.bare⟩
  · rw [onC_out fun m => ?_]
    · exact (e0.bs b o e).2
    · obtain ⟨y, e1, f⟩ := M.cell b m
      exact absurd (Nat.lt_of_lt_of_le (Heap.lt_size e) (Nat.le_trans I.ok.bsz (I.ok.cab y b f e1))) (Nat.lt_irrefl _)
  · rw [onC_out fun m => M.nofr I b m hb]
    exact e0.frf b hb
  · by_cases m : a ∈ cs
    · obtain ⟨o1, u, e1, d⟩ := M.at_ a m
      rw [onC_in m e1] at e
      cases e
      exact ⟨e1, trivial, ⟨_, e1⟩, fun _ _ _ _ => trivial⟩
    · rw [onC_out m] at e
      exact (e0.hok a o e).stay (fun _ _ _ q => q) (fun b q => M.ex I _ _ q) fun b xs q => M.ex I _ _ q
theorem Mine.back (M : Mine X cs s) (I : Inv X pins σ H s) {Q : VK} {u : Value} {s' : Shared} (h : CE X.stack X.prog X.w (onC cs s.heap H) s (fun v H5 => (∀ c ∈ cs, H5 c = onC cs s.heap H c) ∧ Q v (offC cs H5)) u s') : CE X.stack X.prog X.w H s Q u s' := by
  obtain ⟨v, H5, os, bare, un, ok, rv, kp, q⟩ := h
  have cel : Cells cs H5 := fun c m => let ⟨o, u, e, d⟩ := M.cells (H := H) c m; ⟨o, u, (kp c m).trans e, d⟩
  have ex := M.ex I
  have nc : ∀ {a : Addr} {o : HO}, H a = some o → a ∉ cs := fun {a o} e m => by
    rw [M.free I a m] at e
    cases e
  refine ⟨v, offC cs H5, os, bare, ⟨fun b o e n hb hx => ?_, fun b o e n hb hx => un.slot b o e (by rw [onC_out fun m => M.nofr I b m hb]; exact n) hb hx, fun b o e n hx => ?_, un.there, fun b xs q => ?_, fun b o x q => ?_, fun b ps q => ?_⟩, hok_off ok cel, rv, q⟩
  · by_cases m : b ∈ cs
    · obtain ⟨o1, u, e1, d⟩ := M.at_ b m
      rw [e] at e1
      cases e1
      exact hok_cel ok ((kp b m).trans (onC_in m e))
    · exact un.keep b o e (by rw [onC_out m]; exact n) hb hx
  · by_cases m : b ∈ cs
    · exact offC_in m
    · exact offC_none (un.free b o e (by rw [onC_out m]; exact n) hx)
  · rw [offC_out (nc q)]
    exact un.tups b xs (ex _ _ q)
  · rw [offC_out (nc q)]
    exact un.frzs b o x (ex _ _ q)
  · obtain ⟨more, z⟩ := un.tbls b ps (ex _ _ q)
    exact ⟨more, by rw [offC_out (nc q)]; exact z⟩
end
end Dv
namespace Dv
open PySem PySem.Spec PyProof.Rows L2 Xg NdefX
open Classical
structure LamHere (X : Cx) (k : Nat) (params : Arguments) (body : Expr) (scope : Scope) (js : List Nat) : Prop where
  tab : ∃ c P, LamX.TabB X.base X.mg c P ∧ X.env.code = .ref c ∧ (P, X.env.qual ++ "<lambda>") ∈ Tof X.K ∧ ∀ p ∈ Tof X.K, p.1 = P → p.2 = X.env.qual ++ "<lambda>"
  bod : LamB k body
  par : ∃ p, params = par1 (lamPar k) p
  sc : NScope (lamN k) [lamPar k] (lamFr k) scope
  gl : k = 2 → scope.names.lookup ("len" : Str) = some NameKind.globalImplicit
  nd : (lamFr k).Nodup
  kin : ∀ y ∈ lamFr k, X.env.scope.names.lookup y = some .cell
  fn : ∀ y, X.fn y = true
  at_ : js.map (fun j => X.N[j]?) = (lamFr k).map some
section
variable {X : Cx} {pins : List (Addr × Obj)} {σ : L2.St} {H : Hp} {s : Shared}
end
section
variable {X : Cx}
end
section
variable {K : PySem.W.Frag} {ta t1 t2 t3 : TE} {ca c1 c2 c3 c : Nat} {fa f1 f2 f3 : FE} {md : Bool}
abbrev lamW (k : Nat) (ds : List PyData) (d : PyData) (Q : PyData → Prop) : Prop := match lamV k ds d with
  | some r => Q r
  | none => False
end
end Dv
namespace Dv
open PySem PySem.Spec PyProof.Rows L2 Xg NdefX
open Classical
section
variable {X : Cx} {pins : List (Addr × Obj)} {σ : L2.St} {H : Hp} {s : Shared}
structure MinJ (X : Cx) (cs : List Addr) (H : Hp) (s4 z : Shared) : Prop where
  os : z.os = s4.os
  bare : AllBare z.gens
  un : Un (frs X.stack) [] H H s4.heap z.heap
  hok : HOk X.prog X.w H z.heap
  cel : ∀ c ∈ cs, z.heap.get? c = s4.heap.get? c
end
section
variable {X : Cx}
end
section
variable {K : PySem.W.Frag} {te : TE} {c k : Nat} {js : List Nat} {fe : FE}
end
end Dv
namespace Dv
open PySem PySem.Spec PyProof.Rows L2 Xg
open Classical
abbrev extQ (Q : List PyData → Prop) : PyData → Prop
  | .list es => Q es
  | _ => False
theorem extQ_mono {Q Q' : List PyData → Prop} (h : ∀ ds, Q ds → Q' ds) : ∀ d, extQ Q d → extQ Q' d
  | .list _, q => h _ q
  | .none, q => q.elim
  | .bool _, q => q.elim
  | .int _, q => q.elim
  | .str _, q => q.elim
  | .tuple _, q => q.elim
  | .dict _, q => q.elim
section
variable {K : PySem.W.Frag} {ta : TE} {ca : Nat} {fa : FE}
abbrev sExt (i : Nat) (f : FE) : FS := fun ρ E => ownQ ρ i fun ds => f ρ (extQ fun es => ds.length + es.length ≤ 1000000 ∧ E.nx (ρ.set i (.own (ds ++ es))))
theorem snds_ext {i : Nat} (a : Snd true K ta ca fa) : SndS K (tAug i ta rExt2) ca (sExt i fa) :=
  ⟨fun ρ E E' h q => ownQ_mono (fun ds => a.mono _ _ _ (extQ_mono fun d z => ⟨z.1, h.nx _ z.2⟩)) q, fun {G H0 b0 b os m H σ ρ D E} ok hm hf k => by
    obtain ⟨ds, e, hf⟩ := ownQ_of hf
    obtain ⟨p, xs, e1, e2, e3, e4, e5⟩ := ok.env.sl i _ e
    refine ⟨.ref p, e1, a.go ok.env hm hf fun d v H' q st bx vd => ?_⟩
    cases d <;> first | exact q.elim | skip
    rename_i es
    cases vd with
    | lst g1 g2 =>
    rename_i bb zs
    obtain ⟨q1, q2⟩ := q
    refine ⟨p, bb, xs, zs, rfl, rfl, st _ _ e3 e4, (rm_some g1).2, ?_, ?_⟩
    · rw [e5.len, g2.len]
      exact Nat.le_trans q1 (by decide)
    · have ok1 := ok.step st bx (by omega)
      obtain ⟨o, l⟩ := ok1.mut e e1 ((e5.mono (st.rm ok.env.bs)).app g2)
      have es : σ.set i (some (.ref p)) = σ := by
        refine List.ext_getElem? fun j => ?_
        rw [List.getElem?_set]
        split
        · rename_i h
          subst h
          rw [e1]
          split
          · rfl
          · rename_i h2
            rw [List.getElem?_eq_none (by omega)] at e1
            cases e1
        · rfl
      show D.nx (σ.set i (some (.ref p))) _
      rw [es]
      exact k.nx _ _ _ _ _ q2 o ((Lk.step st ok.env.bs).trans l)⟩
end
end Dv
namespace Kd
open PySem PySem.Spec PyProof.Rows L2 Xg Dv
end Kd
namespace Kc
open PySem PySem.Spec PyProof.Rows L2 Xg Dv Kd
end Kc
namespace Kd
open PySem PySem.Spec PyProof.Rows L2 Xg Dv
end Kd
namespace Wl
open PySem PySem.Spec PyProof.Rows L2
theorem en_nolen : typeLookup (.type "enumerate") "__len__" = pure none := by rw [typeLookup_type, builtinLookup_eq_fast]; kernel_rfl
theorem en_nohint : typeLookup (.type "enumerate") "__length_hint__" = pure none := by rw [typeLookup_type, builtinLookup_eq_fast]; kernel_rfl
def At (h : Heap) (e it l S : Addr) (items : Array Value) (i : Nat) : Prop :=
  h.IsListIter it l i ∧ h.IsList l items ∧ ((∃ old, IsEnum h e it i old) ∨ ∃ old T f oT, IsEnumHeld h e it i old T f ∧ h.get? T = some oT ∧ T ≠ e ∧ T ≠ it ∧ T ≠ S)
structure Told (h : Heap) (lo : Nat) (items acc : Array Value) (ts : List Addr) : Prop where
  acc : acc.toList = ts.map Value.ref
  above : ∀ t ∈ ts, lo ≤ t
  nd : ts.Nodup
  at_ : ∀ (j : Nat) (t : Addr), ts[j]? = some t → ∃ u x, items[j]? = some x ∧ h.get? t = some { cls := .type "tuple", data := .seq #[.int j u, x] }
abbrev LstO (acc : Array Value) (c : Nat) : Obj := { cls := .type "list", dict := none, data := .seq acc c, slots := #[] }
section
variable {prog : Program} {w : World} {A : Around} {R : Result → Shared → Prop} {e it l S : Addr} {items : Array Value} {lo : Nat}
theorem loop (hh : A.handled = none) (hei : e ≠ it) (hle : l ≠ e) (hli : l ≠ it) (hSe : S ≠ e) (hSi : S ≠ it) (hSl : S ≠ l) (le : e < lo) (li : it < lo) (lS : S < lo) (res : Value) (hn : items.size ≤ 1000000) :
    ∀ (k i : Nat) (s : Shared) (acc : Array Value) (c : Nat) (ts : List Addr), items.size - i = k → i ≤ items.size → lo ≤ s.heap.objs.size → At s.heap e it l S items i → s.heap.get? S = some (LstO acc c) → ts.length = i → Told s.heap lo items acc ts →
      (∀ (h' : Heap) (tk : Nat) (acc' : Array Value) (c' : Nat) (ts' : List Addr), (∀ b o, b < lo → b ≠ e → b ≠ it → b ≠ S → s.heap.get? b = some o → h'.get? b = some o) → h'.get? S = some (LstO acc' c') → ts'.length = items.size → Told h' lo items acc' ts' → R (.ok (.ret res)) { s with heap := h', toks := tk }) →
      codeAny (model prog w) A (.builtin "list.extend.loop" ⟨[.ref S, .ref e, res], []⟩) R s := by
  intro k
  induction k with
  | zero =>
    intro i s acc c ts hk hi hlo st hS hl T hR
    obtain ⟨hit, hlst, he⟩ := st
    have ex : items[i]? = none := Array.getElem?_eq_none (by omega)
    refine codeAny_builtin F.entry_extend_loop ?_
    rw [Around.under_plainId F.plain_extend_loop _]
    show wpAny _ A.in1 (pyNext (.ref e) >>= fun _ => _) _ _ s
    have fin : ∀ h', Heap.ExtBut it s.heap h' → R (.ok (.ret res)) { s with heap := h' } := fun h' x =>
      hR h' s.toks acc c ts (fun b o _ _ n2 _ y => x b o n2 y) (x S _ hSi hS) (by omega) ⟨T.acc, T.above, T.nd, fun j t y => let ⟨u, v, a, b⟩ := T.at_ j t y; ⟨u, v, a, x t _ (fun z => by have := T.above t (List.mem_of_getElem? y); rw [z] at this; exact absurd li (Nat.not_lt.mpr this)) b⟩⟩
    rcases he with ⟨old, he⟩ | ⟨old, T1, f, oT, he, hT, r1, r2, r3⟩
    · exact wpAny_bind (wpAny_pyNext_enum_end (A := A.in1) hh he hit hlst ex fun h' x => wpAny_pure (fin h' x))
    · exact wpAny_bind (wpAny_pyNext_enum_end_held (A := A.in1) hh he hit hlst ex fun h' x => wpAny_pure (fin h' x))
  | succ k ih =>
    intro i s acc c ts hk hi hlo st hS hl T hR
    obtain ⟨hit, hlst, he⟩ := st
    have lt : i < items.size := by omega
    have ex := Array.getElem?_eq_getElem lt
    refine codeAny_builtin F.entry_extend_loop ?_
    rw [Around.under_plainId F.plain_extend_loop _]
    show wpAny _ A.in1 (pyNext (.ref e) >>= fun _ => _) _ _ s
    have accn : acc.size = i := by
      have := congrArg List.length T.acc
      rw [List.length_map, Array.length_toList] at this
      omega
    have go : ∀ (h' : Heap) (tk : Nat) (u : Tok), h'.IsListIter it l (i + 1) → ((∃ old, IsEnum h' e it ((i + 1 : Nat) : Int) old) ∨ ∃ old T f oT, IsEnumHeld h' e it ((i + 1 : Nat) : Int) old T f ∧ h'.get? T = some oT ∧ T ≠ e ∧ T ≠ it ∧ T ≠ S) →
        h'.get? s.heap.objs.size = some { cls := .type "tuple", data := .seq #[.int i u, items[i]] } → h'.objs.size = s.heap.objs.size + 1 → (∀ b o, b ≠ e → b ≠ it → s.heap.get? b = some o → h'.get? b = some o) →
        wpAny (model prog w) A.in1 (updateSeq S (·.push (.ref s.heap.objs.size)) >>= fun _ => again (.builtin "list.extend.loop" ⟨[.ref S, .ref e, res], []⟩))
          (fun fin s' => match fin with | .done f => R (.ok f) s' | .again c' => c'.quiet = true ∧ codeAny (model prog w) A c' R s') (fun e s' => R (.error e) s') { s with heap := h', toks := tk } := fun h' tk u hit' he' hT hsz hk' => by
      have hS' := hk' S _ hSe hSi hS
      have oth : ∀ b o, b ≠ S → h'.get? b = some o → (h'.update S (Obj.mapSeq (·.push (.ref s.heap.objs.size)))).get? b = some o := fun b o hb y => (Heap.get?_update_other _ _ (Ne.symm hb)).trans y
      have up := Heap.get?_update_self (Obj.mapSeq (·.push (Value.ref s.heap.objs.size))) hS' rfl
      have nS : s.heap.objs.size ≠ S := fun z => by rw [z] at hlo; exact absurd lS (Nat.not_lt.mpr hlo)
      have upz : (h'.update S (Obj.mapSeq (·.push (.ref s.heap.objs.size)))).objs.size = h'.objs.size := Heap.size_update ..
      refine wpAny_bind (wpAny_updateSeq hS' rfl (wpAny_pure ⟨plainId_quiet F.plain_extend_loop _, ?_⟩) (by show acc.size ≤ sizeLine; rw [accn]; exact Nat.le_trans (Nat.le_of_lt (Nat.lt_of_lt_of_le lt hn)) (by decide)) (by show (acc.push _).size ≤ sizeLine + 1; rw [Array.size_push, accn]; exact Nat.succ_le_succ (Nat.le_trans (Nat.le_of_lt (Nat.lt_of_lt_of_le lt hn)) (by decide))))
      refine ih (i + 1) _ (acc.push (.ref s.heap.objs.size)) _ (ts ++ [s.heap.objs.size]) (by omega) lt ?_ ⟨?_, ?_, ?_⟩ up (by rw [List.length_append, hl]; rfl) ⟨?_, ?_, ?_, ?_⟩ fun h2 tk2 acc2 c2 ts2 kp q1 q2 q3 => hR h2 tk2 acc2 c2 ts2 (fun b o b1 b2 b3 b4 y => kp b o b1 b2 b3 b4 (oth b o b4 (hk' b o b2 b3 y))) q1 q2 q3
      · show lo ≤ (h'.update S _).objs.size
        rw [upz, hsz]
        omega
      · exact hit'.at fun o y => oth it o (Ne.symm hSi) y
      · exact (hlst.at fun o y => hk' l o hle hli y).at fun o y => oth l o (Ne.symm hSl) y
      · rcases he' with ⟨old, y⟩ | ⟨old, T1, f, oT, y, hT1, r1, r2, r3⟩
        · exact .inl ⟨old, oth _ _ (Ne.symm hSe) y⟩
        · exact .inr ⟨old, T1, f, oT, oth _ _ (Ne.symm hSe) y, oth _ _ r3 hT1, r1, r2, r3⟩
      · rw [Array.toList_push, T.acc, List.map_append]
        rfl
      · intro t m
        rcases List.mem_append.mp m with m | m
        · exact T.above t m
        · rw [List.mem_singleton.mp m]
          exact hlo
      · refine List.nodup_append.mpr ⟨T.nd, List.nodup_cons.mpr ⟨List.not_mem_nil, .nil⟩, fun a ma b mb z => ?_⟩
        rw [List.mem_singleton.mp mb] at z
        obtain ⟨j, hj⟩ := List.mem_iff_getElem?.mp ma
        obtain ⟨_, _, _, y⟩ := T.at_ j a hj
        rw [z] at y
        exact absurd (Heap.lt_size y) (Nat.lt_irrefl _)
      · intro j t y
        by_cases hj : j < ts.length
        · rw [List.getElem?_append_left hj] at y
          obtain ⟨u', x, a, b⟩ := T.at_ j t y
          have la := T.above t (List.mem_of_getElem? y)
          have n1 : t ≠ e := fun z => by rw [z] at la; exact absurd le (Nat.not_lt.mpr la)
          have n2 : t ≠ it := fun z => by rw [z] at la; exact absurd li (Nat.not_lt.mpr la)
          have n3 : t ≠ S := fun z => by rw [z] at la; exact absurd lS (Nat.not_lt.mpr la)
          exact ⟨u', x, a, oth t _ n3 (hk' t _ n1 n2 b)⟩
        · rw [List.getElem?_append_right (by omega)] at y
          have z : j - ts.length = 0 := by
            cases q : j - ts.length with
            | zero => rfl
            | succ m => rw [q] at y; simp at y
          rw [z] at y
          cases y
          have ej : j = i := by omega
          subst ej
          exact ⟨u, _, ex, oth _ _ nS hT⟩
    have ec : ((i + 1 : Nat) : Int) = (i : Int) + 1 := by omega
    have nit : s.heap.objs.size ≠ it := let ⟨_, x, _⟩ := hit; Nat.ne_of_gt (Heap.lt_size x)
    have nS : s.heap.objs.size ≠ S := Nat.ne_of_gt (Heap.lt_size hS)
    rcases he with ⟨old, he⟩ | ⟨old, T1, f, oT, he, hT, r1, r2, r3⟩
    · refine wpAny_bind (wpAny_pyNext_enum_item (A := A.in1) he hit hlst ex hei fun h' ho hit' hT hsz hk' => ?_)
      exact go h' _ _ hit' (.inr ⟨_, s.heap.objs.size, false, _, by rw [ec]; exact ho, hT, Nat.ne_of_gt (Heap.lt_size he), nit, nS⟩) hT hsz hk'
    · refine wpAny_bind (wpAny_pyNext_enum_item_held (A := A.in1) he hT r1 r2 hit hlst ex hei fun h' ho hit' hT' hsz hk' => ?_)
      exact go h' _ _ hit' (.inr ⟨old, T1, true, oT, by rw [ec]; exact ho, hk' _ _ r1 r2 hT, r1, r2, r3⟩) hT' hsz hk'
end
section
variable {prog : Program} {w : World} {A : Around} {E : Value → Shared → Prop} {s : Shared} {e it l : Addr} {items : Array Value}
theorem hint {A : Around} {E : Value → Shared → Prop} {Q : Bool → Shared → Prop} (hT : s.TypeIs (.ref e) "enumerate") (h : Q true s) : wpAny (model prog w) A (Builtin.List.listLengthHint (.ref e)) Q E s := by
  unfold Builtin.List.listLengthHint
  refine wpAny_bind (wpAny_specialOf hT en_nolen ?_)
  show wpAny _ A (specialOf (Value.ref e) (Str.ofString "__length_hint__") >>= _) _ _ _
  exact wpAny_bind (wpAny_specialOf hT en_nohint (wpAny_pure h))
theorem call {Q : Value → Shared → Prop} (hh : A.handled = none) (he : IsEnum s.heap e it 0 .none) (hit : s.heap.IsListIter it l 0) (hl : s.heap.IsList l items) (hei : e ≠ it) (hle : l ≠ e) (hli : l ≠ it) (hn : items.size ≤ 1000000)
    (q : ∀ (h' : Heap) (tk : Nat) (acc : Array Value) (c : Nat) (ts : List Addr), (∀ b o, b ≠ e → b ≠ it → s.heap.get? b = some o → h'.get? b = some o) → h'.get? s.heap.objs.size = some (LstO acc c) → ts.length = items.size → Told h' (s.heap.objs.size + 1) items acc ts → Q (.ref s.heap.objs.size) { s with heap := h', toks := tk }) :
    wpAny (model prog w) A (PySem.call (.type "list") [.ref e]) Q E s := by
  have le := Heap.lt_size he
  have li : it < s.heap.objs.size := let ⟨_, x, _⟩ := hit; Heap.lt_size x
  have ll : l < s.heap.objs.size := let ⟨_, x, _⟩ := hl; Heap.lt_size x
  refine callType_codes (Q₁ := fun obj s1 => obj = .ref s.heap.objs.size ∧ s1 = { s with heap := s.heap.push { cls := .type "list", data := .seq #[] } }) F.called_list (F.typeCall_list_1 _) F.entry_list_init (code_list_new _ ⟨rfl, rfl⟩) fun obj s1 h1 => ?_
  obtain ⟨rfl, rfl⟩ := h1
  have S0 : (s.heap.push { cls := .type "list", data := .seq #[] }).get? s.heap.objs.size = some { cls := .type "list", data := .seq #[] } := Heap.get?_push_size _ rfl
  have old0 : ∀ b o, s.heap.get? b = some o → (s.heap.push { cls := .type "list", data := .seq #[] }).get? b = some o := fun b o y => Heap.get?_push_of_some _ y
  refine ⟨⟨_, S0, rfl⟩, F.args_list_init_2 _ _, ?_⟩
  show wpAny _ A.in1.in1 (do let old ← Builtin.List.listItems (.ref s.heap.objs.size); Builtin.List.listUpdate (.ref s.heap.objs.size) (fun _ => #[]); letGo old.toList.reverse; Builtin.List.listExtendWith (.ref s.heap.objs.size) (.ref e) .none) _ _ _
  refine wpAny_bind ?_
  unfold Builtin.List.listItems
  refine wpAny_bind (wpAny_seqItems S0 rfl (wpAny_pure ?_))
  refine wpAny_bind (wpAny_updateSeq S0 rfl ?_)
  have S1 := Heap.get?_update_self (Obj.mapSeq (fun _ => (#[] : Array Value))) S0 rfl
  have old1 : ∀ b o, s.heap.get? b = some o → ((s.heap.push { cls := .type "list", data := .seq #[] }).update s.heap.objs.size (Obj.mapSeq (fun _ => (#[] : Array Value)))).get? b = some o := fun b o y => (Heap.get?_update_other _ _ (Nat.ne_of_gt (Heap.lt_size y))).trans (old0 b o y)
  have z1 : ((s.heap.push { cls := .type "list", data := .seq #[] }).update s.heap.objs.size (Obj.mapSeq (fun _ => (#[] : Array Value)))).objs.size = s.heap.objs.size + 1 := by rw [Heap.size_update, Heap.size_push]
  refine wpAny_bind (wpAny_letGo ?_)
  generalize hg1 : (s.heap.push { cls := .type "list", data := .seq #[] }).update s.heap.objs.size (Obj.mapSeq (fun _ => (#[] : Array Value))) = g1 at S1 old1 z1
  have ty1 : ({ s with heap := g1 } : Shared).TypeIs (.ref e) "enumerate" := ⟨_, old1 _ _ he, rfl⟩
  unfold Builtin.List.listExtendWith
  refine wpAny_bind (wpAny_typeOf ty1 ?_)
  have n1 : Builtin.List.listSameRef (.ref s.heap.objs.size) (.ref e) = false := by simp [Builtin.List.listSameRef, Nat.ne_of_gt le]
  have n2 : (Value.type "enumerate" == Value.type "list") = false := by decide
  have n3 : (Value.type "enumerate" == Value.type "tuple") = false := by decide
  simp only [n1, n2, n3, Bool.or_false, Bool.false_eq_true, if_false]
  refine wpAny_bind (wpAny_pyIter_enum (s := { s with heap := g1 }) (old1 _ _ he) ?_)
  refine wpAny_bind (wpAny_holding (hint (s := { s with heap := g1 }) ty1 ?_))
  show wpAny _ A.in1.in1 (rule "list.extend.makes-room" >>= fun _ => Builtin.List.listTouch (.ref s.heap.objs.size) >>= fun _ => again (.builtin "list.extend.loop" ⟨[.ref s.heap.objs.size, .ref e, .none], []⟩)) _ _ _
  refine wpAny_bind (wpAny_rule (wpAny_bind ?_))
  show wpAny _ A.in1.in1 (updateSeq s.heap.objs.size (·.push .none) >>= fun _ => updateSeq s.heap.objs.size (·.pop)) _ _ _
  refine wpAny_bind (wpAny_updateSeq (s := { s with heap := g1 }) S1 rfl ?_)
  have S2 := Heap.get?_update_self (Obj.mapSeq (·.push Value.none)) S1 rfl
  refine wpAny_updateSeq S2 rfl ?_
  have S3 := Heap.get?_update_self (Obj.mapSeq (·.pop)) S2 rfl
  have old3 : ∀ b o, s.heap.get? b = some o → ((g1.update s.heap.objs.size (Obj.mapSeq (·.push Value.none))).update s.heap.objs.size (Obj.mapSeq (·.pop))).get? b = some o := fun b o y =>
    (Heap.get?_update_other _ _ (Nat.ne_of_gt (Heap.lt_size y))).trans ((Heap.get?_update_other _ _ (Nat.ne_of_gt (Heap.lt_size y))).trans (old1 b o y))
  have z3 : ((g1.update s.heap.objs.size (Obj.mapSeq (·.push Value.none))).update s.heap.objs.size (Obj.mapSeq (·.pop))).objs.size = s.heap.objs.size + 1 := by rw [Heap.size_update, Heap.size_update, z1]
  refine wpAny_pure ⟨plainId_quiet F.plain_extend_loop _, loop (A := A.in1) (lo := s.heap.objs.size + 1) hh hei hle hli (Nat.ne_of_gt le) (Nat.ne_of_gt li) (Nat.ne_of_gt ll) (Nat.lt_succ_of_lt le) (Nat.lt_succ_of_lt li) (Nat.lt_succ_self _) .none hn items.size 0 _ _ _ [] (Nat.sub_zero _) (Nat.zero_le _) (Nat.le_of_eq z3.symm) ⟨hit.at fun o y => old3 _ o y, hl.at fun o y => old3 _ o y, .inl ⟨_, old3 _ _ he⟩⟩ S3 rfl ⟨rfl, fun t m => (nomatch m), .nil, fun j t y => by simp at y⟩ fun h' tk acc' c' ts' kp hS' hlen hT => ?_⟩
  refine ⟨rfl, q h' tk acc' c' ts' (fun b o b1 b2 y => kp b o (Nat.lt_succ_of_lt (Heap.lt_size y)) b1 b2 (Nat.ne_of_lt (Heap.lt_size y)) (old3 b o y)) hS' hlen hT⟩
end
end Wl
namespace Dv
open PySem PySem.Spec PyProof.Rows L2 Xg
open Classical
section
variable {K : PySem.W.Frag} {ta : TE} {ca : Nat} {fa : FE} {md : Bool}
end
end Dv
namespace Dv
open PySem PySem.Spec PyProof.Rows L2 Xg NdefX
section
variable {P : Program} {w : World} {K : PySem.W.Frag} {mg : Str → Option Value} {base : Heap}
end
theorem tabIn_none {K : PySem.W.Frag} {x : Str} (a : PySem.W.nsIn K mainGlobals x = some none) : PySem.W.tabIn K x = none := by
  unfold PySem.W.tabIn
  rw [a]
def tabsOf (K : PySem.W.Frag) : List (Addr × Addr) := lamDefs.filterMap fun x => PySem.W.tabIn K x
theorem tbs_nil {K : PySem.W.Frag} {H : Hp} (h : ∀ p ∈ tabsOf K, H p.2 = some (.tbl #[])) : Tbs K H := fun p hp => by
  unfold Tof at hp
  obtain ⟨x, hx, e⟩ := List.mem_filterMap.mp hp
  cases q : PySem.W.tabIn K x with
  | none => rw [q] at e; cases e
  | some r =>
    rw [q] at e
    cases e
    exact LamX.TabS.nil (h r (List.mem_filterMap.mpr ⟨x, hx, q⟩))
theorem lawGT {P : Program} {w : World} {K : PySem.W.Frag} {mg mb : Str → Option Value} {k : Nat} {fa a : Addr} {fd : FuncData} {x : Str} {sp : Sp} {s1 : Shared} {vs : List Value} {ns : List Int}
    (inK : K.In s1.heap) (gl : s1.heap.Ns mainGlobals mg) (bl : s1.heap.Ns builtinsNs mb) (bb : ∀ x : Str, x ≠ "__name__" → mb x = bootBuiltins x) (noL : s1.heap.NoLimit) (gn : s1.gens = #[])
    (tb : ∀ p ∈ tabsOf K, s1.heap.get? p.2 = some { cls := .none, data := .fields #[] }) (tk : ∀ p ∈ tabsOf K, K.lookup p.2 = none) (tc : ∀ p ∈ tabsOf K, PySem.W.CodeHd s1.heap p.1 p.2)
    (bm : ∃ (m : Addr) (ob : Obj), mg "__builtins__" = some (.ref m) ∧ m ≠ builtinsNs ∧ s1.heap.get? m = some ob ∧ ob.cls = .type "module" ∧ ob.dict = some builtinsNs ∧ ob.data = .plain)
    (at_ : s1.heap.get? a = some { cls := .type "list", data := .seq vs.toArray }) (are : IntsAre vs ns) (few : ns.length ≤ sizeLine) (rm : Room k callerA)
    (F : ∀ base : Heap, K.In base → base.Ns mainGlobals mg → (∀ p ∈ tabsOf K, LamX.TabB base mg p.1 p.2) → FnG P w K mg base k fa fd [x] sp) (bd : ∀ (s : Shared) (u : Value), BindsTo s fd ⟨[u], []⟩ [(x, u)])
    (hsp : ∀ H : Hp, Tbs K H → SqL K H a (ns.map V.int) → sp [.ref a] H (fun v _ => v = .bl true) E0) :
    codeAny (model P w) callerA (.call (.ref fa) ⟨[.ref a], []⟩) (fun r s' => r = .ok (.ret (.bool true)) ∧ OldK s1.heap s'.heap ∧ s'.os = s1.os ∧ AllBare s'.gens) s1 := by
  have rel := L2.vals_ints are
  have ln := are.length
  let TA : List Addr := (tabsOf K).map (·.2)
  have tat : ∀ b, b ∈ TA → s1.heap.get? b = some { cls := .none, data := .fields #[] } := fun b hb => by
    obtain ⟨p, hp, rfl⟩ := List.mem_map.mp hb
    exact tb p hp
  have aT : a ∉ TA := fun z => by
    have q := tat a z
    rw [at_] at q
    have z1 : Data.seq vs.toArray _ = Data.fields #[] := congrArg Obj.data (Option.some.inj q)
    cases z1
  have main : ∀ H : Hp, (∀ p ∈ tabsOf K, H p.2 = some (.tbl #[])) → (∀ b, b ∉ TA → H b = none ∨ ∃ o xs, H b = some (.frz o (.lst xs))) → SqL K H a (ns.map V.int) → HOk P w H s1.heap → (∀ b, H b ≠ none → b = a ∨ b ∈ TA) → (H a ≠ none → K.lookup a = none) →
      codeAny (model P w) callerA (.call (.ref fa) ⟨[.ref a], []⟩) (fun r s' => r = .ok (.ret (.bool true)) ∧ OldK s1.heap s'.heap ∧ s'.os = s1.os ∧ AllBare s'.gens) s1 := by
    intro H tabs only sq ok here off
    have hid : ∀ {b : Addr} {o : Obj}, s1.heap.get? b = some o → H b = none → (hidT s1.heap H).get? b = some o := fun e n => hidT_get e n
    -- what is neither a list nor a bare record is untold
    have untold : ∀ {b : Addr} {o : Obj}, s1.heap.get? b = some o → (∀ us n, o.data ≠ .seq us n) → o.data ≠ .fields #[] → H b = none := fun {b o} e n1 n2 => by
      cases z : H b with
      | none => rfl
      | some u =>
        rcases here b (by rw [z]; simp) with e1 | m
        · subst e1
          rw [at_] at e
          cases e
          exact absurd rfl (n1 _ _)
        · rw [tat b m] at e
          cases e
          exact absurd rfl n2
    have dictFree : ∀ {b : Addr} {o : Obj} {es : Array DictEntry} {ep : Nat}, s1.heap.get? b = some o → o.data = .dict es ep → H b = none := fun {b o es ep} e d =>
      untold e (fun us n z => by rw [d] at z; cases z) fun z => by rw [d] at z; cases z
    have nsOk : ∀ {b : Addr} {m : Str → Option Value}, s1.heap.Ns b m → (hidT s1.heap H).Ns b m := fun {b m} ⟨o, es, ep, e, d, r⟩ => ⟨o, es, ep, hid e (dictFree e d), d, r⟩
    have inB : K.In (hidT s1.heap H) := fun b o e => hid (inK b o e) (by
      cases z : H b with
      | none => rfl
      | some u =>
        rcases here b (by rw [z]; simp) with e1 | m
        · subst e1
          rw [off (by rw [z]; simp)] at e
          cases e
        · obtain ⟨p, hp, rfl⟩ := List.mem_map.mp m
          rw [tk p hp] at e
          cases e)
    have md : Mod K mg (hidT s1.heap H) := ⟨inB, nsOk gl, ⟨mb, nsOk bl, bb⟩, let ⟨mc, h1, h2⟩ := noL; ⟨mc, nsOk h1, h2⟩⟩
    have tbb : ∀ p ∈ tabsOf K, LamX.TabB (hidT s1.heap H) mg p.1 p.2 := fun p hp => by
      refine ⟨?_, ?_, fun z => ?_⟩
      · obtain ⟨o, us, fl, tf, fg, tg, inF, tx, tt, e1, r1, r2, r3, rest⟩ := tc p hp
        refine ⟨o, us, fl, tf, fg, tg, inF, tx, tt, hid e1 (untold e1 (fun us' n z => by rw [r2] at z; cases z) fun z => ?_), r1, r2, r3, rest⟩
        rw [r2] at z
        cases z
        simp at r3
      · obtain ⟨m, ob, b1, b2, b3, b4, b5, b6⟩ := bm
        refine ⟨m, ob, b1, b2, fun z => ?_, fun z => ?_, hid b3 (untold b3 (fun us n z => by rw [b6] at z; cases z) fun z => by rw [b6] at z; cases z), b4, b5, b6⟩
        · obtain ⟨o, es, ep, e, hd, _⟩ := gl
          rw [z, e] at b3
          cases b3
          rw [hd] at b6
          cases b6
        · rw [z, tb p hp] at b3
          cases b3
          cases b6
      · obtain ⟨o, es, ep, e, hd, _⟩ := gl
        rw [z, tb p hp] at e
        cases e
        cases hd
    have ev : Env0 P w K mg (hidT s1.heap H) callerA [] s1 H :=
      ⟨rfl, md, fun b o e => of_hidT e, Nat.le_of_eq (hidT_size _ _), trivial, fun b hb => absurd (show b ∈ ([] : List Addr) from hb) (by simp), ok, .of_eq gn⟩
    refine codeAny_mono ((F _ inB (nsOk gl) tbb).run callerA [] s1 H ⟨[.ref a], []⟩ [.ref a] [.ref a] _ rfl rm ev (bd s1 (.ref a)) (.cons rfl .nil) (hsp H (tbs_nil tabs) sq)) fun r s' h => ?_
    cases r with
    | error e => exact h.elim
    | ok fl =>
      cases fl with
      | next => exact False.elim h
      | brk => exact False.elim h
      | cont => exact False.elim h
      | ret u =>
        obtain ⟨v, H', os, bare, un, ok', rv, z⟩ := h
        obtain rfl : v = .bl true := z
        obtain rfl : u = Value.bool true := rv
        have stay : ∀ b o, b ∉ TA → s1.heap.get? b = some o → s'.heap.get? b = some o := fun b o nb e => by
          rcases only b nb with n | ⟨ob, xs, z⟩
          · exact un.keep b o e n (fun z => absurd (show b ∈ ([] : List Addr) from z) (by simp)) (by simp)
          · have z2 := un.frzs b ob _ z
            obtain ⟨e1, _⟩ := ok b _ z
            obtain ⟨e2, _⟩ := ok' b _ z2
            rw [e] at e1
            cases e1
            exact e2
        have grew : ∀ p ∈ tabsOf K, ∃ more : Array Value, s'.heap.get? p.2 = some { cls := .none, data := .fields more } := fun p hp => by
          obtain ⟨more, z⟩ := un.tbls p.2 #[] (tabs p hp)
          exact ⟨_, ok' p.2 _ z⟩
        refine ⟨rfl, ⟨fun b o e => ?_, fun b o e => ?_⟩, os, bare⟩
        · by_cases m : b ∈ TA
          · obtain ⟨p, hp, rfl⟩ := List.mem_map.mp m
            obtain ⟨more, hm⟩ := grew p hp
            rw [tb p hp] at e
            cases e
            exact .inr (.inl ⟨((tc p hp).tab (tb p hp)).isCodeTable, rfl, #[], more, rfl, by rw [Array.empty_append]; exact hm⟩)
          · exact .inl (stay b o m e)
        · by_cases m : b ∈ TA
          · obtain ⟨p, hp, rfl⟩ := List.mem_map.mp m
            obtain ⟨more, hm⟩ := grew p hp
            exact ⟨_, hm⟩
          · exact ⟨o, stay b o m e⟩
  cases lk : K.lookup a with
  | some o =>
    have e := inK a o lk
    rw [at_] at e
    cases e
    refine main (fun b => if b ∈ TA then some (.tbl #[]) else none) (fun p hp => if_pos (List.mem_map.mpr ⟨p, hp, rfl⟩)) (fun b nb => .inl (if_neg nb)) (.inr ⟨_, vs.toArray, _, lk, rfl, rfl, rfl, by rw [List.size_toArray, ln]; exact few, by simpa using rel⟩)
      (fun b u z => ?_) (fun b z => ?_) fun z => absurd (if_neg aT) z
    · by_cases m : b ∈ TA
      · have z1 := (if_pos m).symm.trans z
        cases z1
        exact tat b m
      · have z1 := (if_neg m).symm.trans z
        cases z1
    · by_cases m : b ∈ TA
      · exact .inr m
      · exact absurd (if_neg m) z
  | none =>
    refine main (fun b => if b = a then some (.frz { cls := .type "list", data := .seq vs.toArray } (.lst (ns.map V.int))) else if b ∈ TA then some (.tbl #[]) else none) (fun p hp => ?_) (fun b nb => ?_)
      (.inl (.inr ⟨{ cls := .type "list", data := .seq vs.toArray }, if_pos rfl⟩)) (fun b u z => ?_) (fun b z => ?_) fun _ => lk
    · have m : p.2 ∈ TA := List.mem_map.mpr ⟨p, hp, rfl⟩
      exact (if_neg fun z => aT (by rw [← z]; exact m)).trans (if_pos m)
    · by_cases e : b = a
      · exact .inr ⟨_, _, if_pos e⟩
      · exact .inl ((if_neg e).trans (if_neg nb))
    · by_cases e : b = a
      · have z1 := (if_pos e).symm.trans z
        cases z1
        subst e
        exact ⟨at_, by rw [List.length_map]; exact few, vs, _, rel, at_⟩
      · by_cases m : b ∈ TA
        · have z1 := ((if_neg e).trans (if_pos m)).symm.trans z
          cases z1
          exact tat b m
        · have z1 := ((if_neg e).trans (if_neg m)).symm.trans z
          cases z1
    · by_cases e : b = a
      · exact .inl e
      · by_cases m : b ∈ TA
        · exact .inr m
        · exact absurd ((if_neg e).trans (if_neg m)) z
theorem walkGT {l : PySem.W.OpenLaw} {n k : Nat} {q : Program} {loose : List Str} {XP : (Str → Option Value) → Heap → Prop} {YP : World → Heap → Prop} {d : DefRec} {K : Params → PySem.W.Frag} {sp : World → Sp} {x : Str}
    (hn : l.most = some n) (hn2 : n ≤ sizeLine) (hdf : d.params.defaults = []) (rm : Room k callerA) (hY : ∀ (w : World) (h : Heap), YP w h → (K w.params).In h)
    (F : ∀ (w : World) (mg : Str → Option Value) (fa : Addr) (h : Heap), YP w h → (K w.params).In h → h.Ns mainGlobals mg → mg d.name = some (.ref fa) →
      (∀ p ∈ tabsOf (K w.params), h.get? p.2 = some { cls := .none, data := .fields #[] } ∧ (K w.params).lookup p.2 = none ∧ PySem.W.CodeHd h p.1 p.2) ∧ ∃ fd : FuncData, (∀ (s : Shared) (u : Value), BindsTo s fd ⟨[u], []⟩ [(x, u)]) ∧
        ∀ base : Heap, (K w.params).In base → base.Ns mainGlobals mg → (∀ p ∈ tabsOf (K w.params), LamX.TabB base mg p.1 p.2) → FnG l.prog w (K w.params) mg base k fa fd [x] (sp w))
    (hsp : ∀ (w : World) (H : Hp) (a : Addr) (ns : List Int), ns.length ≤ n → Tbs (K w.params) H → SqL (K w.params) H a (ns.map V.int) → sp w [.ref a] H (fun v _ => v = .bl true) E0) :
    PySem.W.WalkO q loose XP YP l.row.toRowW d [] (fun f vs => PySem.call f vs) := by
  refine Att.attach_call hn hdf fun w s0 s1 mg mb fa o pm cd doc a vs ns G Y ho hd hcd hmg at_ are few gn => ?_
  have inK := hY w _ Y
  obtain ⟨tt, fd, bd, hF⟩ := F w mg fa _ Y inK G.T.g hmg
  exact lawGT inK G.T.g G.T.b G.T.builtins G.T.nolimit gn (fun p hp => (tt p hp).1) (fun p hp => (tt p hp).2.1) (fun p hp => (tt p hp).2.2) G.T.bmain at_ are (Nat.le_trans few hn2) rm hF bd fun H T sq => hsp w H a ns few T sq
end Dv
namespace Kv
open PySem PySem.Spec PyProof.Rows L2 Xg Dv Kd
abbrev F_take : FF := Ke.F_take
theorem m_take : MonoF F_take := Ke.m_take
end Kv
namespace Kd
open PySem PySem.Spec PyProof.Rows L2 Xg Dv
end Kd
namespace Ke
open PySem PySem.Spec PyProof.Rows L2 Xg Dv Kd
def f__law_pick : FS := (sRet (eBin gIx (eVar 1) (eCall F_take (aBox 0 (aCons (eCB (g1 lenD) (dCons (eVar 1) dNil)) aNil)))))
@[irreducible] def F__law_pick : FF := mkF 2 2 f__law_pick
def t__law_pick (K : PySem.W.Frag) : TS := (tRet (tOp (rIx K) (tVar 1) (tCallG (spD K 1 F_take) (tCons (tVar 0) (tCons (tCB (fun xs H Q => ∃ x n, xs = [x] ∧ LenV K x H n ∧ Q (.int n) H) (tCons (tVar 1) tNil)) tNil)))))
theorem s__law_pick (K : PySem.W.Frag) : SndS K (t__law_pick K) 1 f__law_pick := (snds_ret (snd_op ops_ix snd_var (snd_call m_take (snda_box (snda_cons (snd_cb cs_len (sndd_cons snd_var sndd_nil)) snda_nil)))))
theorem m__law_pick (K : PySem.W.Frag) : MonoF F__law_pick := by
  unfold F__law_pick
  exact mkF_mono (s__law_pick K)
@[irreducible] def f__law_line_0 : FS := (sRet (eTup (dCons (eVar 3) (dCons (eUn tupD (eL (fComp 100 (fRange1 (eVar 6)) [7] (gN 7) fYes (eBin gAdd (eC (.int 1)) (eCall F_take (aBox 0 (aCons (eVar 4) aNil))))))) dNil))))
def t__law_line_0 (K : PySem.W.Frag) : TS := (tRet (tTup (tCons (tVar 3) (tCons (tThen (tLc (iRng1 (tCons (tVar 6) tNil)) (gName 7) tYes (tOp (rAdd K) (tC (.int 1)) (tCallG (spD K 1 F_take) (tCons (tVar 0) (tCons (tVar 4) tNil)))) [7]) (kTup K)) tNil))))
theorem s__law_line_0 (K : PySem.W.Frag) : SndS K (t__law_line_0 K) 100 f__law_line_0 := by
  unfold f__law_line_0
  exact (snds_ret (snd_tup (sndd_cons snd_var (sndd_cons (snd_tupOf (SndL.d (sndl_comp (N := 100) (by decide) (sndi_range1 snd_var) (sndg_name (by decide)) sndt_yes (snd_op ops_add snd_int (snd_call m_take (snda_box (snda_cons snd_var snda_nil))))))) sndd_nil)) (by decide)))
@[irreducible] def f__law_line_1 : FS := (sSeq (sAsg (eBin gAdd (eVar 5) (eCall F_take (aBox 0 (aCons (eBin (gI fun i j => i - j) (eBin gAdd (eVar 1) (eC (.int 1))) (eVar 5)) aNil)))) (gN 6)) f__law_line_0)
def t__law_line_1 (K : PySem.W.Frag) : TS := (tSeq (tAsg (tOp (rAdd K) (tVar 5) (tCallG (spD K 1 F_take) (tCons (tVar 0) (tCons (tOp (rI0 fun i j => .int (i - j)) (tOp (rAdd K) (tVar 1) (tC (.int 1))) (tVar 5)) tNil)))) (gName 6)) (t__law_line_0 K))
theorem s__law_line_1 (K : PySem.W.Frag) : SndS K (t__law_line_1 K) 101 f__law_line_1 := by
  unfold f__law_line_1
  exact (snds_seq (snds_asg (vs := [6]) (snd_op ops_add snd_var (snd_call m_take (snda_box (snda_cons (snd_op ops_I (snd_op ops_add snd_var snd_int) snd_var) snda_nil)))) (sndg_name (by decide))) (s__law_line_0 K))
@[irreducible] def f__law_line_2 : FS := (sSeq (sAsg (eBin gAdd (eC (.int 1)) (eCB (g1 intD) (dCons (eBin gEq (eVar 3) (eC (.str "ring"))) dNil))) (gN 5)) f__law_line_1)
def t__law_line_2 (K : PySem.W.Frag) : TS := (tSeq (tAsg (tOp (rAdd K) (tC (.int 1)) (tCB (fun xs H Q => (∃ i, xs = [.int i] ∧ Q (.int i) H) ∨ ∃ k, xs = [.bl k] ∧ Q (.int (if k then 1 else 0)) H) (tCons (tOp (rEqX K) (tVar 3) (tC (.str "ring"))) tNil))) (gName 5)) (t__law_line_1 K))
theorem s__law_line_2 (K : PySem.W.Frag) : SndS K (t__law_line_2 K) 101 f__law_line_2 := by
  unfold f__law_line_2
  exact (snds_seq (snds_asg (vs := [5]) (snd_op ops_add snd_int (snd_cb cs_int (sndd_cons (snd_op ops_eq snd_var snd_str) sndd_nil))) (sndg_name (by decide))) (s__law_line_1 K))
def f__law_line : FS := (sSeq (sAsg (eTup (dCons (eCall F__law_pick (aBox 0 (aCons (eLst (dCons (eC (.str "row")) (dCons (eC (.str "row")) (dCons (eC (.str "ring")) dNil)))) aNil))) (dCons (eCall F__law_pick (aBox 0 (aCons (eLst (dCons (eC (.int 1)) (dCons (eC (.int 2)) (dCons (eVar 2) (dCons (eVar 2) dNil))))) aNil))) dNil))) (gT (gsCons (gN 3) (gsCons (gN 4) gsNil)))) f__law_line_2)
@[irreducible] def F__law_line : FF := mkF 3 8 f__law_line
def t__law_line (K : PySem.W.Frag) : TS := (tSeq (tAsg (tTup (tCons (tCallG (spD K 1 F__law_pick) (tCons (tVar 0) (tCons (tLst (tCons (tC (.str "row")) (tCons (tC (.str "row")) (tCons (tC (.str "ring")) tNil)))) tNil))) (tCons (tCallG (spD K 1 F__law_pick) (tCons (tVar 0) (tCons (tLst (tCons (tC (.int 1)) (tCons (tC (.int 2)) (tCons (tVar 2) (tCons (tVar 2) tNil))))) tNil))) tNil))) (fun v σ H Q => gTup K 2 (gCons (gName 3) (gCons (gName 4) gNil)) v σ H Q ∨ gLst K 2 (gCons (gName 3) (gCons (gName 4) gNil)) v σ H Q)) (t__law_line_2 K))
theorem s__law_line (K : PySem.W.Frag) : SndS K (t__law_line K) 103 f__law_line := (snds_seq (snds_asg (vs := [3, 4]) (snd_tup (sndd_cons (snd_call (m__law_pick K) (snda_box (snda_cons (SndL.d (sndl_lst (sndd_cons snd_str (sndd_cons snd_str (sndd_cons snd_str sndd_nil))) (by decide))) snda_nil))) (sndd_cons (snd_call (m__law_pick K) (snda_box (snda_cons (SndL.d (sndl_lst (sndd_cons snd_int (sndd_cons snd_int (sndd_cons snd_var (sndd_cons snd_var sndd_nil)))) (by decide))) snda_nil))) sndd_nil)) (by decide)) (sndg_tup (sndgs_cons (sndg_name (by decide)) (sndgs_cons (sndg_name (by decide)) sndgs_nil)) (gs_lenS gN_some (gs_lenS gN_some gs_len0)))) (s__law_line_2 K))
theorem m__law_line (K : PySem.W.Frag) : MonoF F__law_line := by
  unfold F__law_line
  exact mkF_mono (s__law_line K)
def f__law_gates : FS := (sRet (eBin gAdd (eCB (g1 lenD) (dCons (eBin gIx (eVar 0) (eC (.int 1))) dNil)) (eCB (g1 intD) (dCons (eBin gEq (eBin gIx (eVar 0) (eC (.int 0))) (eC (.str "row"))) dNil))))
@[irreducible] def F__law_gates : FF := mkF 1 1 f__law_gates
def t__law_gates (K : PySem.W.Frag) : TS := (tRet (tOp (rAdd K) (tCB (fun xs H Q => ∃ x n, xs = [x] ∧ LenV K x H n ∧ Q (.int n) H) (tCons (tOp (rIx K) (tVar 0) (tC (.int 1))) tNil)) (tCB (fun xs H Q => (∃ i, xs = [.int i] ∧ Q (.int i) H) ∨ ∃ k, xs = [.bl k] ∧ Q (.int (if k then 1 else 0)) H) (tCons (tOp (rEqX K) (tOp (rIx K) (tVar 0) (tC (.int 0))) (tC (.str "row"))) tNil))))
theorem s__law_gates (K : PySem.W.Frag) : SndS K (t__law_gates K) 0 f__law_gates := (snds_ret (snd_op ops_add (snd_cb cs_len (sndd_cons (snd_op ops_ix snd_var snd_int) sndd_nil)) (snd_cb cs_int (sndd_cons (snd_op ops_eq (snd_op ops_ix snd_var snd_int) snd_str) sndd_nil))))
theorem m__law_gates (K : PySem.W.Frag) : MonoF F__law_gates := by
  unfold F__law_gates
  exact mkF_mono (s__law_gates K)
@[irreducible] def f__law_widths_0 : FS := (sApp 4 (eIf (fOr (fTest (eBin gIs (eVar 6) (eC .none))) (fTest (eBin (gC fun i j => decide (i < j)) (eVar 6) (eC (.int 3))))) (eVar 6) (eBin gAdd (eC (.int 1)) (eCall F_take (aBox 0 (aCons (eVar 6) aNil))))))
def t__law_widths_0 (K : PySem.W.Frag) : TS := (tDrop (tBM K "list" rAppend (tVar 4) (tCons (tIf (tOr (tTest (tOp (fun x y H Q => y = .non ∧ Q (.bl (decide (x = .non))) H) (tVar 6) (tC .non))) (tTest (tOp (rI0 fun i j => .bl (decide (i < j))) (tVar 6) (tC (.int 3))))) (tVar 6) (tOp (rAdd K) (tC (.int 1)) (tCallG (spD K 1 F_take) (tCons (tVar 0) (tCons (tVar 6) tNil))))) tNil)))
theorem s__law_widths_0 (K : PySem.W.Frag) : SndS K (t__law_widths_0 K) 1 f__law_widths_0 := by
  unfold f__law_widths_0
  exact (snds_app (snd_if (sndt_or (sndt_test (snd_op ops_is snd_var snd_non)) (sndt_test (snd_op ops_C snd_var snd_int))) snd_var (snd_op ops_add snd_int (snd_call m_take (snda_box (snda_cons snd_var snda_nil))))))
@[irreducible] def f__law_widths_1 : FS := (sRet (eUn tupD (eVarV 4)))
def t__law_widths_1 (K : PySem.W.Frag) : TS := (tRet (tThen (tVar 4) (kTup K)))
theorem s__law_widths_1 (K : PySem.W.Frag) : SndS K (t__law_widths_1 K) 0 f__law_widths_1 := by
  unfold f__law_widths_1
  exact (snds_ret (snd_tupOf sndV_var))
@[irreducible] def f__law_widths_2 : FS := (sSeq (sIf (fAnd (fTest (eBin gEq (eBin gIx (eVar 1) (eC (.int 0))) (eC (.str "row")))) (fTest (eBin gEq (eCall F_take (aBox 0 (aCons (eC (.int 4)) aNil))) (eC (.int 0))))) (sOwn (fCat (eBin gAdd (eLst (dCons (eC (.int 0)) dNil)) (eSl (eVarV 4) (oSome (eC (.int 1))) (oSome (eUn negD (eC (.int 1)))))) (eLst (dCons (eC (.int 0)) dNil))) 4) sSkip) f__law_widths_1)
def t__law_widths_2 (K : PySem.W.Frag) : TS := (tSeq (tIfS (tAnd (tTest (tOp (rEqX K) (tOp (rIx K) (tVar 1) (tC (.int 0))) (tC (.str "row")))) (tTest (tOp (rEqX K) (tCallG (spD K 1 F_take) (tCons (tVar 0) (tCons (tC (.int 4)) tNil))) (tC (.int 0))))) (tAsg (tOp rCat (tOp (rAdd K) (tLst (tCons (tC (.int 0)) tNil)) (tSl (rSlX K) (tVar 4) (tPart (tC (.int 1))) (tPart (tUn (rU fun i => .int (-i)) (tC (.int 1)))))) (tLst (tCons (tC (.int 0)) tNil))) (gName 4)) tNext) (t__law_widths_1 K))
theorem s__law_widths_2 (K : PySem.W.Frag) : SndS K (t__law_widths_2 K) 1 f__law_widths_2 := by
  unfold f__law_widths_2
  exact (snds_seq (snds_if (sndt_and (sndt_test (snd_op ops_eq (snd_op ops_ix snd_var snd_int) snd_str)) (sndt_test (snd_op ops_eq (snd_call m_take (snda_box (snda_cons snd_int snda_nil))) snd_int))) (snds_own (sndl_cat (snd_op ops_add (SndL.d (sndl_lst (sndd_cons snd_int sndd_nil) (by decide))) (snd_sl sndV_var (sndo_some snd_int) (sndo_some (snd_un us_neg snd_int)))) (SndL.d (sndl_lst (sndd_cons snd_int sndd_nil) (by decide))))) snds_nil) (s__law_widths_1 K))
@[irreducible] def f__law_widths_3 : FS := (sSeq (sFor 100 (fRange1 (eCall F__law_gates (aCons (eVar 1) aNil))) (gN 5) (sSeq (sAsg (eCall F__law_pick (aBox 0 (aCons (eVar 3) aNil))) (gN 6)) f__law_widths_0)) f__law_widths_2)
def t__law_widths_3 (K : PySem.W.Frag) : TS := (tSeq (tFor (iRng1 (tCons (tCallG (spD K 0 F__law_gates) (tCons (tVar 1) tNil)) tNil)) (gName 5) (tSeq (tAsg (tCallG (spD K 1 F__law_pick) (tCons (tVar 0) (tCons (tVar 3) tNil))) (gName 6)) (t__law_widths_0 K))) (t__law_widths_2 K))
theorem s__law_widths_3 (K : PySem.W.Frag) : SndS K (t__law_widths_3 K) 201 f__law_widths_3 := by
  unfold f__law_widths_3
  exact (snds_seq (snds_for (vs := [5]) (N := 100) (sndi_range1 (snd_call (m__law_gates K) (snda_cons snd_var snda_nil))) (sndg_name (by decide)) (snds_seq (snds_asg (vs := [6]) (snd_call (m__law_pick K) (snda_box (snda_cons snd_var snda_nil))) (sndg_name (by decide))) (s__law_widths_0 K))) (s__law_widths_2 K))
@[irreducible] def f__law_widths_4 : FS := (sSeq (sOwn dNil 4) f__law_widths_3)
def t__law_widths_4 (K : PySem.W.Frag) : TS := (tSeq (tAsg (tLst tNil) (gName 4)) (t__law_widths_3 K))
theorem s__law_widths_4 (K : PySem.W.Frag) : SndS K (t__law_widths_4 K) 201 f__law_widths_4 := by
  unfold f__law_widths_4
  exact (snds_seq (snds_own (sndl_lst sndd_nil (by decide))) (s__law_widths_3 K))
def f__law_widths : FS := (sSeq (sAsg (eCall F__law_pick (aBox 0 (aCons (eLst (dCons (eLst (dCons (eC .none) dNil)) (dCons (eLst (dCons (eC .none) (dCons (eC .none) (dCons (eVar 2) dNil)))) (dCons (eLst (dCons (eVar 2) dNil)) (dCons (eLst (dCons (eC (.int 0)) (dCons (eC (.int 1)) (dCons (eVar 2) (dCons (eC .none) dNil))))) (dCons (eLst (dCons (eC (.int 1)) (dCons (eC (.int 2)) (dCons (eVar 2) dNil)))) dNil)))))) aNil))) (gN 3)) f__law_widths_4)
@[irreducible] def F__law_widths : FF := mkF 3 7 f__law_widths
def t__law_widths (K : PySem.W.Frag) : TS := (tSeq (tAsg (tCallG (spD K 1 F__law_pick) (tCons (tVar 0) (tCons (tLst (tCons (tLst (tCons (tC .non) tNil)) (tCons (tLst (tCons (tC .non) (tCons (tC .non) (tCons (tVar 2) tNil)))) (tCons (tLst (tCons (tVar 2) tNil)) (tCons (tLst (tCons (tC (.int 0)) (tCons (tC (.int 1)) (tCons (tVar 2) (tCons (tC .non) tNil))))) (tCons (tLst (tCons (tC (.int 1)) (tCons (tC (.int 2)) (tCons (tVar 2) tNil)))) tNil)))))) tNil))) (gName 3)) (t__law_widths_4 K))
theorem s__law_widths (K : PySem.W.Frag) : SndS K (t__law_widths K) 202 f__law_widths := (snds_seq (snds_asg (vs := [3]) (snd_call (m__law_pick K) (snda_box (snda_cons (SndL.d (sndl_lst (sndd_cons (SndL.d (sndl_lst (sndd_cons snd_non sndd_nil) (by decide))) (sndd_cons (SndL.d (sndl_lst (sndd_cons snd_non (sndd_cons snd_non (sndd_cons snd_var sndd_nil))) (by decide))) (sndd_cons (SndL.d (sndl_lst (sndd_cons snd_var sndd_nil) (by decide))) (sndd_cons (SndL.d (sndl_lst (sndd_cons snd_int (sndd_cons snd_int (sndd_cons snd_var (sndd_cons snd_non sndd_nil)))) (by decide))) (sndd_cons (SndL.d (sndl_lst (sndd_cons snd_int (sndd_cons snd_int (sndd_cons snd_var sndd_nil))) (by decide))) sndd_nil))))) (by decide))) snda_nil))) (sndg_name (by decide))) (s__law_widths_4 K))
theorem m__law_widths (K : PySem.W.Frag) : MonoF F__law_widths := by
  unfold F__law_widths
  exact mkF_mono (s__law_widths K)
end Ke
namespace Kd
open PySem PySem.Spec PyProof.Rows L2 Xg Dv
def mnO : List Int → Option Int
  | [] => none
  | x :: r => some (mn (x :: r))
theorem mnO_iff {l : List Int} {z : Int} : mnO l = some z ↔ z ∈ l ∧ ∀ y ∈ l, z ≤ y := by
  cases l with
  | nil => simp [mnO]
  | cons x r =>
    show some (mn (x :: r)) = some z ↔ _
    rw [Option.some.injEq]
    constructor
    · rintro rfl
      exact ⟨mn_mem (by simp), fun y hy => mn_le hy⟩
    · intro h
      exact (mn_is h.1 h.2).symm
theorem mnO_ex {l : List Int} (h : l ≠ []) : ∃ z, mnO l = some z := by
  cases l with
  | nil => exact absurd rfl h
  | cons x r => exact ⟨_, rfl⟩
def opl : Option Int → Option Int → Option Int
  | some a, some b => some (a + b)
  | _, _ => none
theorem opl_iff {r c : Option Int} {z : Int} : opl r c = some z ↔ ∃ a b, r = some a ∧ c = some b ∧ z = a + b := by
  cases r <;> cases c <;> simp [opl, eq_comm]
def sums (n : Nat) (r c : Nat → Option Int) : List Int := (List.range n).filterMap fun j => opl (r j) (c j)
theorem mem_sums {n : Nat} {r c : Nat → Option Int} {z : Int} : z ∈ sums n r c ↔ ∃ j a b, j < n ∧ r j = some a ∧ c j = some b ∧ z = a + b := by
  unfold sums
  rw [List.mem_filterMap]
  constructor
  · rintro ⟨j, hj, e⟩
    obtain ⟨a, b, h1, h2, h3⟩ := opl_iff.mp e
    exact ⟨j, a, b, List.mem_range.mp hj, h1, h2, h3⟩
  · rintro ⟨j, a, b, hj, h1, h2, h3⟩
    exact ⟨j, List.mem_range.mpr hj, opl_iff.mpr ⟨a, b, h1, h2, h3⟩⟩
def lsm (n : Nat) (r c : Nat → Option Int) : Option Int := mnO (sums n r c)
theorem lsm_le {n : Nat} {r c : Nat → Option Int} {z m : Int} (h : lsm n r c = some z) : m ≤ z ↔ ∀ j a b, j < n → r j = some a → c j = some b → m ≤ a + b := by
  obtain ⟨h1, h2⟩ := mnO_iff.mp h
  obtain ⟨j, a, b, hj, ha, hb, hz⟩ := mem_sums.mp h1
  constructor
  · intro g j a b hj ha hb
    exact Int.le_trans g (h2 _ (mem_sums.mpr ⟨j, a, b, hj, ha, hb, rfl⟩))
  · intro g
    rw [hz]
    exact g j a b hj ha hb
theorem lsm_ex {n : Nat} {r c : Nat → Option Int} {j : Nat} {a b : Int} (hj : j < n) (ha : r j = some a) (hb : c j = some b) : ∃ z, lsm n r c = some z :=
  mnO_ex fun e => by
    have : a + b ∈ sums n r c := mem_sums.mpr ⟨j, a, b, hj, ha, hb, rfl⟩
    rw [e] at this
    cases this
abbrev Gr := Nat → Nat → Option Int
def nmb (x : List Int) : Nat → Option Int := fun j => some (x.getD j 0)
def ngb (x : List Int) : Nat → Option Int := fun j => some (-x.getD j 0)
def ledG (n : Nat) (G : Gr) (x : List Int) : List Int := vec n fun i => (lsm n (G i) (nmb x)).getD 0
def ledB (n : Nat) (G : Gr) (y : List Int) : List Int := vec n fun j => -(lsm n (fun i => G i j) (ngb y)).getD 0
def chG (n : Nat) (G H : Gr) : Gr := fun i m => lsm n (G i) (fun j => H j m)
section
variable {row : Bool} {rooms h0 x y : List Int} {ws : List (Option Int)} {G H : Gr} {k l : Nat}
abbrev nG (row : Bool) (rooms : List Int) : Nat := gts row rooms.length
abbrev bws (b : Bool) (ws : List (Option Int)) (k : Nat) : List (Bool × List (Option Int)) := List.replicate k (b, ws)
theorem bws_add {b : Bool} : bws b ws (k + l) = bws b ws k ++ bws b ws l := List.replicate_append_replicate.symm
theorem bws_tb {b : Bool} : tb (bws b ws k) = bws (!b) ws k := by
  unfold tb bws
  rw [List.reverse_replicate, List.map_replicate]
theorem bws_hr {b : Bool} {n : Nat} (h : ws.length = n) : ∀ s ∈ bws b ws k, s.1 = b ∧ s.2.length = n := fun s m => by
  obtain ⟨_, rfl⟩ := List.mem_replicate.mp m
  exact ⟨rfl, h⟩
theorem run_add {b : Bool} : runX row rooms h0 (bws b ws (k + l)) x = runX row rooms h0 (bws b ws l) (runX row rooms h0 (bws b ws k) x) := by
  rw [bws_add, runX_app]
structure Gk (row : Bool) (rooms h0 : List Int) (ws : List (Option Int)) (k : Nat) (G : Gr) : Prop where
  iff : ∀ x y : List Int, x.length = nG row rooms → y.length = nG row rooms → (Le (nG row rooms) y (runX row rooms h0 (bws true ws k) x) ↔ ∀ i j a, i < nG row rooms → j < nG row rooms → G i j = some a → y.getD i 0 ≤ a + x.getD j 0)
  rw : ∀ i, i < nG row rooms → ∃ j a, j < nG row rooms ∧ G i j = some a
  cl : ∀ j, j < nG row rooms → ∃ i a, i < nG row rooms ∧ G i j = some a
theorem Gk.ex (g : Gk row rooms h0 ws k G) {i : Nat} (hi : i < nG row rooms) : ∃ z, lsm (nG row rooms) (G i) (nmb x) = some z := by
  obtain ⟨j, a, hj, e⟩ := g.rw i hi
  exact lsm_ex hj e rfl
theorem Gk.exB (g : Gk row rooms h0 ws k G) {j : Nat} (hj : j < nG row rooms) : ∃ z, lsm (nG row rooms) (fun i => G i j) (ngb x) = some z := by
  obtain ⟨i, a, hi, e⟩ := g.cl j hj
  exact lsm_ex hi e rfl
theorem ledG_len {n : Nat} : (ledG n G x).length = n := vec_len
theorem ledB_len {n : Nat} : (ledB n G x).length = n := vec_len
theorem Gk.le (g : Gk row rooms h0 ws k G) {i : Nat} {m : Int} (hi : i < nG row rooms) : m ≤ (ledG (nG row rooms) G x).getD i 0 ↔ ∀ j a, j < nG row rooms → G i j = some a → m ≤ a + x.getD j 0 := by
  unfold ledG
  rw [vec_get hi]
  obtain ⟨z, e⟩ := g.ex (x := x) hi
  rw [e]
  show m ≤ z ↔ _
  rw [lsm_le e]
  constructor
  · intro h j a hj ha
    exact h j a _ hj ha rfl
  · intro h j a b hj ha hb
    cases hb
    exact h j a hj ha
theorem Gk.leB (g : Gk row rooms h0 ws k G) {j : Nat} {m : Int} (hj : j < nG row rooms) : (ledB (nG row rooms) G y).getD j 0 ≤ m ↔ ∀ i a, i < nG row rooms → G i j = some a → y.getD i 0 ≤ a + m := by
  unfold ledB
  rw [vec_get hj]
  obtain ⟨z, e⟩ := g.exB (x := y) hj
  rw [e]
  show -z ≤ m ↔ _
  rw [show -z ≤ m ↔ -m ≤ z by omega, lsm_le e]
  constructor
  · intro h i a hi ha
    have := h i a _ hi ha rfl
    omega
  · intro h i a b hi ha hb
    cases hb
    have := h i a hi ha
    omega
theorem Gk.led (g : Gk row rooms h0 ws k G) (lx : x.length = nG row rooms) : ledG (nG row rooms) G x = runX row rooms h0 (bws true ws k) x := by
  have l1 : (runX row rooms h0 (bws true ws k) x).length = nG row rooms := by rw [runX_len, lx]
  have key : ∀ y : List Int, y.length = nG row rooms → (Le (nG row rooms) y (ledG (nG row rooms) G x) ↔ Le (nG row rooms) y (runX row rooms h0 (bws true ws k) x)) := fun y ly => by
    rw [g.iff x y lx ly]
    constructor
    · intro h i j a hi hj e
      exact (g.le hi).mp (h i hi) j a hj e
    · intro h i hi
      exact (g.le hi).mpr fun j a hj e => h i j a hi hj e
  exact Le.anti ledG_len l1 ((key _ ledG_len).mp Le.refl) ((key _ l1).mpr Le.refl)
theorem Gk.back (n0 : 0 < rooms.length) (lh : h0.length = rooms.length) (lw : ws.length = nG row rooms) (g : Gk row rooms h0 ws k G) (ly : y.length = nG row rooms) : ledB (nG row rooms) G y = runX row rooms h0 (bws false ws k) y := by
  have l1 : (runX row rooms h0 (bws false ws k) y).length = nG row rooms := by rw [runX_len, ly]
  have key : ∀ x : List Int, x.length = nG row rooms → (Le (nG row rooms) (ledB (nG row rooms) G y) x ↔ Le (nG row rooms) (runX row rooms h0 (bws false ws k) y) x) := fun x lx => by
    have z := mates n0 lh (bws true ws k) x y (bws_hr lw) lx ly
    rw [bws_tb] at z
    rw [show (false = !true) from rfl, ← z, g.iff x y lx ly]
    constructor
    · intro h i j a hi hj e
      exact (g.leB hj).mp (h j hj) i a hi e
    · intro h j hj
      exact (g.leB hj).mpr fun i a hi e => h i j a hi hj e
  exact Le.anti ledB_len l1 ((key _ l1).mpr Le.refl) ((key _ ledB_len).mp Le.refl)
theorem Gk.ch (g : Gk row rooms h0 ws k G) (h : Gk row rooms h0 ws l H) : Gk row rooms h0 ws (l + k) (chG (nG row rooms) G H) := by
  refine ⟨fun x y lx ly => ?_, fun i hi => ?_, fun m hm => ?_⟩
  · have l1 : (runX row rooms h0 (bws true ws l) x).length = nG row rooms := by rw [runX_len, lx]
    rw [run_add, g.iff _ y l1 ly, ← h.led lx]
    constructor
    · intro q i m c hi hm e
      have e : lsm (nG row rooms) (G i) (fun j => H j m) = some c := e
      obtain ⟨f1, f2⟩ := mnO_iff.mp e
      obtain ⟨j, a, b, hj, ha, hb, hz⟩ := mem_sums.mp f1
      have z := q i j a hi hj ha
      have z : y.getD i 0 - a ≤ (ledG (nG row rooms) H x).getD j 0 := by omega
      have := (h.le hj).mp z m b hm hb
      omega
    · intro q i j a hi hj e
      have z : y.getD i 0 - a ≤ (ledG (nG row rooms) H x).getD j 0 := (h.le hj).mpr fun m b hm hb => by
        obtain ⟨c, hc⟩ := lsm_ex (r := G i) (c := fun j => H j m) hj e hb
        have z1 := q i m c hi hm hc
        have z2 := (lsm_le hc).mp (Int.le_refl c) j a b hj e hb
        omega
      omega
  · obtain ⟨j, a, hj, ha⟩ := g.rw i hi
    obtain ⟨m, b, hm, hb⟩ := h.rw j hj
    obtain ⟨c, hc⟩ := lsm_ex (r := G i) (c := fun j => H j m) hj ha hb
    exact ⟨m, c, hm, hc⟩
  · obtain ⟨j, b, hj, hb⟩ := h.cl m hm
    obtain ⟨i, a, hi, ha⟩ := g.cl j hj
    obtain ⟨c, hc⟩ := lsm_ex (r := G i) (c := fun j => H j m) hj ha hb
    exact ⟨i, c, hi, hc⟩
def gbI (row : Bool) (n i : Nat) : Int := if row = true then (i : Int) - 1 else ((i : Int) - 1) % (n : Int)
def cl1 (row : Bool) (rooms h0 : List Int) (ws : List (Option Int)) (i j : Nat) : List Int :=
  (if i = j then (ws.getD i none).toList else []) ++ (if (j : Int) = gbI row rooms.length i then [h0.getD j 0] else []) ++ (if (i : Int) = gbI row rooms.length j then [rooms.getD i 0 - h0.getD i 0] else [])
def c1 (row : Bool) (rooms h0 : List Int) (ws : List (Option Int)) : Gr := fun i j => mnO (cl1 row rooms h0 ws i j)
end
end Kd
namespace Kd
open PySem PySem.Spec PyProof.Rows L2 Xg Dv
section
variable {k kw ks row : Bool} {rooms h0 x y : List Int} {ws : List (Option Int)} {G H : Gr} {Q : PyData → Prop} {i j n : Nat}
theorem comp_row {g : FG} {te : FE} {ρ : List Sl} {R : List PyData → Prop} {ds : List PyData} {n : Nat} (f : Nat → PyData) (hn : ds.length = n) (hs : ∀ i d, i < n → ds[i]? = some d → ∀ P : PyData → Prop, P (f i) → g d ρ fun ρ' => te ρ' P) (q : R ((List.range n).map f)) : compD g fYes te ρ ds [] R := by
  refine comp_at f ds [] 0 (fun i d hd P hp => hs i d (by rw [← hn]; exact (List.getElem?_eq_some_iff.mp hd).1) hd P (by rw [Nat.zero_add] at hp; exact hp)) ?_
  rw [hn, List.nil_append, ← List.range_eq_range']
  exact q
end
end Kd
namespace Kd
open PySem PySem.Spec PyProof.Rows L2 Xg Dv
section
variable {k kw ks row : Bool} {rooms h0 x y : List Int} {ws : List (Option Int)} {G H : Gr} {Q : PyData → Prop} {i j n m : Nat}
end
end Kd
namespace Kd
open PySem PySem.Spec PyProof.Rows L2 Xg Dv
section
variable {k kw ks row : Bool} {rooms h0 x y : List Int} {ws : List (Option Int)} {G H : Gr} {Q : PyData → Prop} {i j n m : Nat}
structure Fg8 (row : Bool) (rooms h0 : List Int) (ws : List (Option Int)) : Prop where
  n0 : 0 < rooms.length
  nz : rooms.length ≤ 24
  lh : h0.length = rooms.length
  lw : ws.length = nG row rooms
abbrev zr (n : Nat) : List Int := vec n fun _ => 0
end
end Kd
namespace Ke
open PySem PySem.Spec PyProof.Rows L2 Xg Dv Kd
theorem pick_of {ds : List PyData} {Q : PyData → Prop} (h0 : 0 < ds.length) (hz : ds.length < 1000) (q : ∀ d ∈ ds, Q d) : F__law_pick [.box, .dt (.list ds)] Q := by
  unfold F__law_pick
  refine ⟨rfl, ⟨⟨by omega, by omega⟩, fun r r0 r1 => ?_⟩⟩
  show atQ (L2.atI ds r) Q
  have e : r = ((r.toNat : Nat) : Int) := by omega
  have l : r.toNat < ds.length := by omega
  rw [e, atI_nat (List.getElem?_eq_getElem l)]
  exact q _ (List.getElem_mem l)
theorem cut_mid {x y : PyData} {m : List PyData} : Dv.cutD (x :: (m ++ [y])) (some 1) (some (-1)) = m := by
  have l : (x :: (m ++ [y])).length = m.length + 2 := by simp
  have e : HT.sIx (m.length + 2) 0 (some 1) = 1 := by
    unfold HT.sIx
    simp
  have e' : HT.sIx (m.length + 2) (m.length + 2) (some (-1)) = m.length + 1 := by
    unfold HT.sIx
    simp
    omega
  unfold Dv.cutD
  rw [l, e, e']
  show (m ++ [y]).take m.length = m
  rw [List.take_left]
theorem take_of {n : Int} {Q : PyData → Prop} (h0 : 0 < n) (h1 : n < 4611686018427387904) (q : ∀ r, 0 ≤ r → r < n → Q (.int r)) : F_take [.box, .dt (.int n)] Q := ⟨⟨h0, h1⟩, q⟩
abbrev wdBody : FS := (sSeq (sAsg (eCall F__law_pick (aBox 0 (aCons (eVar 3) aNil))) (gN 6)) f__law_widths_0)
end Ke
namespace Ke
open PySem PySem.Spec PyProof.Rows L2 Xg Dv Kd
section
variable {row b : Bool} {rooms hs : List Int} {ws : List (Option Int)}
end
end Ke
namespace Ke
open PySem PySem.Spec PyProof.Rows L2 Xg Dv Kd
section
variable {row b : Bool} {rooms hs : List Int} {ws : List (Option Int)} {Q : PyData → Prop}
def sg (b : Bool) : Int := if b = true then 1 else -1
end
end Ke
namespace Kd
open PySem PySem.Spec PyProof.Rows L2 Xg Dv
structure Lf (d : PyData) : Prop where
  sh : d.showable = true
  di : d.hasDict = false
  dp : d.depth = 0
  lv : d.leavesShort 13 = true
  wt : d.weight ≤ 40
end Kd
namespace Ke
open PySem PySem.Spec PyProof.Rows L2 Xg Dv Kd
end Ke
namespace Kd
open PySem PySem.Spec PyProof.Rows L2 Xg Dv
section
variable {row b : Bool} {rooms hs x y : List Int} {ws : List (Option Int)} {Q : PyData → Prop} {k m : Nat}
end
end Kd
namespace Kd
open PySem PySem.Spec PyProof.Rows L2 Xg Dv
section
variable {k kw ks row b : Bool} {rooms rooms' hs x y x' y' : List Int} {ws ws' : List (Option Int)} {Q : PyData → Prop} {m n L many : Nat}
def Wle (n : Nat) (ws ws' : List (Option Int)) : Prop := ∀ j a, j < n → ws'.getD j none = some a → ∃ c, ws.getD j none = some c ∧ c ≤ a
theorem Wle.refl : Wle n ws ws := fun j a _ e => ⟨a, e, Int.le_refl _⟩
end
end Kd
namespace Kd
open PySem PySem.Spec PyProof.Rows L2 Xg Dv
section
variable {k kw ks row : Bool} {rooms h0 x y : List Int} {ws : List (Option Int)} {Q : PyData → Prop} {kl : Nat} {ds : List PyData} {P : List Int → Bool}
def Tk (row : Bool) (rooms h0 : List Int) (ws : List (Option Int)) (b : Nat) : List Int := runX row rooms h0 (bws true ws b) (zr (nG row rooms))
theorem Tk_add {b c : Nat} : Tk row rooms h0 ws (b + c) = runX row rooms h0 (bws true ws c) (Tk row rooms h0 ws b) := run_add
theorem Tk_still {b : Nat} (h : Tk row rooms h0 ws (b + 1) = Tk row rooms h0 ws b) : ∀ d, Tk row rooms h0 ws (b + d) = Tk row rooms h0 ws b
  | 0 => rfl
  | d + 1 => by
    have e : Tk row rooms h0 ws (b + (d + 1)) = runX row rooms h0 (bws true ws 1) (Tk row rooms h0 ws (b + d)) := by rw [← Tk_add]; rfl
    rw [e, Tk_still h d, ← Tk_add, h]
structure LamS (kl : Nat) (ds : List PyData) (P : List Int → Bool) (n : Nat) : Prop where
  says : ∀ x : List Int, x.length = n → lamV kl ds (iq false x) = some (.bool (P x))
theorem LamS.w {n : Nat} (L : LamS kl ds P n) {R : PyData → Prop} (lx : x.length = n) (r : R (.bool (P x))) : lamW kl ds (iq false x) R := by
  unfold lamW
  rw [L.says x lx]
  exact r
structure Wh (row : Bool) (rooms h0 : List Int) (ws : List (Option Int)) (P : List Int → Bool) : Prop where
  up : ∀ b, P (Tk row rooms h0 ws b) = true → P (Tk row rooms h0 ws (b + 1)) = true
  en : ∃ B, B ≤ 2 ^ 10000 ∧ (P (Tk row rooms h0 ws B) = true ∨ Tk row rooms h0 ws (B + 1) = Tk row rooms h0 ws B)
theorem Wh.le (W : Wh row rooms h0 ws P) {b : Nat} (h : P (Tk row rooms h0 ws b) = true) : ∀ d, P (Tk row rooms h0 ws (b + d)) = true
  | 0 => h
  | d + 1 => W.up _ (W.le h d)
theorem Wh.le' (W : Wh row rooms h0 ws P) {b c : Nat} (h : P (Tk row rooms h0 ws b) = true) (l : b ≤ c) : P (Tk row rooms h0 ws c) = true := by
  have := W.le h (c - b)
  rwa [show b + (c - b) = c by omega] at this
theorem Wh.never (W : Wh row rooms h0 ws P) {b : Nat} (h : P (Tk row rooms h0 ws b) = false) (st : Tk row rooms h0 ws (b + 1) = Tk row rooms h0 ws b) : ∀ c, P (Tk row rooms h0 ws c) = false := fun c => by
  by_cases l : c ≤ b
  · cases e : P (Tk row rooms h0 ws c) with
    | false => rfl
    | true => rw [W.le' e l] at h; cases h
  · rw [show c = b + (c - b) by omega, Tk_still st, h]
end
end Kd
namespace Kd
open PySem PySem.Spec PyProof.Rows L2 Xg Dv
section
variable {k kw ks row : Bool} {rooms h0 x y : List Int} {ws : List (Option Int)} {Q : PyData → Prop}
structure Wg (row : Bool) (rooms h0 : List Int) (ws : List (Option Int)) : Prop where
  f : Fg8 row rooms h0 ws
  n2 : row = false → 2 ≤ rooms.length
  v : Vd rooms h0
  w : Wn ws
  hr : ∀ i, i < rooms.length → rooms.getD i 0 ≤ 10 ^ 20
end
end Kd
namespace Kd
open PySem PySem.Spec PyProof.Rows L2 Xg Dv
section
variable {Q : PyData → Prop} {row : Bool} {rooms hs ks : List Int} {run : List (Bool × List (Option Int))}
end
end Kd
namespace Zq
open PySem PySem.Spec PyProof.Rows L2
open PySem.Sem (wp)
section
variable {prog : Program} {w : World} {A : Around} {E : Value → Shared → Prop} {s : Shared}
end
end Zq
namespace Ez
open PySem PySem.Spec PyProof.Rows L2 Zq Xg
end Ez
namespace Dv
open PySem PySem.Spec PyProof.Rows L2 Xg
open Classical
section
variable {K : PySem.W.Frag} {md : Bool} {ta tb : TE} {ca cb : Nat} {fa fb : FE}
end
end Dv
namespace Dv
open PySem PySem.Spec PyProof.Rows L2 Xg
theorem DaL.at {K : PySem.W.Frag} {H : Hp} : ∀ {vs : List V} {ds : List PyData} {i : Nat} {v : V} {d : PyData}, DaL K H vs ds → vs[i]? = some v → ds[i]? = some d → Da K H v d
  | _, _, 0, _, _, .cons a _, h1, h2 => by
    cases h1
    cases h2
    exact a
  | _, _, i + 1, _, _, .cons _ b, h1, h2 => DaL.at (i := i) b h1 h2
  | _, _, _, _, _, .nil, h1, _ => by simp at h1
end Dv
namespace Dv
open PySem PySem.Spec PyProof.Rows L2 Xg
end Dv
namespace Dv
open PySem PySem.Spec PyProof.Rows L2 Xg
open Classical
section
variable {X : Cx}
structure Mf (P : Program) (w : World) (K : PySem.W.Frag) (mg : Str → Option Value) (base : Heap) (m : Str) (ps : List Str) (k : Nat) (sp : Sp) : Prop where
  ex : ∃ (C f : Addr) (fd : FuncData), TbF K C ∧ Meth K C m f ∧ FnG P w K mg base k f fd ps sp ∧ L2.Binds K fd ps []
structure Mi (P : Program) (w : World) (K : PySem.W.Frag) (mg : Str → Option Value) (base : Heap) (ps : List Str) (k : Nat) (sp : Sp) : Prop where
  ex : ∃ (C f : Addr) (fd : FuncData), TbF K C ∧ L2.Mk K C f ∧ mg "Table" = some (.ref C) ∧ FnG P w K mg base k f fd ps sp ∧ L2.Binds K fd ps []
end
section
variable {K : PySem.W.Frag} {md : Bool} {ta tb te : TE} {ca cb c : Nat} {fa fb fe : FE} {tr : TA} {cr : Nat} {fr : FA}
theorem ArgL.ex {b : Option Addr} {S T : Addr → Prop} {H H' : Hp} (e : Evl.Ex (rm H S) (rm H' T)) : ∀ {vs : List V} {as : List Sl}, ArgL K b S H vs as → ArgL K b T H' vs as
  | _, _, .nil => .nil
  | _, _, .cons (s := s) a r => .cons (by
      cases s with
      | dt d => exact Da.mono e a
      | box => exact a
      | scr ns => exact let ⟨p, e1, g⟩ := a; ⟨p, e1, Evl.ex_l e g⟩
      | op g => exact TbO.mono e a
      | fn k ds => exact LamV.mono e a
      | exc k ds => exact a.elim
      | dct k => exact a.elim
      | dck k => exact DcO.mono e a
      | frt k => exact a.elim
      | no => exact a.elim
      | own _ => exact a.elim) (ArgL.ex e r)
end
end Dv
namespace Dv
open PySem PySem.Spec PyProof.Rows L2 Xg
open Classical
section
variable {K : PySem.W.Frag}
theorem BxO.chg {b : Option Addr} {H : Hp} {m : Nat} {x : Addr} {o : HO} (h : BxO b H m) (n : b ≠ some x) : BxO b (upd H x o) m := by
  cases b with
  | none => trivial
  | some p =>
    obtain ⟨i, y, z, h1, h2, h3, h4, h5, h6⟩ := h
    exact ⟨i, y, z, h1, h2, h3, h4, h5, (upd_ne fun e => n (by rw [e])).trans h6⟩
section
variable {P : Program} {w : World} {mg : Str → Option Value} {base : Heap}
end
end
end Dv
namespace Dv
open PySem PySem.Spec PyProof.Rows L2 Xg
open Classical
section
variable {K : PySem.W.Frag} {c : Nat} {tr : TA} {cr : Nat} {fr : FA}
end
end Dv
namespace Sl
open PySem PySem.Spec PyProof.Rows L2
section
variable {P : Program} {w : World} {A : Around} {E : Value → Shared → Prop} {s : Shared}
abbrev bare (w : World) : Obj := { cls := .type "set", dict := none, data := .set #[] 0 (.fresh 0 0 (!w.params.followText "set-order")) }
end
end Sl
namespace Dv
open PySem PySem.Spec PyProof.Rows L2 Xg
section
variable {K : PySem.W.Frag}
end
end Dv
namespace Dv
open PySem PySem.Spec PyProof.Rows L2 Xg
open Classical
section
variable {K : PySem.W.Frag} {tr tr2 : TA} {cr cr2 : Nat} {fr fr2 : FA}
end
end Dv
namespace Kd
open PySem PySem.Spec PyProof.Rows L2 Xg Dv
end Kd
namespace Dv
open PySem PySem.Spec PyProof.Rows L2 Xg
variable {K : PySem.W.Frag}
end Dv
namespace Dv
open PySem PySem.Spec PyProof.Rows L2 Xg
section
variable {K : PySem.W.Frag}
variable {ta tb : TE} {ca cb : Nat} {fa fb : FE} {md md2 : Bool}
end
end Dv
namespace Dv
open PySem PySem.Spec PyProof.Rows L2 Xg
open Classical
section
variable {K : PySem.W.Frag} {H : Hp} {S T : Addr → Prop}
end
section
variable {K : PySem.W.Frag} {b : Option Addr} {H H' : Hp} {S T : Addr → Prop} {m n c cr : Nat} {md : Bool} {tr : TA} {fr : FA} {t : TE} {tt : TT} {f : FE} {ft : FT} {σ : L2.St} {ρ : List Sl}
def HL (H : Hp) (S : Addr → Prop) : Addr → Prop := fun a => S a ∨ ∃ xs, H a = some (.lst xs)
theorem HL.al (al : Al S H) : Al (HL H S) H := fun a h => by
  rcases h with h | ⟨xs, e⟩
  · exact al a h
  · exact ⟨_, e, rfl⟩
theorem HL.new {a : Addr} {xs : List V} (st : Stp K b H H') (bs : ∀ p, b = some p → S p) (n : ¬ HL H S a) (e : H' a = some (.lst xs)) : H a = none := by
  cases z : H a with
  | none => rfl
  | some o =>
    exfalso
    have g := st a o (fun w => n (.inl (bs a w))) z
    cases t : isT o with
    | false =>
      have := g.eq t
      rw [e] at this
      cases this
      exact n (.inr ⟨_, z⟩)
    | true =>
      cases o with
      | tbl ps =>
        obtain ⟨⟨qs, e2⟩, _⟩ := g
        rw [e] at e2
        cases e2
      | _ => cases t
end
end Dv
namespace Dv
open PySem PySem.Spec PyProof.Rows L2 Xg
open Classical
def valD (kvs : List (List L2.Key × PyData)) (k : List L2.Key) : Option PyData := (kvs.find? fun kv => decide (kv.1 = k)).map (·.2)
theorem valD_pos {p : List L2.Key × PyData} {r : List (List L2.Key × PyData)} {k : List L2.Key} (e : p.1 = k) : valD (p :: r) k = some p.2 := by simp [valD, List.find?_cons, e]
theorem valD_neg {p : List L2.Key × PyData} {r : List (List L2.Key × PyData)} {k : List L2.Key} (e : ¬ p.1 = k) : valD (p :: r) k = valD r k := by simp [valD, List.find?_cons, e]
section
variable {K : PySem.W.Frag} {H : Hp}
theorem DaK.len : ∀ {ws : List (List L2.Key × V)} {kvs : List (List L2.Key × PyData)}, DaK K H ws kvs → ws.length = kvs.length
  | _, _, .nil => rfl
  | _, _, .cons _ g => by rw [List.length_cons, List.length_cons, DaK.len g]
theorem DaK.val {k : List L2.Key} : ∀ {ws : List (List L2.Key × V)} {kvs : List (List L2.Key × PyData)}, DaK K H ws kvs → (valV ws k = none ∧ valD kvs k = none) ∨ ∃ v d, valV ws k = some v ∧ valD kvs k = some d ∧ Da K H v d
  | _, _, .nil => .inl ⟨rfl, rfl⟩
  | (j, v) :: ws, (_, d) :: kvs, .cons h g => by
    by_cases e : j = k
    · exact .inr ⟨v, d, valV_pos e, valD_pos e, h⟩
    · rw [valV_neg (p := (j, v)) e, valD_neg (p := (j, d)) e]
      exact g.val
end
section
variable {K : PySem.W.Frag} {b : Option Addr} {S G : Addr → Prop} {m n c ca cb : Nat} {H H0 H' : Hp} {b0 : Option Addr} {os : Nat → Option Addr} {σ : L2.St} {ρ : List Sl} {ty ta tx : TE} {fk fa fx : FE} {i : Nat}
theorem Tbs.dct {p : Addr} {o : HO} {ws : List (List L2.Key × V)} (h : Tbs K H) (e : H p = some (.dT ws)) : Tbs K (upd H p o) := h.chg (fun ps z => by rw [e] at z; cases z) fun q z => by rw [e] at z; unfold LamX.CodeO at z; cases z
theorem HoLe.dct {c p : Addr} {u o : HO} {ws : List (List L2.Key × V)} (ne : c ≠ p) (h : H c = some u) (e : H p = some (.dT ws)) : HoLe K H (upd H p o) c u := .chg ne h (fun ps z => by rw [e] at z; cases z) fun q z => by rw [e] at z; unfold LamX.CodeO at z; cases z
theorem snds_extM (a : Snd true K ta ca fa) : SndS K (tDrop (tBM K "list" rExtend (tVar i) (tCons ta tNil))) ca (sExt i fa) :=
  ⟨fun ρ E E' h q => ownQ_mono (fun ds => a.mono _ _ _ (extQ_mono fun d z => ⟨z.1, h.nx _ z.2⟩)) q, fun {G H0 b0 b os m H σ ρ D E} ok hm hf k => by
    obtain ⟨ds, e, hf⟩ := ownQ_of hf
    obtain ⟨p, xs, e1, e2, e3, e4, e5⟩ := ok.env.sl i _ e
    refine ⟨.ref p, e1, .inl ⟨rfl, xs, .inl (.inl e4)⟩, a.go ok.env hm hf fun d v H' q st bx vd => ?_⟩
    cases d <;> first | exact q.elim | skip
    rename_i es
    cases vd with
    | lst g1 g2 =>
    rename_i bb zs
    obtain ⟨q1, q2⟩ := q
    refine ⟨p, bb, xs, zs, rfl, rfl, st _ _ e3 e4, (rm_some g1).2, ?_, ?_⟩
    · rw [e5.len, g2.len]
      exact Nat.le_trans q1 (by decide)
    · have ok1 := ok.step st bx (by omega)
      obtain ⟨o, l⟩ := ok1.mut e e1 ((e5.mono (st.rm ok.env.bs)).app g2)
      exact k.nx _ _ _ _ _ q2 o ((Lk.step st ok.env.bs).trans l)⟩
end
end Dv
namespace Dv
open PySem PySem.Spec PyProof.Rows L2 Xg
open Classical
section
variable {P : Program} {w : World} {K : PySem.W.Frag} {mg : Str → Option Value} {base : Heap}
end
section
variable {K : PySem.W.Frag} {c cr i : Nat} {tr : TA} {fr : FA}
end
end Dv
namespace Dv
open PySem PySem.Spec PyProof.Rows L2 Xg
open Classical
section
variable {P : Program} {w : World} {K : PySem.W.Frag} {mg : Str → Option Value} {base : Heap}
end
section
variable {K : PySem.W.Frag} {c cr ca cb i j l : Nat} {ta tb : TE} {tr : TA} {fr : FA} {fa fb : FE}
end
end Dv
namespace Dv
open PySem PySem.Spec PyProof.Rows L2 Xg
open Classical
structure SndB (K : PySem.W.Frag) (t : TE) (c : Nat) (f : FE) : Prop where
  mono : ∀ (ρ : List Sl) (P P' : PyData → Prop), (∀ d, P d → P' d) → f ρ P → f ρ P'
  go : ∀ {b : Option Addr} {S : Addr → Prop} {m : Nat} {σ : L2.St} {H : Hp} {ρ : List Sl} {Q : VK} {P : PyData → Prop}, DEnv K b S m H σ ρ → m + c ≤ LIM → f ρ P →
    (∀ d v H', P d → Stp K b H H' → BxO b H' (m + c) → TbO K (rm H' S) v d → Q v H') → t σ H Q
inductive TbL (K : PySem.W.Frag) (H : Hp) : List V → List PyData → Prop
  | nil : TbL K H [] []
  | cons {v : V} {d : PyData} {vs : List V} {ds : List PyData} : TbO K H v d → TbL K H vs ds → TbL K H (v :: vs) (d :: ds)
structure SndBs (K : PySem.W.Frag) (t : TA) (n c : Nat) (f : List Sl → (List PyData → Prop) → Prop) : Prop where
  mono : ∀ (ρ : List Sl) (P P' : List PyData → Prop), (∀ d, P d → P' d) → f ρ P → f ρ P'
  go : ∀ {b : Option Addr} {S : Addr → Prop} {m : Nat} {σ : L2.St} {H : Hp} {ρ : List Sl} {Q : List V → Hp → Prop} {P : List PyData → Prop}, DEnv K b S m H σ ρ → m + c ≤ LIM → f ρ P →
    (∀ ds vs H', P ds → vs.length = n → Stp K b H H' → BxO b H' (m + c) → TbL K (rm H' S) vs ds → Q vs H') → t σ H Q
section
variable {K : PySem.W.Frag} {c ca cb cr n i : Nat} {ta tb t : TE} {tr : TA} {fa fb f : FE} {fr : FA}
theorem TbL.mono {H H' : Hp} (e : Evl.Ex H H') : ∀ {vs : List V} {ds : List PyData}, TbL K H vs ds → TbL K H' vs ds
  | _, _, .nil => .nil
  | _, _, .cons a g => .cons (TbO.mono e a) (TbL.mono e g)
theorem TbL.len {H : Hp} : ∀ {vs : List V} {ds : List PyData}, TbL K H vs ds → vs.length = ds.length
  | _, _, .nil => rfl
  | _, _, .cons _ g => by rw [List.length_cons, List.length_cons, TbL.len g]
theorem TbL.at {H : Hp} : ∀ {vs : List V} {ds : List PyData} {i : Nat} {v : V}, TbL K H vs ds → vs[i]? = some v → ∃ d, ds[i]? = some d ∧ TbO K H v d
  | _, _, 0, _, .cons a _, h => by
    cases h
    exact ⟨_, rfl, a⟩
  | _, _, i + 1, _, .cons _ g, h => TbL.at (i := i) g h
  | _, _, _, _, .nil, h => by simp at h
end
end Dv
namespace Dv
open PySem PySem.Spec PyProof.Rows L2 Xg
open Classical
section
variable {K : PySem.W.Frag} {wi : TI} {ci ce i j l : Nat} {fi : FD} {g : TG} {vs : List Nat} {fg : FG} {te : TE} {fe : FE}
theorem TbL.app {H : Hp} : ∀ {vs : List V} {ds : List PyData} {v : V} {d : PyData}, TbL K H vs ds → TbO K H v d → TbL K H (vs ++ [v]) (ds ++ [d])
  | _, _, _, _, .nil, h => .cons h .nil
  | _, _, _, _, .cons a g, h => .cons a (TbL.app g h)
end
end Dv
namespace Dv
open PySem PySem.Spec PyProof.Rows L2 Xg
open Classical
structure SndLN (K : PySem.W.Frag) (t : TE) (c : Nat) (f : FN) : Prop where
  mono : ∀ (ρ : List Sl) (P P' : List (List PyData) → Prop), (∀ d, P d → P' d) → f ρ P → f ρ P'
  go : ∀ {b : Option Addr} {S : Addr → Prop} {m : Nat} {σ : L2.St} {H : Hp} {ρ : List Sl} {Q : VK} {P : List (List PyData) → Prop}, DEnv K b S m H σ ρ → m + c ≤ LIM → f ρ P →
    (∀ (dss : List (List PyData)) (ps : List Addr) (D : Addr) (H' : Hp), P dss → H D = none → Stp K b H H' → BxO b H' (m + c) → (∀ q ∈ ps, H q = none) → ps.Nodup → D ∉ ps → H' D = some (.lst (ps.map V.ref)) → DaL K (rm H' fun a => S a ∨ a = D) (ps.map V.ref) (dss.map PyData.list) → Q (.ref D) H') → t σ H Q
section
variable {K : PySem.W.Frag} {wi : TI} {ci ce : Nat} {fi : FD} {g : TG} {vs : List Nat} {fg : FG} {te : TE} {fe : FD}
end
end Dv
namespace Dv
open PySem PySem.Spec PyProof.Rows L2 Xg
open Classical
section
variable {P : Program} {w : World} {K : PySem.W.Frag} {mg : Str → Option Value} {base : Heap}
end
end Dv
namespace Dv
open PySem PySem.Spec PyProof.Rows L2 Xg
open Classical
section
variable {K : PySem.W.Frag} {b : Option Addr} {S G : Addr → Prop} {m n c cr ct : Nat} {H H0 H' : Hp} {b0 : Option Addr} {os : Nat → Option Addr} {σ : L2.St} {ρ : List Sl} {tr : TA} {fr : FA} {tt : TT} {ft : FT} {i : Nat}
end
end Dv
namespace Dv
open PySem PySem.Spec PyProof.Rows L2 Xg
open Classical
section
variable {K : PySem.W.Frag} {b : Option Addr} {S G : Addr → Prop} {m n c cr ct cu : Nat} {H H0 H' : Hp} {b0 : Option Addr} {os : Nat → Option Addr} {σ : L2.St} {ρ : List Sl} {tr : TA} {fr : FA} {tt tu : TT} {ft fu : FT} {i : Nat}
end
end Dv
namespace Ex
open PySem PySem.Spec PyProof.Rows L2 Xv
section
variable {X : Cx} {cls : Value} {b : Bool}
end
section
def tUp (te : TE) : TE := fun σ H Q => ∃ Q0 : VK, te σ H Q0 ∧ ∀ v H', Q0 v H' → Q v H'
theorem pe_up {X : Cx} {e : Expr} {t : TE} (h : PE X e t) : PE X e (tUp t) := ⟨fun pins s σ H Q I z => by
  obtain ⟨Q0, z1, z2⟩ := z
  refine wpAny_mono (h.run pins s σ H Q0 I z1) (fun u s1 hu => ?_) fun _ _ x => x
  obtain ⟨v, H1, I1, r1, q1⟩ := hu
  exact ⟨v, H1, I1, r1, z2 v H1 q1⟩⟩
def spInit (C : Addr) (f : Str) : Sp := fun vs H Q _ => ∃ (a : Addr) (v : V), vs = [.ref a, v] ∧ H a = some (exo a C none) ∧
  ∀ dx, H dx = none → dx ≠ a → Q .non (upd (upd H dx (exd dx [(f, v)])) a (exo a C (some dx)))
structure Mk1 (P : Program) (w : World) (K : PySem.W.Frag) (mg : Str → Option Value) (base : Heap) (x f : Str) (C : Addr) : Prop where
  ex : ∃ (newId initId Bs : String) (bmB : List Value) (fI : Addr) (fd : FuncData), XC K C newId bmB ∧ BF Bs newId initId bmB ∧
    PySem.W.findIn K (.ref C) "__init__" = some (some (.ref fI)) ∧ PySem.W.typeIn K (.ref fI) = some (.type "function") ∧
    FnOk P w K mg base CX0 1 fI fd ["self", f] (spInit C f) ∧ L2.Binds K fd ["self", f] []
  g : mg x = some (.ref C)
  no : PySem.W.findIn K (.ref C) f = some none
  is : ExcC K C
  ty : PySem.W.typeIn K (.ref C) = some (.type "type")
structure Mk0 (K : PySem.W.Frag) (mg : Str → Option Value) (x : Str) (C : Addr) : Prop where
  ex : ∃ (newId initId Bs : String) (bmB : List Value), BF Bs newId initId bmB ∧ PySem.W.excIn K C bmB newId = true
  g : mg x = some (.ref C)
  kp : PySem.W.keepIn K (.ref C) = true
  is : ExcC K C
  ty : PySem.W.typeIn K (.ref C) = some (.type "type")
def tNew (C : Addr) (f : Str) (te : TE) : L2.St → Hp → XK → Prop := fun σ H Q => te σ H fun v H1 => ∀ d H2, H1 d = none → Evl.Ex H1 H2 → H2 d = some (.xd [(f, v)]) → Q (.ref C) (some d) H2
theorem pmk_new {X : Cx} {x f : Str} {C : Addr} {e : Expr} {te : TE} {p pos : Pos} (M : Mk1 X.prog X.w X.K X.mg X.base x f C) (hr : Room 2 X.A) (hg : Gl X x) (he : PE X e te)
    (hdb : (x == ("__debug__" : Str)) = false := by decide) (h1 : starEach [e] X.env = (false, eval e X.env) :: starEach [] X.env := by rfl) (hpl : (backTo pos (starEach [] X.env)).any (·.1) = false := by rfl) : PMk X (.Call (.Name x p) [e] [] pos) (tNew C f te) := by
  intro pins s σ H Q I h
  obtain ⟨newId, initId, Bs, bmB, fI, fd, T, F, iC, tI, G, hb⟩ := M.ex
  obtain ⟨nm, qn, N, bs, sn, sub, ab, col, dd, k0, k1, k2, k3, k5, hC⟩ := T.cls
  refine wpAny_Call_Name_kw (ld_glob I hg M.g ?_ hdb)
  have hp : PA X [e] (tCons (tUp te) tNil) := pa_cons (pe_up he) pa_nil (hs := h1)
  have h' : tCons (tUp te) tNil σ H fun vs H1 => ∃ v, vs = [v] ∧ ∀ d H2, H1 d = none → Evl.Ex H1 H2 → H2 d = some (.xd [(f, v)]) → Q (.ref C) (some d) H2 := ⟨_, h, fun v H1 q => ⟨v, rfl, q⟩⟩
  refine PySem.W.callWith_K (h₀ := X.base) I.ok.mod.kin T.kC (thn (hp.run pos pins s σ H _ I h') fun us s1 ⟨vs, H1, I1, r1, v, ev, q1⟩ => ⟨I1.kIn, ?_⟩) h1 hpl
  subst ev
  show wpAny _ _ (call (.ref C) us) _ _ _
  obtain ⟨m, gn, dr, tn, sy⟩ := s1
  have big : m.objs.size ≤ m.objs.size + 1 := Nat.le_succ _
  have new : H1 (m.objs.size + 1) = none := I1.hok.fresh big
  have keep : ∀ b o, m.get? b = some o → ((m.push (PySem.W.kdv_tup us)).push (PySem.HandSPX.excO C m.objs.size)).get? b = some o :=
    fun b o z => Heap.get?_push_of_some _ (Heap.get?_push_of_some _ z)
  have here : ((m.push (PySem.W.kdv_tup us)).push (PySem.HandSPX.excO C m.objs.size)).get? (m.objs.size + 1) = some (PySem.HandSPX.excO C m.objs.size) := by heap_get
  have I2 : Inv X pins σ (upd H1 (m.objs.size + 1) (exo (m.objs.size + 1) C none)) ⟨(m.push (PySem.W.kdv_tup us)).push (PySem.HandSPX.excO C m.objs.size), gn, dr, tn, sy⟩ :=
    I1.laid (t' := tn) (a := m.objs.size + 1) (o := exo (m.objs.size + 1) C none) keep big (exo_ok here)
  have r2 : Vals (V.ref (m.objs.size + 1) :: [v]) (Value.ref (m.objs.size + 1) :: us) := .cons rfl r1
  have hus : us.length ≤ sizeLine := by
    rw [← Paired.length r1, sizeLine_eq]
    show 1 ≤ _
    decide
  have bnd : BindsTo (⟨(m.push (PySem.W.kdv_tup us)).push (PySem.HandSPX.excO C m.objs.size), gn, dr, tn, sy⟩ : Shared) fd ⟨Value.ref (m.objs.size + 1) :: us, []⟩ ((["self", f] : List Str).zip (Value.ref (m.objs.size + 1) :: us)) := by
    have z := hb (⟨(m.push (PySem.W.kdv_tup us)).push (PySem.HandSPX.excO C m.objs.size), gn, dr, tn, sy⟩ : Shared) (Value.ref (m.objs.size + 1) :: us) I2.kIn (by rw [List.append_nil, ← r2.length]; rfl)
    rw [List.append_nil] at z
    exact z
  have wish : spInit C f [.ref (m.objs.size + 1), v] (upd H1 (m.objs.size + 1) (exo (m.objs.size + 1) C none))
      (fun u H2 => u = .non ∧ ∃ d, H2 (m.objs.size + 1) = some (exo (m.objs.size + 1) C (some d)) ∧ H2 d = some (exd d [(f, v)]) ∧ H1 d = none ∧ Q (.ref C) (some d) (upd (L2.del H2 (m.objs.size + 1)) d (.xd [(f, v)]))) E0 := by
    refine ⟨_, v, rfl, upd_same, fun dx nd ne => ?_⟩
    have nd1 : H1 dx = none := by
      rw [upd_ne ne] at nd
      exact nd
    refine ⟨rfl, dx, upd_same, by rw [upd_ne ne, upd_same], nd1, q1 dx _ nd1 (fun b o q => ?_) upd_same⟩
    have b1 : b ≠ dx := ne_of_none q nd1
    have b2 : b ≠ m.objs.size + 1 := ne_of_none q new
    rw [upd_ne b1, L2.del_ne b2, upd_ne b2, upd_ne b1, upd_ne b2]
    exact q
  refine wpAny_call (PySem.XvL.call_kw F.ex (fun _ => rfl) (I1.kIn _ _ hC) (PySem.W.looks_findIn I1.kIn iC) (fun self => PySem.W.bind_fn I1.kIn self tI) hus ?_)
  refine codeAny_mono (G.run _ X.stack _ _ ⟨Value.ref (m.objs.size + 1) :: us, []⟩ (Value.ref (m.objs.size + 1) :: us) _ _ E0 ((hr.mono (by decide)).make C us [])
    (I2.env0.make C us []) bnd r2 wish) fun res s' hq => ?_
  cases res with
  | error er => exact hq.elim
  | ok fl =>
    cases fl with
    | ret u =>
      obtain ⟨u', H2, os2, bare2, un2, hok2, rv, ev, d, ea, ed, hd1, q2⟩ := hq
      subst ev
      obtain ⟨h2, g2, d2, t2, os'⟩ := s'
      exact ⟨rv, mk_end (raises_own M.is.hs M.ty) I1 big keep un2 hok2 os2 bare2 ea ed hd1 q2⟩
    | next => exact False.elim hq
    | brk => exact False.elim hq
    | cont => exact False.elim hq
end
end Ex
namespace Ex
open PySem PySem.Spec PyProof.Rows L2 Xg Dv
structure FnX (P : Program) (w : World) (K : PySem.W.Frag) (mg : Str → Option Value) (base : Heap) (k : Nat) (f : Addr) (fd : FuncData) (ps : List Str) (sp : Sp) : Prop where
  len : ∀ vs H Q E, sp vs H Q E → vs.length = ps.length
  run : ∀ (A : Around) (outer : List Env) (s : Shared) (H : Hp) (args : Args) (us : List Value) (vs : List V) (Q : VK) (E : XK), A.guards = some [] → Room k A → Env0 P w K mg base A outer s H →
    BindsTo s fd args (ps.zip us) → Vals vs us → sp vs H Q E → codeAny (model P w) A (.call (.ref f) args) (CR (L2.CX P w) outer P w H s Q E) s
section
variable {P : Program} {w : World} {K : PySem.W.Frag} {mg : Str → Option Value} {base : Heap}
theorem okXG {x qual : Str} {st : Stmt} {f : Addr} {fd : FuncData} {N ps : List Str} {k : Nat} {sp : Sp} (F : Fun K x qual st f fd) (S : FnScope N ps (defScope st)) (len : ∀ vs H Q E, sp vs H Q E → vs.length = ps.length)
    (hbody : ∀ (cdv : Value) (A : Around) (outer : List Env) (s : Shared) (H : Hp) (vs : List V) (Q : VK) (E : XK), (A.deeper (envOfC qual (defScope st) s.heap.objs.size f cdv)).guards = some [] →
      Room k (A.deeper (envOfC qual (defScope st) s.heap.objs.size f cdv)) → sp vs H Q E →
      ∃ t, PSs (cxOf (L2.CX P w) P w K mg base N qual (defScope st) f cdv A outer s H E) (defBody st) t ∧ t { nx := fun _ H' => Q .non H', rt := Q } (L2.start N vs) H) :
    FnX P w K mg base (k + 1) f fd ps sp := by
  obtain ⟨oc, od, kV, doc, pm, an, cdv, ct, osl, rfl, lk, hcd⟩ := F.ex
  refine ⟨len, fun A outer s H args us vs Q E hG hr e0 hb r hsp => ?_⟩
  have inH : K.In s.heap := e0.mod.kin.keeps fun c u z => (e0.bs c u z).1
  have noL : s.heap.NoLimit := e0.mod.nolimit.keeps fun c u z => (e0.bs c u z).1
  refine codeAny_call_function hr.depth (inH _ _ lk) rfl S.co S.gen rfl (PySem.W.codeRec_of inH hcd) (hb _ _ _ _ ?_)
  refine wpAny_newFunctionEnv_cells S.kind (fun ⟨n, v⟩ hy => ?_) fun env he s1 ic => ?_
  · rcases S.par n (List.of_mem_zip hy).1 with z | z
    · exact .inl z
    · exact .inr ⟨z, PySem.W.cellsFrom_some _ _ _ (.inl z)⟩
  subst he
  refine ⟨noL.keeps ic.toInCall.keep, codeAny_func ?_⟩
  obtain ⟨t, ht, hq⟩ := hbody cdv A outer s H vs Q E hG (hr.deeper _) hsp
  have J0 : Inv (cxOf (L2.CX P w) P w K mg base N qual (defScope st) f cdv A outer s H E) [] (L2.start N vs) H s1 := inv_start S hr.hd e0 (len _ _ _ _ hsp) r ic
  refine wpAny_mono (ht.run [] s1 (L2.start N vs) H _ J0 hq) (fun fl s' hs => ?_) fun e s' hs => hs
  cases fl with
  | ret u =>
    obtain ⟨v, σ', H', J, rv, q⟩ := hs
    exact ⟨v, H', J.os, J.bare, J.base, J.hok, rv, q⟩
  | next =>
    obtain ⟨σ', H', J, q⟩ := hs
    exact ⟨V.non, H', J.os, J.bare, J.base, J.hok, rfl, q⟩
  | brk =>
    obtain ⟨_, _, _, q⟩ := hs
    exact False.elim q
  | cont =>
    obtain ⟨_, _, _, q⟩ := hs
    exact False.elim q
def tCallB (sp spx : Sp) (E : L2.St → XK) (t : TA) : TE := fun σ H Q => t σ H fun vs H1 => sp vs H1 Q E0 ∨ spx vs H1 Q (E σ)
theorem pe_callB2 {X : Cx} {j k : Nat} {f : Addr} {fd : FuncData} {ps : List Str} {sp spx : Sp} {x : Str} {p pos : Pos} {e : Expr} {es : List Expr} {t : TA} {E : L2.St → XK} (F : FnG X.prog X.w X.K X.mg X.base j f fd ps sp) (FX : FnX X.prog X.w X.K X.mg X.base k f fd ps spx)
    (hG : X.A.guards = some []) (hr : Room j X.A) (hr2 : Room k X.A) (hx : ∀ σ, PassesAt (L2.CX X.prog X.w) X σ (E σ))
    (hg : Gl X x) (hm : X.mg x = some (.ref f)) (hk : PySem.W.keepIn X.K (.ref f) = true) (hb : L2.Binds X.K fd ps []) (ha : PA X (e :: es) t) (hdb : (x == ("__debug__" : Str)) = false := by decide)
    (he : starEach (e :: es) X.env = (false, eval e X.env) :: starEach es X.env := by rfl) (hpl : (backTo pos (starEach es X.env)).any (·.1) = false := by rfl) :
    PE X (.Call (.Name x p) (e :: es) [] pos) (tCallB sp spx E t) := by
  refine ⟨fun pins s σ H Q I h => ?_⟩
  refine wpAny_Call_Name_kw (ld_glob I hg hm ?_ hdb)
  refine PySem.W.callWith_K (h₀ := X.base) I.ok.mod.kin hk (thn (ha.run pos pins s σ H _ I h) fun us s1 ⟨vs, H1, I1, r, q⟩ => ⟨I1.kIn, ?_⟩) he hpl
  rcases q with q | q
  · have hb1 := hb s1 us I1.kIn (by rw [List.append_nil, ← r.length]; exact F.len _ _ _ q)
    rw [List.append_nil] at hb1
    refine wpAny_call (codeAny_mono (F.run X.A X.stack s1 H1 ⟨us, []⟩ us vs Q hG hr I1.env0 hb1 r q) fun res s' hq => ?_)
    cases res with
    | error er => exact hq.elim
    | ok fl =>
      cases fl with
      | ret u => exact I1.after hq
      | next => exact False.elim hq
      | brk => exact False.elim hq
      | cont => exact False.elim hq
  · have hb1 := hb s1 us I1.kIn (by rw [List.append_nil, ← r.length]; exact FX.len _ _ _ _ q)
    rw [List.append_nil] at hb1
    refine wpAny_call (codeAny_mono (FX.run X.A X.stack s1 H1 ⟨us, []⟩ us vs Q (E σ) hG hr2 I1.env0 hb1 r q) fun res s' hq => ?_)
    cases res with
    | error er => exact hx σ pins H1 s1 er s' I1 hq
    | ok fl =>
      cases fl with
      | ret u => exact I1.after hq
      | next => exact False.elim hq
      | brk => exact False.elim hq
      | cont => exact False.elim hq
end
structure DfX (P : Program) (w : World) (K : PySem.W.Frag) (mg : Str → Option Value) (base : Heap) (x : Str) (ps : List Str) (k : Nat) (sp : Sp) : Prop where
  ex : ∃ (f : Addr) (fd : FuncData), FnX P w K mg base k f fd ps sp ∧ mg x = some (.ref f) ∧ PySem.W.keepIn K (.ref f) = true ∧ L2.Binds K fd ps []
structure DfB (P : Program) (w : World) (K : PySem.W.Frag) (mg : Str → Option Value) (base : Heap) (x : Str) (ps : List Str) (j k : Nat) (sp spx : Sp) : Prop where
  ex : ∃ (f : Addr) (fd : FuncData), FnG P w K mg base j f fd ps sp ∧ FnX P w K mg base k f fd ps spx ∧ mg x = some (.ref f) ∧ PySem.W.keepIn K (.ref f) = true ∧ L2.Binds K fd ps []
theorem pe_dfB {X : Cx} {x : Str} {ps : List Str} {j k : Nat} {sp spx : Sp} {p pos : Pos} {e : Expr} {es : List Expr} {t : TA} {W : WX} (D : DfB X.prog X.w X.K X.mg X.base x ps j k sp spx) (hG : X.A.guards = some []) (hr : Room j X.A) (hr2 : Room k X.A) (tk : Takes X W) (hg : Gl X x) (ha : PA X (e :: es) t)
    (hdb : (x == ("__debug__" : Str)) = false := by decide) (he : starEach (e :: es) X.env = (false, eval e X.env) :: starEach es X.env := by rfl) (hpl : (backTo pos (starEach es X.env)).any (·.1) = false := by rfl) :
    PE X (.Call (.Name x p) (e :: es) [] pos) (tCallB sp spx (WE W) t) := by
  obtain ⟨f, fd, G, GX, gm, kp, b⟩ := D.ex
  exact pe_callB2 G GX hG hr hr2 (fun σ => passAt tk σ) hg gm kp b ha hdb he hpl
abbrev XW := Str → Option (Str × PyData) → Prop
def XdR (K : PySem.W.Frag) (S : Addr → Prop) (H : Hp) (d : Option Addr) : Option (Str × PyData) → Prop
  | none => d = none
  | some (f, u) => ∃ dx v, d = some dx ∧ H dx = some (.xd [(f, v)]) ∧ ¬ S dx ∧ Da K (rm H S) v u
abbrev FR := List Sl → XW → Prop
def spR (K : PySem.W.Frag) (c : Nat) (F : FR) : Sp := fun vs H _ E => ∃ (b : Option Addr) (S : Addr → Prop) (m : Nat) (as : List Sl), ArgL K b S H vs as ∧ BxO b H m ∧ (∀ p, b = some p → S p) ∧ (Al S H ∧ Tbs K H) ∧ m + c ≤ LIM ∧
  F as (fun x fs => ∀ d H', Stp K b H H' → BxO b H' (m + c) → XdR K S H' d fs → E (.ref (ca K x)) d H')
def MonoR (F : FR) : Prop := ∀ as (P P' : XW), (∀ x d, P x d → P' x d) → F as P → F as P'
structure SndRE (K : PySem.W.Frag) (t : WX → TE) (c : Nat) (f : FR) : Prop where
  mono : ∀ (ρ : List Sl) (P P' : XW), (∀ x d, P x d → P' x d) → f ρ P → f ρ P'
  go : ∀ {b : Option Addr} {S : Addr → Prop} {m : Nat} {σ : L2.St} {H : Hp} {ρ : List Sl} {W : WX} {P : XW}, DEnv K b S m H σ ρ → m + c ≤ LIM → f ρ P →
    (∀ x d dd H', P x d → Stp K b H H' → BxO b H' (m + c) → XdR K S H' dd d → W (.ref (ca K x)) dd σ H') → ∀ Q, t W σ H Q
structure SndR (K : PySem.W.Frag) (t : WX → TS) (c : Nat) (f : FR) : Prop where
  mono : ∀ (ρ : List Sl) (P P' : XW), (∀ x d, P x d → P' x d) → f ρ P → f ρ P'
  go : ∀ {G : Addr → Prop} {H0 : Hp} {b0 b : Option Addr} {os : Nat → Option Addr} {m : Nat} {H : Hp} {σ : L2.St} {ρ : List Sl} {W : WX} {P : XW}, Ok K G H0 b0 b os m H σ ρ → m + c ≤ LIM → f ρ P →
    (∀ x d dd H' σ', P x d → Out K G H0 b0 (m + c) H' → XdR K G H' dd d → W (.ref (ca K x)) dd σ' H') → ∀ D, t W D σ H
section
variable {K : PySem.W.Frag} {md : Bool} {ta tb : TE} {te : WX → TE} {ca' cb c cu cr ct : Nat} {fa fb : FE} {fe f g : FR} {t u : WX → TS} {tr : TA} {fr : FA}
theorem XdR.sub {S T : Addr → Prop} {H : Hp} {d : Option Addr} {fs : Option (Str × PyData)} (h : XdR K S H d fs) (hs : ∀ a, T a → S a) : XdR K T H d fs := by
  cases fs with
  | none => exact h
  | some p =>
    obtain ⟨dx, v, e1, e2, n, e3⟩ := h
    exact ⟨dx, v, e1, e2, fun z => n (hs _ z), Da.mono (rm_sub hs) e3⟩
abbrev rSeq (f : FS) (g : FR) : FR := fun ρ P => f ρ { nx := fun ρ' => g ρ' P, rt := fun _ => False, rl := fun _ => False }
theorem sndr_seq {ts : TS} {fs : FS} (a : SndS K ts c fs) (r : SndR K u cu g) : SndR K (fun W => tSeq ts (u W)) (c + cu) (rSeq fs g) := ⟨
  fun ρ P P' h q => a.mono ρ { nx := fun ρ' => g ρ' P, rt := fun _ => False, rl := fun _ => False } { nx := fun ρ' => g ρ' P', rt := fun _ => False, rl := fun _ => False } ⟨fun ρ' => r.mono _ _ _ h, fun _ h => h, fun _ h => h, fun _ h => h, fun _ h => h⟩ q,
  fun {G H0 b0 b os m H σ ρ W P} ok hm hf k D => a.go (D := { D with nx := u W D }) ok (by omega) hf ⟨fun b1 os1 σ' H' ρ' e o l => r.go o (by omega) e (fun x d dd H'' σ'' p o' => k x d dd H'' σ'' p ⟨o'.old, o'.obx.le (by omega)⟩) D,
    fun _ _ _ e _ => e.elim, fun _ _ _ _ e _ => e.elim, fun _ _ _ _ _ e _ => e.elim, fun _ _ _ _ _ e _ => e.elim⟩⟩
theorem sndr_fst {v : WX → TS} (a : SndR K t c f) : SndR K (fun W => tSeq (t W) (v W)) c f := ⟨a.mono, fun ok hm hf k D => a.go ok hm hf k _⟩
abbrev rIf (t : FT) (f g : FR) : FR := fun ρ P => t ρ fun k => if k = true then f ρ P else g ρ P
abbrev rNo : FR := fun _ _ => False
theorem sndr_no {v : WX → TS} : SndR K v 0 rNo := ⟨fun _ _ _ _ h => h, fun _ _ h => h.elim⟩
abbrev rRaise (x f : Str) (fe : FE) : FR := fun ρ P => fe ρ fun d => P x (some (f, d))
def tRaise1 (K : PySem.W.Frag) (x f : Str) (te : TE) : WX → TS := fun W _ σ H => tNew (ca K x) f te σ H fun cls d H' => W cls d σ H'
theorem sndr_raise {x f : Str} (a : Snd true K ta ca' fa) : SndR K (tRaise1 K x f ta) ca' (rRaise x f fa) := ⟨
  fun ρ P P' h q => a.mono _ _ _ (fun d => h _ _) q,
  fun {G H0 b0 b os m H σ ρ W P} ok hm hf k D => a.go ok.env hm hf fun d v H1 p st bx vd dx H2 nd ex ed => by
    have ok1 := ok.step st bx (by omega)
    have st2 := st.trans (Stp.ex ex)
    have ok2 := ok.step st2 (bx.ex ex) (by omega)
    exact k x _ _ _ _ p ok2.out ⟨dx, v, rfl, ed, fun z => ok1.env.al.new nd (SO.g z), Da.mono ((rm_sub fun a => SO.g).trans (rm_ex ex)) vd⟩⟩
end
abbrev mkR (np n : Nat) (f : FR) : FR := fun as P => as.length = np ∧ f (pad n as) P
theorem mkR_mono {K : PySem.W.Frag} {t : WX → TS} {c np n : Nat} {f : FR} (h : SndR K t c f) : MonoR (mkR np n f) := fun as P P' hp q => ⟨q.1, h.mono _ _ _ hp q.2⟩
section
variable {P : Program} {w : World} {K : PySem.W.Frag} {mg : Str → Option Value} {base : Heap}
theorem okR {x qual : Str} {st : Stmt} {f : Addr} {fd : FuncData} {N ps : List Str} {k c : Nat} {t : WX → TS} {g : FR} (F : Fun K x qual st f fd) (S : FnScope N ps (defScope st)) (sn : SndR K t c g)
    (hbody : ∀ (cdv : Value) (A : Around) (outer : List Env) (s : Shared) (H : Hp) (E : XK), (A.deeper (envOfC qual (defScope st) s.heap.objs.size f cdv)).guards = some [] → Room k (A.deeper (envOfC qual (defScope st) s.heap.objs.size f cdv)) →
      ∀ W : WX, Takes (cxOf (L2.CX P w) P w K mg base N qual (defScope st) f cdv A outer s H E) W → PSs (cxOf (L2.CX P w) P w K mg base N qual (defScope st) f cdv A outer s H E) (defBody st) (t W)) : FnX P w K mg base (k + 1) f fd ps (spR K c (mkR ps.length N.length g)) := by
  refine okXG F S (fun vs H Q E h => ?_) fun cdv A outer s H vs Q E hG hr h => ⟨t fun cls d _ H' => E cls d H', hbody cdv A outer s H E hG hr _ (takes_of rfl rfl rfl rfl), ?_⟩
  · obtain ⟨b, S, m, as, hA, _, _, _, _, l, _⟩ := h
    rw [hA.len, l]
  · obtain ⟨b, S, m, as, hA, bx, bs, al, hm, l, hf⟩ := h
    exact sn.go (ok_start (N := N) hA bx bs al) hm hf (fun x d dd H' σ' q o e => q dd H' o.old o.obx e) _
end
end Ex
namespace Ex
open PySem PySem.Spec PyProof.Rows L2 Xg Dv
open Classical
def tGivenE (F : Prop) (t : TE) : TE := fun σ H Q => F → t σ H Q
def tGivenS (F : Prop) (t : TS) : TS := fun D σ H => F → t D σ H
theorem pe_given {X : Cx} {e : Expr} {F : Prop} {t : TE} (f : F) (h : PE X e t) : PE X e (tGivenE F t) := ⟨fun pins s σ H Q I q => h.run pins s σ H Q I (q f)⟩
theorem ps_given {X : Cx} {st : Stmt} {F : Prop} {t : TS} (f : F) (h : PS X st t) : PS X st (tGivenS F t) := ⟨fun pins s σ H D I q => h.run pins s σ H D I (q f)⟩
section
variable {K : PySem.W.Frag} {b : Option Addr} {S : Addr → Prop} {m n : Nat} {H H' : Hp} {σ : L2.St} {ρ : List Sl}
theorem set_no {i : Nat} (E : DEnv K b S m H σ ρ) : DEnv K b S m H (σ.set i none) (ρ.set i .no) :=
  ⟨by rw [List.length_set, List.length_set, E.len], fun j t e => by
    rw [List.getElem?_set] at e
    rw [List.getElem?_set]
    by_cases z : i = j
    · rw [if_pos z] at e ⊢
      split at e
      · cases e
        trivial
      · cases e
    · rw [if_neg z] at e ⊢
      exact E.sl j t e, E.bx, E.bs, E.al, E.tb⟩
end
abbrev FB := List Sl → DEnds → XW → Prop
structure SndB (K : PySem.W.Frag) (t : WX → TS) (c : Nat) (f : FB) : Prop where
  mono : ∀ (ρ : List Sl) (E E' : DEnds) (P P' : XW), DLe E E' → (∀ x d, P x d → P' x d) → f ρ E P → f ρ E' P'
  go : ∀ {G : Addr → Prop} {H0 : Hp} {b0 b : Option Addr} {os : Nat → Option Addr} {m : Nat} {H : Hp} {σ : L2.St} {ρ : List Sl} {D : Ends} {E : DEnds} {W : WX} {P : XW}, Ok K G H0 b0 b os m H σ ρ → m + c ≤ LIM → f ρ E P →
    Goes K G H0 b0 (m + c) (SO G b os) H E D → (∀ x d dd H', P x d → Stp K b H H' → BxO b H' (m + c) → XdR K (SO G b os) H' dd d → W (.ref (ca K x)) dd σ H') → t W D σ H
section
variable {K : PySem.W.Frag} {md : Bool} {ta : TE} {ca' c cu cr ct : Nat} {fa : FE} {f g : FB} {t u : WX → TS} {tr : TA} {fr : FA}
abbrev bAsg (i : Nat) (F : FF) (R : FR) (fr : FA) : FB := fun ρ E P => fr ρ fun as => (F as fun d => E.nx (ρ.set i (.dt d))) ∨ R as P
theorem sndb_asg {i : Nat} {F : FF} {R : FR} (mF : MonoF F) (mR : MonoR R) (r : SndA K tr cr fr) : SndB K (fun W => tAsg (tCallB (spD K c F) (spR K cu R) (WE W) tr) (gName i)) (cr + (c + cu)) (bAsg i F R fr) := ⟨
  fun ρ E E' P P' h hp q => r.mono _ _ _ (fun as z => z.imp (mF as _ _ fun d => h.nx _) (mR as _ _ hp)) q,
  fun {G H0 b0 b os m H σ ρ D E W P} ok hm hf k kw => r.go ok.env (by omega) hf fun as vs H1 h1 st bx hA => by
    have ok1 := ok.step st bx (by omega)
    rcases h1 with h1 | h1
    · refine .inl ⟨b, SO G b os, m + cr, as, hA, bx, ok.env.bs, ok1.env.both, by omega, mF _ _ _ (fun d p v H' s2 b2 d2 => ?_) h1⟩
      have ok2 := ok1.step s2 b2 (by omega)
      have k2 := ok2.kpt (ok2.env.set (i := i) (s := .dt d) fun z e => ⟨_, e, d2⟩) (kpt_set (vs := [i]) (by simp))
      exact k.nx _ _ _ _ _ p (k2.le (by omega)) ((Lk.step st ok.env.bs).trans (Lk.step s2 ok.env.bs))
    · exact .inr ⟨b, SO G b os, m + cr, as, hA, bx, ok.env.bs, ok1.env.both, by omega, mR _ _ _ (fun x d p dd H' s2 b2 d2 => kw x d dd H' p (st.trans s2) (b2.le (by omega)) d2) h1⟩⟩
def tTryK (K : PySem.W.Frag) (xs : List Str) (i j : Nat) (tb : WX → TS) : TS := fun D σ H => tb (wKeep (fun cls => ∃ x ∈ xs, cls = .ref (ca K x)) i j D) D σ H
abbrev sTry (xs : List Str) (i j : Nat) (f : FB) : FS := fun ρ E => f ρ E fun x d => x ∈ xs ∧ E.nx ((ρ.set j (.exc x d)).set i .no)
theorem snds_try {xs : List Str} {i j : Nat} (ij : i ≠ j) (a : SndB K t c f) : SndS K (tGivenS (∀ x ∈ xs, ExcC K (ca K x)) (tTryK K xs i j t)) c (sTry xs i j f) := ⟨
  fun ρ E E' h q => a.mono _ _ _ _ _ h (fun x d z => ⟨z.1, h.nx _ z.2⟩) q,
  fun {G H0 b0 b os m H σ ρ D E} ok hm hf k hx => a.go ok hm hf k fun x d dd H' p st bx xr => by
    refine ⟨⟨x, p.1, rfl⟩, fun a na => ?_⟩
    have ok1 := ok.step st bx (by omega)
    have ex := Evl.Ex.new (o := exg a (.ref (ca K x)) dd) na
    have ok2 := ok1.step (Stp.ex ex) (bx.ex ex) (Nat.le_refl _)
    have nS : ¬ SO G b os a := ok1.env.al.new na
    have hv : ExV K (rm (upd H' a (exg a (.ref (ca K x)) dd)) (SO G b os)) (.ref a) x d := by
      cases d with
      | none =>
        obtain rfl : dd = none := xr
        exact ⟨a, [], rfl, hx x p.1, .inl ⟨rfl, rm_in nS upd_same (by rfl)⟩, rfl⟩
      | some q =>
        obtain ⟨f1, u1⟩ := q
        obtain ⟨dx, v, rfl, e2, n2, e3⟩ := xr
        refine ⟨a, [(f1, v)], rfl, hx x p.1, .inr ⟨dx, rm_in nS upd_same (by rfl), rm_in n2 ?_ (by rfl)⟩, v, rfl, Da.mono (rm_ex ex) e3⟩
        rw [upd_ne (ne_of_none e2 na)]
        exact e2
    have E1 := ok2.env.set (i := i) (v := .ref a) (s := .no) fun z e => trivial
    have E2 := E1.set (i := j) (v := .ref a) (s := .exc x d) fun z e => ⟨_, e, hv⟩
    have E3 := set_no (i := i) E2
    have eq : (((ρ.set i .no).set j (.exc x d)).set i .no) = ((ρ.set j (.exc x d)).set i .no) := by
      rw [List.set_comm _ _ ij, List.set_set]
    rw [eq] at E3
    refine k.nx b os _ _ _ p.2 (ok2.kpt (vs := [i, j]) E3 ⟨?_, fun q ds h ow => ?_⟩) ((Lk.step st ok.env.bs).trans (Lk.step (K := K) (b := b) (Stp.ex ex) ok.env.bs))
    · unfold wipe wipe wipe
      refine List.ext_getElem? fun q => ?_
      simp only [List.getElem?_set, List.length_set]
      by_cases z1 : i = q
      · simp [z1]
      · by_cases z2 : j = q
        · simp [z1, z2]
        · simp [z1, z2]
    · rw [List.getElem?_set] at h
      by_cases z1 : i = q
      · rw [if_pos z1] at h
        split at h
        · cases h
          exact absurd ow Bool.false_ne_true
        · cases h
      · rw [if_neg z1, List.getElem?_set] at h
        by_cases z2 : j = q
        · rw [if_pos z2] at h
          split at h
          · cases h
            exact absurd ow Bool.false_ne_true
          · cases h
        · rw [if_neg z2] at h
          refine ⟨h, ?_⟩
          simp [List.getElem?_set, z1, z2]⟩
abbrev eIsNE (i : Nat) : FE := fun ρ Q => match ρ[i]? with
  | some (.dt .none) => Q (.bool true)
  | some (.exc _ _) => Q (.bool false)
  | _ => False
theorem snd_isNE {i : Nat} : Snd true K (tOp (fun x y H Q => y = .non ∧ Q (.bl (decide (x = .non))) H) (tVar i) (tC .non)) 0 (eIsNE i) := mk_snd
  (fun ρ P P' h q => by
    unfold eIsNE at q ⊢
    split at q <;> first | exact h _ q | exact q.elim)
  (fun {b S m σ H ρ Q P} E hm hf k => by
    unfold eIsNE at hf
    split at hf
    · rename_i e
      obtain ⟨v, e1, e2⟩ := E.sl i _ e
      cases e2
      exact ⟨_, e1, rfl, k _ _ _ hf Stp.refl E.bx (.bl _)⟩
    · rename_i e
      obtain ⟨v, e1, a, fs, rfl, _⟩ := E.sl i _ e
      refine ⟨_, e1, rfl, ?_⟩
      rw [decide_eq_false (fun z => nomatch z)]
      exact k _ _ _ hf Stp.refl E.bx (.bl _)
    · exact hf.elim)
def tIsE (K : PySem.W.Frag) (xs : List Str) (i : Nat) (y : Str) : TE := tGivenE (∀ x ∈ xs, PySem.W.kitOne K (.ref (ca K x)) (.ref (ca K y)) = some (decide (x = y))) (tCB (rIsX K) (tCons (tVar i) (tCons (tC (.ref (ca K y))) tNil)))
abbrev eIsE (xs : List Str) (i : Nat) (y : Str) : FE := fun ρ Q => match ρ[i]? with
  | some (.exc x _) => x ∈ xs ∧ Q (.bool (decide (x = y)))
  | _ => False
theorem snd_isE {xs : List Str} {i : Nat} {y : Str} : Snd true K (tIsE K xs i y) 0 (eIsE xs i y) := mk_snd
  (fun ρ P P' h q => by
    unfold eIsE at q ⊢
    split at q <;> first | exact ⟨q.1, h _ q.2⟩ | exact q.elim)
  (fun {b S m σ H ρ Q P} E hm hf k => by
    unfold eIsE at hf
    split at hf
    · rename_i e
      obtain ⟨v, e1, a, fs, rfl, c, g, _⟩ := E.sl i _ e
      exact fun F => ⟨_, e1, a, _, fs, _, _, _, rfl, .own _, c, g.mono rm_le, F _ hf.1, k _ _ _ hf.2 Stp.refl E.bx (.bl _)⟩
    · exact hf.elim)
def tIsB (K : PySem.W.Frag) (xs : List Str) (i : Nat) (y : String) : TE := tGivenE (∀ x ∈ xs, PySem.W.kitOne K (.ref (ca K x)) (.type y) = some true) (tCB (rIsX K) (tCons (tVar i) (tCons (tC (.ty y)) tNil)))
abbrev eIsB (xs : List Str) (i : Nat) : FE := fun ρ Q => match ρ[i]? with
  | some (.exc x _) => x ∈ xs ∧ Q (.bool true)
  | _ => False
theorem snd_isB {xs : List Str} {i : Nat} {y : String} : Snd true K (tIsB K xs i y) 0 (eIsB xs i) := mk_snd
  (fun ρ P P' h q => by
    unfold eIsB at q ⊢
    split at q <;> first | exact ⟨q.1, h _ q.2⟩ | exact q.elim)
  (fun {b S m σ H ρ Q P} E hm hf k => by
    unfold eIsB at hf
    split at hf
    · rename_i e
      obtain ⟨v, e1, a, fs, rfl, c, g, _⟩ := E.sl i _ e
      exact fun F => ⟨_, e1, a, _, fs, _, _, _, rfl, .ty _, c, g.mono rm_le, F _ hf.1, k _ _ _ hf.2 Stp.refl E.bx (.bl _)⟩
    · exact hf.elim)
def tRefs (K : PySem.W.Frag) : List Str → TA
  | [] => tNil
  | y :: ys => tCons (tC (.ref (ca K y))) (tRefs K ys)
def tIsT (K : PySem.W.Frag) (xs : List Str) (i : Nat) (ys : List Str) : TE := tGivenE (∀ x ∈ xs, PySem.W.kitAny K (.ref (ca K x)) (ys.map fun y => .ref (ca K y)) = some (ys.contains x)) (tCB (rIsXT K) (tCons (tVar i) (tCons (tTup (tRefs K ys)) tNil)))
abbrev eIsT (xs : List Str) (i : Nat) (ys : List Str) : FE := fun ρ Q => match ρ[i]? with
  | some (.exc x _) => x ∈ xs ∧ Q (.bool (ys.contains x))
  | _ => False
theorem refs_go : ∀ {ys : List Str} {σ : L2.St} {H : Hp} {Q : List V → Hp → Prop}, Q (ys.map fun y => V.ref (ca K y)) H → tRefs K ys σ H Q
  | [], _, _, _, h => h
  | y :: ys, σ, H, Q, h => refs_go (ys := ys) (Q := fun vs H1 => Q (V.ref (ca K y) :: vs) H1) h
theorem refs_cls : ∀ ys : List Str, Paired ClsV (ys.map fun y => V.ref (ca K y)) (ys.map fun y => Value.ref (ca K y))
  | [] => .nil
  | y :: ys => .cons (.own _) (refs_cls ys)
theorem snd_isT {xs : List Str} {i : Nat} {ys : List Str} (hs : ys.length ≤ 16) : Snd true K (tIsT K xs i ys) 0 (eIsT xs i ys) := mk_snd
  (fun ρ P P' h q => by
    unfold eIsT at q ⊢
    split at q <;> first | exact ⟨q.1, h _ q.2⟩ | exact q.elim)
  (fun {b S m σ H ρ Q P} E hm hf k => by
    unfold eIsT at hf
    split at hf
    · rename_i e
      obtain ⟨v, e1, a, fs, rfl, c, g, _⟩ := E.sl i _ e
      refine fun F => ⟨_, e1, refs_go ⟨?_, fun p np => ?_⟩⟩
      · rw [List.length_map]
        exact Nat.le_trans hs (by decide)
      · have ex := Evl.Ex.new (o := .tup (ys.map fun y => V.ref (ca K y))) np
        exact ⟨a, _, p, fs, _, _, _, rfl, upd_same, refs_cls ys, c, (g.mono rm_le).mono ex, F _ hf.1, k _ _ _ hf.2 (Stp.ex ex) (E.bx.ex ex) (.bl _)⟩
    · exact hf.elim)
def tGetE (K : PySem.W.Frag) (xs : List Str) (f : Str) (i : Nat) : TE := tGivenE (∀ x ∈ xs, PySem.W.findIn K (.ref (ca K x)) f = some none) (tGet K f (tVar i))
abbrev eGetE (xs : List Str) (f : Str) (i : Nat) : FE := fun ρ Q => match ρ[i]? with
  | some (.exc x (some (f', u))) => (x ∈ xs ∧ f' = f) ∧ Q u
  | _ => False
theorem snd_getE {xs : List Str} {f : Str} {i : Nat} : Snd true K (tGetE K xs f i) 0 (eGetE xs f i) := mk_snd
  (fun ρ P P' h q => by
    unfold eGetE at q ⊢
    split at q <;> first | exact ⟨q.1, h _ q.2⟩ | exact q.elim)
  (fun {b S m σ H ρ Q P} E hm hf k => by
    unfold eGetE at hf
    split at hf
    · rename_i x f1 u e
      obtain ⟨v, e1, a, fs, rfl, c, g, w, rfl, d⟩ := E.sl i _ e
      obtain ⟨⟨mem, rfl⟩, hf⟩ := hf
      exact fun F => ⟨_, e1, a, _, _, w, rfl, c, F _ mem, g.mono rm_le, by simp [List.lookup], k _ _ _ hf Stp.refl E.bx d⟩
    · exact hf.elim)
end
end Ex
namespace Ex
open PySem PySem.Spec PyProof.Rows L2 Xg Dv
open Classical
structure SndRA (K : PySem.W.Frag) (t : WX → TA) (c : Nat) (f : FR) : Prop where
  mono : ∀ (ρ : List Sl) (P P' : XW), (∀ x d, P x d → P' x d) → f ρ P → f ρ P'
  go : ∀ {b : Option Addr} {S : Addr → Prop} {m : Nat} {σ : L2.St} {H : Hp} {ρ : List Sl} {W : WX} {P : XW}, DEnv K b S m H σ ρ → m + c ≤ LIM → f ρ P →
    (∀ x d dd H', P x d → Stp K b H H' → BxO b H' (m + c) → XdR K S H' dd d → W (.ref (ca K x)) dd σ H') → ∀ Q, t W σ H Q
section
variable {K : PySem.W.Frag} {md : Bool} {ta : TE} {te : WX → TE} {ca' c cu cr ct : Nat} {fa : FE} {f g : FR} {t u : WX → TS} {tr : TA} {tw : WX → TA}
abbrev FQ := List Sl → (List Sl → Prop) → XW → Prop
structure SndQ (K : PySem.W.Frag) (t : WX → TS) (c : Nat) (f : FQ) : Prop where
  mono : ∀ (ρ : List Sl) (N N' : List Sl → Prop) (P P' : XW), (∀ r, N r → N' r) → (∀ x d, P x d → P' x d) → f ρ N P → f ρ N' P'
  go : ∀ {G : Addr → Prop} {H0 : Hp} {b0 b : Option Addr} {os : Nat → Option Addr} {m : Nat} {H : Hp} {σ : L2.St} {ρ : List Sl} {D : Ends} {N : List Sl → Prop} {W : WX} {P : XW}, Ok K G H0 b0 b os m H σ ρ → m + c ≤ LIM → f ρ N P →
    (∀ b1 os1 σ' H' ρ', N ρ' → Ok K G H0 b0 b1 os1 (m + c) H' σ' ρ' → Lk (SO G b os) H (SO G b1 os1) H' → D.nx σ' H') →
    (∀ x d dd H' σ', P x d → Out K G H0 b0 (m + c) H' → XdR K G H' dd d → W (.ref (ca K x)) dd σ' H') → t W D σ H
variable {fq gq : FQ}
abbrev qS (f : FS) : FQ := fun ρ N _ => f ρ { nx := N, rt := fun _ => False, rl := fun _ => False }
theorem sndq_s {ts : TS} {fs : FS} (a : SndS K ts c fs) : SndQ K (fun _ => ts) c (qS fs) := ⟨
  fun ρ N N' P P' h _ q => a.mono ρ { nx := N, rt := fun _ => False, rl := fun _ => False } { nx := N', rt := fun _ => False, rl := fun _ => False } ⟨h, fun _ h => h, fun _ h => h, fun _ h => h, fun _ h => h⟩ q,
  fun {G H0 b0 b os m H σ ρ D N W P} ok hm hf kn kr => a.go ok hm hf ⟨fun b1 os1 σ' H' ρ' e o l => kn b1 os1 σ' H' ρ' e o l, fun _ _ _ e _ => e.elim, fun _ _ _ _ e _ => e.elim, fun _ _ _ _ _ e _ => e.elim, fun _ _ _ _ _ e _ => e.elim⟩⟩
abbrev qR (f : FR) : FQ := fun ρ _ P => f ρ P
theorem sndq_r (a : SndR K t c f) : SndQ K t c (qR f) := ⟨fun ρ N N' P P' _ h q => a.mono _ _ _ h q, fun ok hm hf kn kr => a.go ok hm hf kr _⟩
abbrev qIf (t : FT) (f g : FQ) : FQ := fun ρ N P => t ρ fun k => if k = true then f ρ N P else g ρ N P
theorem sndq_if {tt : TT} {ft : FT} (a : SndT K tt ct ft) (x : SndQ K t c fq) (y : SndQ K u cu gq) : SndQ K (fun W => tIfS tt (t W) (u W)) (ct + (c + cu)) (qIf ft fq gq) := ⟨
  fun ρ N N' P P' hn hp q => a.mono _ _ _ (fun k z => by
      cases k with
      | true => exact x.mono _ _ _ _ _ hn hp z
      | false => exact y.mono _ _ _ _ _ hn hp z) q,
  fun {G H0 b0 b os m H σ ρ D N W P} ok hm hf kn kr => a.go ok.env (by omega) hf fun q H1 p st bx => by
    have ok1 := ok.step st bx (by omega)
    have l := Lk.step st ok.env.bs
    cases q with
    | true => exact x.go ok1 (by omega) p (fun b1 os1 σ' H' ρ' e o l2 => kn b1 os1 σ' H' ρ' e (o.le (by omega)) (l.trans l2)) fun x d dd H' σ' p o xr => kr x d dd H' σ' p ⟨o.old, o.obx.le (by omega)⟩ xr
    | false => exact y.go ok1 (by omega) p (fun b1 os1 σ' H' ρ' e o l2 => kn b1 os1 σ' H' ρ' e (o.le (by omega)) (l.trans l2)) fun x d dd H' σ' p o xr => kr x d dd H' σ' p ⟨o.old, o.obx.le (by omega)⟩ xr⟩
def loopQ (fg : FG) (f : FQ) : List PyData → List Sl → XW → Prop
  | [], _, _ => False
  | d :: ds, ρ, P => fg d ρ fun ρ1 => f ρ1 (fun ρ2 => loopQ fg f ds ρ2 P) P
theorem loopQ_mono {fg : FG} {f : FQ} (hg : ∀ d (ρ : List Sl) (P P' : List Sl → Prop), (∀ d, P d → P' d) → fg d ρ P → fg d ρ P') (hf : ∀ (ρ : List Sl) (N N' : List Sl → Prop) (P P' : XW), (∀ r, N r → N' r) → (∀ x d, P x d → P' x d) → f ρ N P → f ρ N' P')
    {P P' : XW} (h : ∀ x d, P x d → P' x d) : ∀ (ds : List PyData) (ρ : List Sl), loopQ fg f ds ρ P → loopQ fg f ds ρ P'
  | [], _, q => q
  | d :: ds, ρ, q => hg _ _ _ _ (fun ρ1 => hf _ _ _ _ _ (fun ρ2 => loopQ_mono hg hf h ds ρ2) h) q
abbrev rFor (fi : FD) (fg : FG) (f : FQ) : FR := fun ρ P => fi ρ fun ds => loopQ fg f ds ρ P
theorem sndr_for {wi : TI} {ci : Nat} {fi : FD} {tg : TG} {vs : List Nat} {fg : FG} (i : SndI true K wi ci fi) (hg : SndG K tg vs fg) (a : SndQ K t 0 fq) : SndR K (fun W => tFor wi tg (t W)) ci (rFor fi fg fq) := by
  refine ⟨fun ρ P P' h q => i.mono _ _ _ (fun ds z => loopQ_mono hg.mono a.mono h _ _ z) q, fun {G H0 b0 b os m H σ ρ W P} ok hm hf kr D => i.go ok.env (by omega) hf fun ds J H1 p st bx wk => ?_⟩
  have ok1 := ok.step st bx (by omega)
  have bs := ok.env.bs
  have lk0 := Lk.step st bs
  refine for_it (w := wk) (fun j σ2 H2 => ∃ b2 os2 ρ2, Ok K G H0 b0 b2 os2 (m + ci) H2 σ2 ρ2 ∧ Lk (SO G b os) H1 (SO G b2 os2) H2 ∧ loopQ fg fq (ds.drop j) ρ2 P)
    ⟨b, os, ρ, ok1, Lk.refl, p⟩ (fun j σ2 H2 hj pe => ?_) (fun j x σ2 H2 H3 hj pe y => ?_) (fun σ2 H2 pe => ?_)
  · obtain ⟨b2, os2, ρ2, o2, l2, h2⟩ := pe
    exact l2.kg
  · obtain ⟨b2, os2, ρ2, o2, l2, h2⟩ := pe
    have exT : Evl.Ex (rm H1 (SO G b os)) (rm H2 (SO G b2 os2)) := fun a o h => by
      obtain ⟨n1, h1⟩ := rm_some h
      obtain ⟨g1, g2⟩ := l2 a o n1 (rm_nt h) h1
      exact rm_in g2 g1 (rm_nt h)
    obtain ⟨e23, d, ed, hd⟩ := y _ exT o2.env.al
    have ej := List.getElem?_eq_some_iff.mp ed
    rw [List.drop_eq_getElem_cons ej.1, ej.2] at h2
    have o3 := o2.step (Stp.ex e23) (o2.env.bx.ex e23) (Nat.le_refl _)
    have l3 : Lk (SO G b os) H1 (SO G b2 os2) H3 := l2.trans (Lk.step (Stp.ex (K := K) e23) o2.env.bs)
    refine hg.go o3.env hd h2 fun ρ4 σ4 h4 E4 k4 => ?_
    exact a.go (o3.kpt E4 k4) (by omega) h4 (fun b5 os5 σ5 H5 ρ5 q o l => ⟨b5, os5, ρ5, o, l3.trans l, q⟩) fun x d dd H' σ' p o xr => kr x d dd H' σ' p o xr
  · obtain ⟨b2, os2, ρ2, o2, l2, h2⟩ := pe
    rw [List.drop_length] at h2
    exact h2.elim
end
end Ex
namespace Ex
open PySem PySem.Spec PyProof.Rows L2 Xg Dv
open Classical
section
variable {K : PySem.W.Frag} {c cu ct : Nat} {f g : FR} {t u : WX → TS}
theorem sndr_ifs {tt : TT} {ft : FT} (a : SndT K tt ct ft) (x : SndR K t c f) (y : SndR K u cu g) : SndR K (fun W => tSeq (tIfS tt (t W) tNext) (u W)) (ct + (c + cu)) (rIf ft f g) := ⟨
  fun ρ P P' h q => a.mono _ _ _ (fun k z => by
      cases k with
      | true => exact x.mono _ _ _ h z
      | false => exact y.mono _ _ _ h z) q,
  fun {G H0 b0 b os m H σ ρ W P} ok hm hf k D => a.go ok.env (by omega) hf fun q H1 p st bx => by
    have ok1 := ok.step st bx (by omega)
    cases q with
    | true => exact x.go ok1 (by omega) p (fun x d dd H'' σ'' p o' => k x d dd H'' σ'' p ⟨o'.old, o'.obx.le (by omega)⟩) _
    | false => exact y.go ok1 (by omega) p (fun x d dd H'' σ'' p o' => k x d dd H'' σ'' p ⟨o'.old, o'.obx.le (by omega)⟩) D⟩
end
section
variable {X : Cx} {n m : Str} {i j : Nat} {body : List Stmt} {ty : Expr} {mp np ap pos pos' : Pos} {tb : WX → TS} {xs : List Str}
theorem ps_tryS (hs : X.stack = X.env :: X.outer) (hf : X.env.frame = some X.env.locals) (hex : X.ex = []) (hN : X.N.Nodup) (hi : X.N[i]? = some n) (hln : X.env.kindOf n = some .local)
    (ht : ∀ x ∈ xs, HTest X ty (.ref (ca X.K x)) true)
    (hb : ∀ (W : WX) (pn : List (Addr × Obj)) (xe : Value → Shared → Prop), Takes (X.tr pn xe) W → PSs (X.tr pn xe) body (tb W))
    (hsu : ∀ (a : Addr) (pn : List (Addr × Obj)), PSs (X.suite a pn) [.Assign [.Name m mp] (.Name n np) ap] (tAsg (tVar i) (gName j))) :
    PS X (.Try body [.ExceptHandler (some ty) (some n) [.Assign [.Name m mp] (.Name n np) ap] pos'] [] [] pos) (tTryK X.K xs i j tb) := by
  refine ps_tryK (ok := fun cls => ∃ x ∈ xs, cls = .ref (ca X.K x)) hs hf hex hN hi hln (fun cls hc => ?_) (fun W pn xe tk _ => hb W pn xe tk) hsu fun pins σ H s I => ?_
  · obtain ⟨x, hx, rfl⟩ := hc
    exact ht x hx
  · rw [I.len]
    exact (List.getElem?_eq_some_iff.mp hi).1
end
section
variable {K : PySem.W.Frag}
def clB (K : PySem.W.Frag) (C : Addr) (bmB : List Value) (newId : String) : Bool := match K.lookup C with
  | some ⟨.type "type", _, .cls cd, sl⟩ => (match cd.mro, sl.toList with
    | .ref C1 :: bm, [_, _, _, _, some (.builtin n), _] => C1 == C && (n == newId && (!cd.hasDel && (cd.hasDict && bm == bmB)))
    | _, _ => false)
  | _ => false
theorem clB_ok {C : Addr} {bmB : List Value} {newId : String} (q : clB K C bmB newId = true) : ∃ nm qn N bs sn sub ab col dd k0 k1 k2 k3 k5,
    K.lookup C = some (excClassObj nm qn C N bs bmB true sn sub ab col dd k0 k1 k2 k3 k5 newId) := by
  unfold clB at q
  split at q
  · rename_i dd cd sl ho
    split at q
    · rename_i C1 bm k0 k1 k2 k3 n k5 hm hs
      simp only [Bool.and_eq_true, beq_iff_eq, Bool.not_eq_true'] at q
      obtain ⟨rfl, rfl, hdel, hdi, rfl⟩ := q
      obtain ⟨nm, bs, mro, ns, qn, hd, sn, sub, ab, col, del⟩ := cd
      dsimp only at hm hdel hdi
      subst hm hdel hdi
      obtain ⟨l⟩ := sl
      simp only at hs
      subst hs
      exact ⟨nm, qn, ns, bs, sn, sub, ab, col, dd, k0, k1, k2, k3, k5, ho⟩
    · cases q
  · cases q
def isB (K : PySem.W.Frag) (D : Addr) : Bool :=
  decide (PySem.W.findIn K (.ref D) "__getattribute__" = some (some (.builtin "BaseException.__getattribute__"))) &&
  (decide (PySem.W.findIn K (.ref D) "__getattr__" = some none) &&
  (decide (PySem.W.subIn K (.ref D) (.type "BaseException") = some true) &&
  (PySem.W.hasDictIn K D &&
  (decide (PySem.W.findIn K (.ref D) "__class__" = some (some (.builtin "object.__class__"))) &&
  (decide (PySem.W.specialIn K (.builtin "object.__class__") "__get__" = some (some (.builtin "getset_descriptor.__get__"))) &&
  (decide (PySem.W.takesIn K (.builtin "object.__class__") = some true) &&
  decide (PySem.W.mroIn K D (.type "object") = some true)))))))
theorem isB_ok {D : Addr} (h : isB K D = true) : ExcC K D := by
  unfold isB at h
  simp only [Bool.and_eq_true, decide_eq_true_eq] at h
  obtain ⟨h1, h2, h3, h4, h5, h6, h7, h8⟩ := h
  exact ⟨h1, h2, h3, h4, h5, h6, h7, h8⟩
def xcB (K : PySem.W.Frag) (C : Addr) (newId : String) (bmB : List Value) : Bool :=
  clB K C bmB newId && (decide (PySem.W.findIn K (.ref C) "__setattr__" = some (some (.builtin "object.__setattr__"))) && (PySem.W.keepIn K (.ref C) && (isB K C && decide (PySem.W.typeIn K (.ref C) = some (.type "type")))))
theorem xcB_ok {C : Addr} {newId : String} {bmB : List Value} (h : xcB K C newId bmB = true) : Xv.XC K C newId bmB ∧ PySem.W.typeIn K (.ref C) = some (.type "type") := by
  unfold xcB at h
  simp only [Bool.and_eq_true, decide_eq_true_eq] at h
  obtain ⟨h1, h2, h3, h4, h5⟩ := h
  exact ⟨⟨clB_ok h1, h2, h3, isB_ok h4⟩, h5⟩
end
section
variable {P : Program} {w : World} {K : PySem.W.Frag} {mg : Str → Option Value} {base : Heap}
theorem btV : bootBuiltins "ValueError" = some (.type "ValueError") := by decide +kernel
theorem btL : bootBuiltins "LookupError" = some (.type "LookupError") := by decide +kernel
end
end Ex
namespace Ex
open PySem PySem.Spec PyProof.Rows L2 Xg Dv
open Classical
structure AtB (P : Program) (w : World) (K : PySem.W.Frag) (mg : Str → Option Value) (base : Heap) (A : Around) (f : Addr) (sp spx : Sp) : Prop where
  ex : ∃ (fd : FuncData) (ps : List Str) (j k : Nat), FnG P w K mg base j f fd ps sp ∧ FnX P w K mg base k f fd ps spx ∧ Room j A ∧ Room k A ∧ PySem.W.keepIn K (.ref f) = true ∧ L2.Binds K fd ps []
theorem DfB.at_ {P : Program} {w : World} {K : PySem.W.Frag} {mg : Str → Option Value} {base : Heap} {A : Around} {x : Str} {ps : List Str} {j k : Nat} {sp spx : Sp} (D : DfB P w K mg base x ps j k sp spx) (g : mg x = some (.ref (ca K x))) (r1 : Room j A) (r2 : Room k A) : AtB P w K mg base A (ca K x) sp spx := by
  obtain ⟨f, fd, a, b, c, d, e⟩ := D.ex
  rw [c] at g
  cases Option.some.inj g
  exact ⟨fd, ps, j, k, a, b, r1, r2, d, e⟩
structure Ent where
  x : Str
  c : Nat
  cR : Nat
  F : FF
  R : FR
section
variable {K : PySem.W.Frag} {c cr : Nat} {tr : TA} {fr : FA}
end
end Ex
namespace Ex
open PySem PySem.Spec PyProof.Rows L2 Xg Dv
open Classical
section
variable {P : Program} {w : World} {K : PySem.W.Frag} {mg : Str → Option Value} {base : Heap}
end
section
variable {K : PySem.W.Frag} {c1 c2 cr1 cr2 : Nat} {tr1 tr2 : TA} {fr1 fr2 : FA}
end
end Ex
namespace Ex
open PySem PySem.W PySem.Spec PyProof.Rows L2 Xv
section
variable {M : Model} {K : Frag} {A : Around} {E : Value → Shared → Prop} {s : Shared}
theorem go_all {f : Value → PUnit → Sem (ForInStep PUnit)} : ∀ {cs : List Value} {Q : PUnit → Shared → Prop}, (∀ c ∈ cs, ∀ (u : PUnit) (R : ForInStep PUnit → Shared → Prop), R (ForInStep.yield PUnit.unit) s → wpAny M A (f c u) R E s) → Q PUnit.unit s → wpAny M A (forIn cs PUnit.unit f) Q E s
  | [], Q, _, q => by
    rw [List.forIn_nil]
    exact wpAny_pure q
  | c :: cs, Q, h, q => by
    rw [List.forIn_cons]
    refine wpAny_bind (h c (List.mem_cons_self ..) _ _ ?_)
    exact go_all (fun d hd => h d (List.mem_cons_of_mem _ hd)) q
theorem go_any {cls : Value} {g : Value → Option Bool × Unit → Sem (ForInStep (Option Bool × Unit))} : ∀ {cs : List Value} {b : Bool} {Q : Option Bool × Unit → Shared → Prop}, (∀ c ∈ cs, ∀ v, exmOne K cls c = some v → ∀ (u : Option Bool × Unit) (R : ForInStep (Option Bool × Unit) → Shared → Prop), R (if v = true then ForInStep.done (some true, ()) else ForInStep.yield (none, ())) s → wpAny M A (g c u) R E s) →
    exmAny K cls cs = some b → Q (if b = true then (some true, ()) else (none, ())) s → wpAny M A (forIn cs (none, ()) g) Q E s
  | [], b, Q, _, e, q => by
    have e : some false = some b := e
    cases e
    rw [List.forIn_nil]
    exact wpAny_pure q
  | c :: cs, b, Q, h, e, q => by
    obtain ⟨b1, d1, x1, y1, rfl⟩ := exmAny_cons e
    rw [List.forIn_cons]
    refine wpAny_bind (h c (List.mem_cons_self ..) b1 x1 _ _ ?_)
    cases b1 with
    | true => exact wpAny_pure q
    | false => exact go_any (fun d hd => h d (List.mem_cons_of_mem _ hd)) y1 q
theorem exm_mem {cls : Value} : ∀ {cs : List Value} {b : Bool}, exmAny K cls cs = some b → ∀ c ∈ cs, ∃ v, exmOne K cls c = some v
  | [], _, _, c, h => by cases h
  | c :: cs, b, e, d, h => by
    obtain ⟨b1, d1, x1, y1, _⟩ := exmAny_cons e
    rcases List.mem_cons.mp h with rfl | h
    · exact ⟨b1, x1⟩
    · exact exm_mem y1 d h
theorem exm_all {cls : Value} {cs : List Value} {tp e : Addr} {b : Bool} {h : Heap} (X : K.In h) (LT : Looks M h (typeOf (.ref e)) cls) (hp : h.get? tp = some { cls := .type "tuple", data := .seq cs.toArray }) (hx : exmAny K cls cs = some b) :
    Looks M h (excMatches (.ref e) (.ref tp)) b := by
  intro A Q E s k q
  have LT0 : Looks M h (isInstance (.ref tp) (.type "tuple")) true := ((Looks.ld hp).andThen .now).andThen (Looks.of_pure isSubtype_tuple_tuple)
  unfold excMatches
  refine wpAny_bind (LT0 A _ E s k ?_)
  dsimp only
  rw [if_pos rfl]
  first
    | refine wpAny_bind (wpAny_seqItems (k _ _ hp) rfl ?_)
    | refine wpAny_bind (wpAny_bind (wpAny_seqItems (k _ _ hp) rfl (wpAny_pure ?_)))
  dsimp only [Option.getD_some, Option.getD]
  refine wpAny_bind (wpAny_pure ?_)
  refine wpAny_bind (go_all (fun c hc u R r => ?_) ?_)
  · obtain ⟨v, hv⟩ := exm_mem hx c hc
    refine wpAny_bind ((exm_cls (M := M) X hv).1 A _ E s k ?_)
    exact wpAny_pure r
  refine wpAny_bind (LT A _ E s k ?_)
  refine wpAny_bind (go_any (cls := cls) (fun c hc v hv u R r => ?_) hx ?_)
  · refine wpAny_bind ((exm_cls (M := M) X hv).2 A _ E s k ?_)
    cases v with
    | true => exact wpAny_pure r
    | false => exact wpAny_pure r
  · cases b with
    | true => exact wpAny_pure q
    | false => exact wpAny_pure q
end
section
variable {X : Cx} {cls : Value} {b : Bool}
theorem ht_tup6 {x1 x2 x3 x4 x5 x6 : Str} {C1 C2 C3 C4 C5 C6 : Addr} {p1 p2 p3 p4 p5 p6 tp : Pos} {kk : Nat} (g1 : Gl X x1) (g2 : Gl X x2) (g3 : Gl X x3) (g4 : Gl X x4) (g5 : Gl X x5) (g6 : Gl X x6) (m1 : X.mg x1 = some (.ref C1)) (m2 : X.mg x2 = some (.ref C2)) (m3 : X.mg x3 = some (.ref C3)) (m4 : X.mg x4 = some (.ref C4)) (m5 : X.mg x5 = some (.ref C5)) (m6 : X.mg x6 = some (.ref C6))
    (he : PySem.W.exmAny X.K cls [.ref C1, .ref C2, .ref C3, .ref C4, .ref C5, .ref C6] = some b) (d1 : (x1 == ("__debug__" : Str)) = false := by decide) (d2 : (x2 == ("__debug__" : Str)) = false := by decide) (d3 : (x3 == ("__debug__" : Str)) = false := by decide) (d4 : (x4 == ("__debug__" : Str)) = false := by decide) (d5 : (x5 == ("__debug__" : Str)) = false := by decide) (d6 : (x6 == ("__debug__" : Str)) = false := by decide) :
    HTest X (.Tuple [.Name x1 p1, .Name x2 p2, .Name x3 p3, .Name x4 p4, .Name x5 p5, .Name x6 p6] kk tp) cls b := fun a pn A E Q s σ H I LT q => by
  refine wpAny_Tuple ?_
  refine wpAny_items_cons (ld_glob (X := X.suite a pn) I g1 m1 ?_ d1)
  refine wpAny_items_cons (ld_glob (X := X.suite a pn) I g2 m2 ?_ d2)
  refine wpAny_items_cons (ld_glob (X := X.suite a pn) I g3 m3 ?_ d3)
  refine wpAny_items_cons (ld_glob (X := X.suite a pn) I g4 m4 ?_ d4)
  refine wpAny_items_cons (ld_glob (X := X.suite a pn) I g5 m5 ?_ d5)
  refine wpAny_items_cons (ld_glob (X := X.suite a pn) I g6 m6 ?_ d6)
  refine wpAny_items_nil ⟨by size_fits, ?_⟩
  have kp : ∀ q o, s.heap.get? q = some o → (s.heap.push { cls := .type "tuple", data := .seq [Value.ref C1, .ref C2, .ref C3, .ref C4, .ref C5, .ref C6].toArray }).get? q = some o := fun _ _ z => Heap.get?_push_of_some _ z
  exact (exm_all (I.kIn.keeps kp) (LT.keeps kp) (Heap.get?_push_size s.heap rfl) he).here (q _ kp)
end
end Ex
namespace Ex
open PySem PySem.Spec PyProof.Rows L2 Xg Dv
open Classical
section
variable {K : PySem.W.Frag} {md md2 : Bool} {ta tb : TE} {ca' cb c cu cr cw u cu' : Nat} {fa fb : FE} {tr : TA} {fr : FA} {t v : WX → TS} {fq : FQ} {g : FR}
end
end Ex
namespace Dv
open PySem PySem.Spec PyProof.Rows L2 Xg
end Dv
namespace Ex
open PySem PySem.Spec PyProof.Rows L2 Xg Dv
open Classical
section
variable {md md2 : Bool} {K : PySem.W.Frag} {ta tb : TE} {ca' cb : Nat} {fa fb : FE}
end
end Ex
namespace Dv
open PySem PySem.Spec PyProof.Rows L2 Xg
open Classical
section
variable {X : Cx}
end
structure SndM (K : PySem.W.Frag) (t : TE) (c : Nat) (f : FD) : Prop where
  mono : ∀ (ρ : List Sl) (P P' : List PyData → Prop), (∀ d, P d → P' d) → f ρ P → f ρ P'
  go : ∀ {b : Option Addr} {S : Addr → Prop} {m : Nat} {σ : L2.St} {H : Hp} {ρ : List Sl} {Q : VK} {P : List PyData → Prop}, DEnv K b S m H σ ρ → m + c ≤ LIM → f ρ P →
    (∀ (ds : List PyData) (l : Addr) (o : Obj) (xs : List V) (H' : Hp), P ds → H l = none → o.cls = .type "tuple" → o.dict = none → H' l = some (.frz o (.tup xs)) → Stp K b H H' → BxO b H' (m + c) → DaL K (rm H' S) xs ds → Q (.ref l) H') → t σ H Q
section
variable {K : PySem.W.Frag} {c cr ca i : Nat} {t ta tb : TE} {tr : TA} {fr : FA} {f fl : FD} {fa fb : FE}
end
section
variable {P : Program} {w : World} {K : PySem.W.Frag} {mg : Str → Option Value} {base : Heap}
end
end Dv
namespace Dv
open PySem PySem.Spec PyProof.Rows L2 Xg
open Classical
section
variable {P : Program} {w : World} {K : PySem.W.Frag} {mg : Str → Option Value} {base : Heap}
end
section
variable {K : PySem.W.Frag} {md : Bool} {ta : TE} {ca : Nat} {fa : FE}
end
end Dv
namespace Dv
open PySem PySem.Spec PyProof.Rows L2 Xg
open Classical
section
variable {X : Cx}
end
section
variable {K : PySem.W.Frag} {md : Bool} {ta tb tc : TE} {ca cb cc : Nat} {fa fb : FE}
def rAddS : R2 := fun x y H Q => ∃ i j, x = .str i ∧ y = .str j ∧ i.length + j.length ≤ sizeLine ∧ Q (.str (i ++ j)) H
abbrev gAddS : GB
  | .str i, .str j, Q => i.length + j.length ≤ 1000000 ∧ Q (.str (i ++ j))
  | _, _, _ => False
theorem ops_addS : OpSnd K rAddS gAddS := ⟨fun x y P P' h q => by
    cases x <;> cases y <;> first | exact ⟨q.1, h _ q.2⟩ | exact q.elim, fun {b S H x y dx dy Q P} al hx hy q k => by
    cases dx <;> cases dy <;> first | exact q.elim | skip
    rw [hx.str, hy.str]
    exact ⟨_, _, rfl, rfl, Nat.le_trans q.1 (by decide), k _ _ _ q.2 (Evl.Ex.refl _) (.str _)⟩⟩
theorem op_addS {X : Cx} : OpR X (binaryOp .Add) rAddS := op_add_str
abbrev strQ (Q : Str → Prop) : PyData → Prop
  | .str x => Q x
  | _ => False
theorem strQ_mono {P P' : Str → Prop} (h : ∀ x, P x → P' x) : ∀ d, strQ P d → strQ P' d := fun d z => by cases d <;> first | exact h _ z | exact z.elim
abbrev eStrI (fa : FE) : FE := fun ρ Q => fa ρ (asI fun i => i.natAbs.log2 < 1920 ∧ Q (.str (Str.ofString (toString i))))
theorem snd_strI (a : Snd true K ta ca fa) : Snd true K (tCB (fun xs H Q => ∃ i, xs = [.int i] ∧ i.natAbs.log2 < 1920 ∧ Q (.str (Str.ofString (toString i))) H) (tCons ta tNil)) ca (eStrI fa) := mk_snd
  (fun ρ P P' h q => a.mono _ _ _ (asI_mono fun x z => ⟨z.1, h _ z.2⟩) q)
  (fun E hm hf k => a.go E hm hf fun dx v H1 p st bx vd => by
    obtain ⟨n, rfl, z, q⟩ := asI_of p vd
    exact ⟨_, rfl, z, k _ _ _ q st bx (.str _)⟩)
end
end Dv
namespace Dv
open PySem PySem.Spec PyProof.Rows L2 Xg
open Classical
section
variable {K : PySem.W.Frag} {H : Hp}
theorem DaL.strs_inv : ∀ {ns : List Str} {vs : List V}, DaL K H vs (ns.map PyData.str) → vs = ns.map V.str
  | [], _, .nil => rfl
  | n :: r, _, .cons h g => by
    cases h
    rw [DaL.strs_inv g]
    rfl
abbrev gNotInTS : GB
  | .str i, .tuple ds, Q => ∃ ns : List Str, ds = ns.map PyData.str ∧ Q (.bool (!decide (i ∈ ns)))
  | _, _, _ => False
theorem inV_strs {i : Str} : ∀ {ns : List Str}, inV (.str i) (ns.map V.str) = decide (i ∈ ns)
  | [] => rfl
  | n :: ns => by
    have ih := inV_strs (i := i) (ns := ns)
    unfold inV at ih ⊢
    rw [List.map_cons, List.any_cons, ih]
    have e : eqV (.str n) (.str i) = decide (n = i) := by
      show (n == i) = decide (n = i)
      by_cases h : n = i
      · rw [decide_eq_true h, h]; simp
      · rw [decide_eq_false h]; simp [h]
    rw [e]
    by_cases h : n = i
    · simp [h]
    · have h' : ¬ i = n := fun z => h z.symm
      simp [h, h']
theorem flat_strs : ∀ {ns : List Str}, (ns.map V.str).all flatV = true
  | [] => rfl
  | n :: ns => by rw [List.map_cons, List.all_cons, flat_strs]; rfl
theorem ops_notInTS : OpSnd K (rIn K true) gNotInTS := ⟨fun x y P P' h q => by
    cases x <;> cases y <;> first | exact let ⟨ns, e, z⟩ := q; ⟨ns, e, h _ z⟩ | exact q.elim, fun {b S H x y dx dy Q P} al hx hy q k => by
    cases dx <;> cases dy <;> first | exact q.elim | skip
    obtain ⟨ns, rfl, q⟩ := q
    obtain ⟨p, vs, rfl, e, g⟩ := hy.tuple
    rw [g.strs_inv] at e
    rw [hx.str]
    refine ⟨p, _, rfl, .inr e, rfl, flat_strs, ?_⟩
    rw [if_pos rfl, inV_strs]
    exact k _ _ _ q (Evl.Ex.refl _) (.bl _)⟩
end
end Dv
namespace Dv
open PySem PySem.Spec PyProof.Rows L2 Xg
open Classical
def repS (x : Str) (n : Int) : Str := ⟨(List.replicate n.toNat x.cps).foldl (· ++ ·) #[]⟩
def rMulS : R2 := fun x y H Q => ∃ z n, x = .str z ∧ y = .int n ∧ (2 ≤ n ∧ n ≤ 1000 ∧ 0 < z.length ∧ z.length ≤ 1000 ∧ (repS z n).length ≤ sizeLine) ∧ Q (.str (repS z n)) H
theorem op_mulS {X : Cx} : OpR X (binaryOp .Mult) rMulS := by
  intro pins s σ H x y v u Q I rx ry h
  obtain ⟨z, n, rfl, rfl, ⟨h1, h2, h3, h4, h5⟩, q⟩ := h
  obtain ⟨t, rfl⟩ := rx
  obtain ⟨c, rfl⟩ := ry
  have hd : (2 ^ 63 - 1 : Int) / n ≥ 1000 := by
    have : (1000 : Int) ≤ (2 ^ 63 - 1) / n := (Int.le_ediv_iff_mul_le (by omega)).mpr (by omega)
    exact this
  have hm : z.length * n.toNat ≤ 1000 * 1000 := Nat.mul_le_mul h4 (by omega)
  have e1 : (n == 1 || z.length == 0) = false := by
    rw [Bool.or_eq_false_iff]
    exact ⟨by simp; omega, by simp; omega⟩
  refine P.mul_str ?_ (fun _ _ => ?_) (fun _ _ => ?_) ?_
  · rw [decide_eq_false (by omega), decide_eq_false (by omega)]
    rfl
  · omega
  · unfold Builtin.Str.tooLong
    have := sizeLine_eq
    simp
    omega
  · rw [if_neg (by omega), e1, if_neg (by decide)]
    exact ⟨h5, .str (repS z n), H, I.tok _, ⟨_, rfl⟩, q⟩
section
variable {K : PySem.W.Frag} {md md2 : Bool} {ta tb : TE} {ca cb : Nat} {fa fb : FE}
theorem strQ_of {b : Option Addr} {S : Addr → Prop} {H : Hp} {Q : Str → Prop} {d : PyData} {v : V} (h : strQ Q d) (g : VD md K b S H v d) : ∃ x, v = .str x ∧ Q x := by
  cases d with
  | str x => exact ⟨x, g.vw.str, h⟩
  | _ => exact h.elim
theorem daL_strs {H : Hp} : ∀ {ys : List Str}, DaL K H (ys.map V.str) (ys.map PyData.str)
  | [] => .nil
  | y :: ys => .cons (.str y) daL_strs
abbrev rSplit : V → List V → Hp → VK → Prop := fun x xs H Q => ∃ a b, x = .str a ∧ xs = [.str b] ∧ (b.length == 0) = false ∧ a.length + 2 ≤ sizeLine ∧ rNewStrs (Txt.split a b) H Q
abbrev fSplit (fa fb : FE) : FD := fun ρ Q => fa ρ (strQ fun x => fb ρ (strQ fun y => (y.length ≠ 0 ∧ x.length ≤ 1000000) ∧ Q ((Txt.split x y).map PyData.str)))
theorem sndl_split (a : Snd md K ta ca fa) (c : Snd md2 K tb cb fb) : SndL K (tM1 rSplit ta tb) (ca + cb) (fSplit fa fb) := ⟨
  fun ρ P P' h q => a.mono _ _ _ (strQ_mono fun x => c.mono _ _ _ (strQ_mono fun y z => ⟨z.1, h _ z.2⟩)) q,
  fun E hm hf k => a.go E (by omega) hf fun dx v H1 p st bx vd => by
    obtain ⟨x, rfl, p⟩ := strQ_of p vd
    refine ⟨⟨x, rfl⟩, c.go (E.step st bx) (by omega) p fun dy w H2 p2 st2 bx2 vd2 => ?_⟩
    obtain ⟨y, rfl, ⟨hy, hx⟩, q⟩ := strQ_of p2 vd2
    refine ⟨x, y, rfl, rfl, by simpa using hy, Nat.le_trans (Nat.add_le_add_right hx 2) (by decide), fun l nl => ?_⟩
    exact k _ _ _ _ q (back (st.trans st2) (bx2.le (Nat.le_refl _)) nl) ((st.trans st2).trans (Stp.ex (Evl.Ex.new nl))) ((bx2.le (by omega)).ex (Evl.Ex.new nl)) upd_same (daL_strs (ys := Txt.split x y))⟩
abbrev strsQ (Q : List Str → Prop) : PyData → Prop
  | .list ds => ∃ ys : List Str, ds = ys.map PyData.str ∧ Q ys
  | _ => False
theorem strsQ_mono {P P' : List Str → Prop} (h : ∀ x, P x → P' x) : ∀ d, strsQ P d → strsQ P' d := fun d z => by cases d <;> first | exact ⟨z.1, z.2.1, h _ z.2.2⟩ | (obtain ⟨ys, e, q⟩ := z; exact ⟨ys, e, h _ q⟩) | exact z.elim
abbrev rJoin (K : PySem.W.Frag) : V → List V → Hp → VK → Prop := fun x xs H Q => ∃ a p, ∃ ys : List Str, x = .str a ∧ xs = [.ref p] ∧ (SqL K H p (ys.map V.str) ∨ SqT K H p (ys.map V.str)) ∧ (ys.map (·.length)).sum + ys.length * a.length ≤ 16777216 ∧ Q (.str (Txt.join a ys)) H
abbrev eJoin (fa fb : FE) : FE := fun ρ Q => fa ρ (strQ fun x => fb ρ (strsQ fun ys => (ys.map (·.length)).sum + ys.length * x.length ≤ 16777216 ∧ Q (.str (Txt.join x ys))))
theorem snd_join (a : Snd md K ta ca fa) (c : Snd md2 K tb cb fb) : Snd true K (tM1 (rJoin K) ta tb) (ca + cb) (eJoin fa fb) := mk_snd
  (fun ρ P P' h q => a.mono _ _ _ (strQ_mono fun x => c.mono _ _ _ (strsQ_mono fun y z => ⟨z.1, h _ z.2⟩)) q)
  (fun E hm hf k => a.go E (by omega) hf fun dx v H1 p st bx vd => by
    obtain ⟨x, rfl, p⟩ := strQ_of p vd
    refine ⟨⟨x, rfl⟩, c.go (E.step st bx) (by omega) p fun dy w H2 p2 st2 bx2 vd2 => ?_⟩
    cases dy <;> first | exact p2.elim | skip
    obtain ⟨ys, rfl, hz, q⟩ := p2
    obtain ⟨l, vs, rfl, e, g⟩ := vd2.vw.list
    rw [g.strs_inv] at e
    exact ⟨x, l, ys, rfl, rfl, .inl (.inl (.inl e)), hz, k _ _ _ q (st.trans st2) (bx2.le (by omega)) (.str _)⟩)
abbrev gMulS : GB
  | .str x, .int n, Q => (2 ≤ n ∧ n ≤ 1000 ∧ 0 < x.length ∧ x.length ≤ 1000 ∧ (repS x n).length ≤ sizeLine) ∧ Q (.str (repS x n))
  | _, _, _ => False
theorem ops_mulS : OpSnd K rMulS gMulS := ⟨fun x y P P' h q => by
    cases x <;> cases y <;> first | exact ⟨q.1, h _ q.2⟩ | exact q.elim, fun {b S H x y dx dy Q P} al hx hy q k => by
    cases dx <;> cases dy <;> first | exact q.elim | skip
    rw [hx.str, hy.int]
    exact ⟨_, _, rfl, rfl, q.1, k _ _ _ q.2 (Evl.Ex.refl _) (.str _)⟩⟩
def rInS (neg : Bool) : R2 := fun x y H Q => ∃ i j, x = .str i ∧ y = .str j ∧ Q (.bl (if neg then !(!(Builtin.Str.occurrences j i 0 j.length 1).isEmpty) else !(Builtin.Str.occurrences j i 0 j.length 1).isEmpty)) H
abbrev gInS : GB
  | .str i, .str j, Q => Q (.bool (!(Builtin.Str.occurrences j i 0 j.length 1).isEmpty))
  | _, _, _ => False
theorem ops_inS : OpSnd K (rInS false) gInS := ⟨fun x y P P' h q => by
    cases x <;> cases y <;> first | exact h _ q | exact q.elim, fun {b S H x y dx dy Q P} al hx hy q k => by
    cases dx <;> cases dy <;> first | exact q.elim | skip
    rw [hx.str, hy.str]
    exact ⟨_, _, rfl, rfl, k _ _ _ q (Evl.Ex.refl _) (.bl _)⟩⟩
theorem op_inS {X : Cx} : OpR X (compareOp .In) (rInS false) := op_in_str
abbrev chD (x : Str) : List PyData := x.cps.toList.map fun c => .str ⟨#[c]⟩
theorem wk_str {b : Option Addr} {S : Addr → Prop} {H1 : Hp} {x : Str} : Wk md K b S H1 (Its x) (chD x) :=
  wk_of (walk_str (z := x)) (by unfold chD; rw [List.length_map]; rfl) (fun _ _ => trivial) fun i H v H' hi y T hT al => by
    obtain ⟨rfl, c, e, rfl⟩ := y
    refine ⟨Evl.Ex.refl _, .str ⟨#[c]⟩, ?_, .str _⟩
    unfold chD
    rw [List.getElem?_map]
    have e2 : x.cps.toList[i]? = some c := by simpa using e
    rw [e2]
    rfl
abbrev fStr (f : FE) : FD := fun ρ Q => f ρ (strQ fun x => Q (chD x))
theorem sndi_str (a : Snd md K ta ca fa) : SndI md2 K (iStr ta) ca (fStr fa) := ⟨fun ρ P P' h g => a.mono _ _ _ (strQ_mono fun n z => h _ z) g,
  fun {b S m σ H ρ R P} E hm hf k => a.go E hm hf fun d v H1 p st bx vd => by
    obtain ⟨x, rfl, q⟩ := strQ_of p vd
    exact ⟨x, rfl, k _ _ _ q st bx wk_str⟩⟩
abbrev eLenT (fa : FE) : FE := fun ρ Q => fa ρ (strQ fun x => x.length ≤ 1000000 ∧ Q (.int x.length))
theorem snd_lenT (a : Snd md K ta ca fa) : Snd true K (tCB (fun xs H Q => ∃ z, xs = [.str z] ∧ z.length ≤ sizeLine ∧ Q (.int z.length) H) (tCons ta tNil)) ca (eLenT fa) := mk_snd
  (fun ρ P P' h q => a.mono _ _ _ (strQ_mono fun x z => ⟨z.1, h _ z.2⟩) q)
  (fun E hm hf k => a.go E hm hf fun dx v H1 p st bx vd => by
    obtain ⟨x, rfl, hx, q⟩ := strQ_of p vd
    exact ⟨x, rfl, Nat.le_trans hx (by decide), k _ _ _ q st bx (.int _)⟩)
abbrev eIntT (fa : FE) : FE := fun ρ Q => fa ρ (strQ fun x => ∃ n, PySem.intText? x = some n ∧ x.length ≤ 640 ∧ Q (.int n))
theorem snd_intT (a : Snd md K ta ca fa) : Snd true K (tCB (fun xs H Q => ∃ a n, xs = [.str a] ∧ PySem.intText? a = some n ∧ a.length ≤ 640 ∧ Q (.int n) H) (tCons ta tNil)) ca (eIntT fa) := mk_snd
  (fun ρ P P' h q => a.mono _ _ _ (strQ_mono fun x ⟨n, z1, z2, z3⟩ => ⟨n, z1, z2, h _ z3⟩) q)
  (fun E hm hf k => a.go E hm hf fun dx v H1 p st bx vd => by
    obtain ⟨x, rfl, n, h1, h2, q⟩ := strQ_of p vd
    exact ⟨x, n, rfl, h1, h2, k _ _ _ q st bx (.int _)⟩)
abbrev gIxS : GB
  | .str x, .int i, Q => x.length ≤ 1000000 ∧ ∃ c, L2.atI x.cps.toList i = some c ∧ Q (.str ⟨#[c]⟩)
  | _, _, _ => False
theorem ops_ixS : OpSnd K rIxS gIxS := ⟨fun x y P P' h q => by
    cases x <;> cases y <;> first | exact let ⟨l, c, e, z⟩ := q; ⟨l, c, e, h _ z⟩ | exact q.elim, fun {b S H x y dx dy Q P} al hx hy q k => by
    cases dx <;> cases dy <;> first | exact q.elim | skip
    obtain ⟨l, c, e, q⟩ := q
    rw [hx.str, hy.int]
    exact ⟨_, _, c, rfl, rfl, Nat.le_trans l (by decide), e, k _ _ _ q (Evl.Ex.refl _) (.str _)⟩⟩
abbrev eSlT (fa : FE) (fl fh : List Sl → (Option Int → Prop) → Prop) : FE := fun ρ Q => fa ρ (strQ fun x => fl ρ fun lo => fh ρ fun hi => x.length ≤ 1000000 ∧ Q (.str (cutS x lo hi)))
theorem snd_slT {tl th : TO} {cl ch : Nat} {fl fh : List Sl → (Option Int → Prop) → Prop} (a : Snd md K ta ca fa) (l : SndO K tl cl fl) (h : SndO K th ch fh) : Snd true K (tSl rSlS ta tl th) (ca + (cl + ch)) (eSlT fa fl fh) := mk_snd
  (fun ρ P P' hp q => a.mono _ _ _ (strQ_mono fun x => l.mono _ _ _ fun lo => h.mono _ _ _ fun hi z => ⟨z.1, hp _ z.2⟩) q)
  (fun E hm hf k => a.go E (by omega) hf fun x v H1 p st bx vd => by
    obtain ⟨y, rfl, p⟩ := strQ_of p vd
    exact l.go (E.step st bx) (by omega) p fun lo H2 p2 st2 bx2 => h.go ((E.step st bx).step st2 bx2) (by omega) p2 fun hi H3 p3 st3 bx3 =>
      ⟨y, rfl, Nat.le_trans p3.1 (by decide), k _ _ _ p3.2 ((st.trans st2).trans st3) (bx3.le (by omega)) (.str _)⟩)
abbrev FJ := List Sl → Str → (Str → Prop) → Prop
abbrev jNil : FJ := fun _ acc Q => Q acc
abbrev jCons (f : FE) (g : FJ) : FJ := fun ρ acc Q => f ρ (strQ fun y => (acc ++ y).length ≤ 1000000 ∧ g ρ (acc ++ y) Q)
structure SndJ (K : PySem.W.Frag) (ts : List TE) (c : Nat) (f : FJ) : Prop where
  mono : ∀ (ρ : List Sl) (acc : Str) (P P' : Str → Prop), (∀ d, P d → P' d) → f ρ acc P → f ρ acc P'
  go : ∀ {b : Option Addr} {S : Addr → Prop} {m : Nat} {σ : L2.St} {H : Hp} {ρ : List Sl} {acc : Str} {R : Str → Hp → Prop} {P : Str → Prop}, DEnv K b S m H σ ρ → m + c ≤ LIM → f ρ acc P →
    (∀ out H1, P out → Stp K b H H1 → BxO b H1 (m + c) → R out H1) → tJs ts acc σ H R
theorem sndj_nil : SndJ K [] 0 jNil := ⟨fun ρ acc P P' h q => h _ q, fun E hm hf k => k _ _ hf (Stp.ex (Evl.Ex.refl _)) E.bx⟩
theorem sndj_cons {ts : List TE} {c : Nat} {g : FJ} (a : Snd md K ta ca fa) (r : SndJ K ts c g) : SndJ K (ta :: ts) (ca + c) (jCons fa g) := ⟨
  fun ρ acc P P' h q => a.mono _ _ _ (strQ_mono fun y z => ⟨z.1, r.mono _ _ _ _ h z.2⟩) q,
  fun E hm hf k => a.go E (by omega) hf fun dx v H1 p st bx vd => by
    obtain ⟨y, rfl, hz, q⟩ := strQ_of p vd
    exact ⟨y, rfl, Nat.le_trans hz (by decide), r.go (E.step st bx) (by omega) q fun out H2 p2 st2 bx2 => k out H2 p2 (st.trans st2) (bx2.le (by omega))⟩⟩
abbrev eJs (g : FJ) : FE := fun ρ Q => g ρ Str.empty fun out => Q (.str out)
theorem snd_js {ts : List TE} {c : Nat} {g : FJ} (r : SndJ K ts c g) : Snd true K (fun σ H Q => tJs ts Str.empty σ H fun out H1 => Q (.str out) H1) c (eJs g) := mk_snd
  (fun ρ P P' h q => r.mono _ _ _ _ (fun out => h _) q)
  (fun E hm hf k => r.go E hm hf fun out H1 p st bx => k _ _ _ p st bx (.str _))
abbrev eFmt (fa : FE) : FE := fun ρ Q => fa ρ fun d => match d with
  | .str y => y.length ≤ 1000000 ∧ Q (.str y)
  | .int i => i.natAbs.log2 < 1920 ∧ Q (.str (Str.ofString (toString i)))
  | _ => False
theorem snd_fmt (a : Snd md K ta ca fa) : Snd true K (tFmt ta) ca (eFmt fa) := mk_snd
  (fun ρ P P' h q => a.mono _ _ _ (fun x z => by cases x <;> first | exact ⟨z.1, h _ z.2⟩ | exact z.elim) q)
  (fun E hm hf k => a.go E hm hf fun dx v H1 p st bx vd => by
    cases dx <;> first | exact p.elim | skip
    · rw [vd.vw.int]
      exact .inr ⟨_, rfl, p.1, k _ _ _ p.2 st bx (.str _)⟩
    · rw [vd.vw.str]
      exact .inl ⟨_, rfl, Nat.le_trans p.1 (by decide), k _ _ _ p.2 st bx (.str _)⟩)
end
end Dv
namespace Kc
open PySem PySem.Spec PyProof.Rows L2 Xg Dv Kd
theorem pick_of {ds : List PyData} {Q : PyData → Prop} (h0 : 0 < ds.length) (hz : ds.length < 1000) (q : ∀ d ∈ ds, Q d) : F__law_pick [.box, .dt (.list ds)] Q := by
  unfold F__law_pick
  refine ⟨rfl, ⟨⟨by omega, by omega⟩, fun r r0 r1 => ?_⟩⟩
  show atQ (L2.atI ds r) Q
  have e : r = ((r.toNat : Nat) : Int) := by omega
  have l : r.toNat < ds.length := by omega
  rw [e, atI_nat (List.getElem?_eq_getElem l)]
  exact q _ (List.getElem_mem l)
theorem cut_mid {x y : PyData} {m : List PyData} : Dv.cutD (x :: (m ++ [y])) (some 1) (some (-1)) = m := by
  have l : (x :: (m ++ [y])).length = m.length + 2 := by simp
  have e : HT.sIx (m.length + 2) 0 (some 1) = 1 := by
    unfold HT.sIx
    simp
  have e' : HT.sIx (m.length + 2) (m.length + 2) (some (-1)) = m.length + 1 := by
    unfold HT.sIx
    simp
    omega
  unfold Dv.cutD
  rw [l, e, e']
  show (m ++ [y]).take m.length = m
  rw [List.take_left]
theorem take_of {n : Int} {Q : PyData → Prop} (h0 : 0 < n) (h1 : n < 4611686018427387904) (q : ∀ r, 0 ≤ r → r < n → Q (.int r)) : F_take [.box, .dt (.int n)] Q := ⟨⟨h0, h1⟩, q⟩
theorem lineC_of {most : Nat} {high : Int} {Q : PyData → Prop} (h0 : 2 ≤ most) (hm : most ≤ 90) (hh : 1 ≤ high ∧ high ≤ 1000000000) (q : ∀ row rooms, Ln row rooms most → Q (ln true row rooms)) : F__law_line [.box, .dt (.int (most : Nat)), .dt (.int high)] Q := by
  unfold F__law_line
  refine ⟨rfl, pick_of (by show 0 < 3; decide) (by show 3 < 1000; decide) fun f hf => ?_⟩
  obtain ⟨row, rfl⟩ : ∃ row, f = .str (fm row) := by
    simp only [List.mem_cons, List.not_mem_nil, or_false] at hf
    rcases hf with rfl | rfl | rfl
    · exact ⟨true, rfl⟩
    · exact ⟨true, rfl⟩
    · exact ⟨false, rfl⟩
  show f__law_line_2 [.box, .dt (.int (most : Nat)), .dt (.int high), .dt (.str (fm row)), .no, .no, .no] _
  unfold f__law_line_2
  have main : ∀ least : Int, least = 1 + (if decide (fm row = "ring") = true then 1 else 0) → f__law_line_1 [.box, .dt (.int (most : Nat)), .dt (.int high), .dt (.str (fm row)), .dt (.int least), .no, .no] { nx := fun _ => Q .none, rt := Q, rl := fun ds => Q (.list ds) } := fun least hl => by
    rw [fm_ring] at hl
    have l2 : 1 ≤ least ∧ least ≤ 2 ∧ (row = false → least = 2) := by
      cases row with
      | true => rw [if_neg (by decide)] at hl; exact ⟨by omega, by omega, fun e => by cases e⟩
      | false => rw [if_pos (by decide)] at hl; exact ⟨by omega, by omega, fun e => by omega⟩
    unfold f__law_line_1
    refine pick_of (by show 0 < 5; decide) (by show 5 < 1000; decide) fun tp ht => ?_
    obtain ⟨top, rfl, t0, t1⟩ : ∃ top : Int, tp = .int top ∧ 1 ≤ top ∧ top ≤ 1000000000 := by
      simp only [List.mem_cons, List.not_mem_nil, or_false] at ht
      rcases ht with rfl | rfl | rfl | rfl | rfl
      · exact ⟨1, rfl, by omega, by omega⟩
      · exact ⟨2, rfl, by omega, by omega⟩
      · exact ⟨3, rfl, by omega, by omega⟩
      · exact ⟨high, rfl, hh.1, hh.2⟩
      · exact ⟨high, rfl, hh.1, hh.2⟩
    show f__law_line_0 [.box, .dt (.int (most : Nat)), .dt (.int high), .dt (.str (fm row)), .dt (.int least), .dt (.int top), .no] _
    unfold f__law_line_0
    refine (show Ke.F_take [.box, .dt (.int ((most : Nat) + 1 - least))] _ from take_of (by omega) (by omega) fun r r0 r1 => ?_)
    refine ⟨⟨by omega, by omega⟩, ⟨by rw [range_len]; omega, ?_⟩⟩
    unfold rangeD
    refine comp_any (fun k : Nat => .int (0 + (k : Nat))) (fun y => ∃ x : Int, y = .int x ∧ 1 ≤ x ∧ x ≤ 1000000000) _ [] (fun x hx P hp => ?_) (fun ys hl hr => ?_)
    · exact take_of (by omega) (by omega) fun s s0 s1 => hp _ ⟨1 + s, rfl, by omega, by omega⟩
    obtain ⟨rooms, rfl, hR⟩ := ints_ex hr
    rw [List.length_map, List.length_range] at hl
    exact q row rooms ⟨by omega, fun e => by have := l2.2.2 e; omega, by omega, hR⟩
  exact main _ rfl
theorem gatesC_of {row : Bool} {rooms : List Int} {Q : PyData → Prop} (q : Q (.int (gts row rooms.length : Nat))) : F__law_gates [.dt (ln true row rooms)] Q := by
  unfold F__law_gates
  exact ⟨rfl, size_of (Q := Q) q⟩
abbrev wdBody : FS := (sSeq (sAsg (eCall F__law_pick (aBox 0 (aCons (eVar 3) aNil))) (gN 6)) f__law_widths_0)
theorem widthsC_of {row : Bool} {rooms : List Int} {high : Int} {Q : PyData → Prop} (hz : rooms.length ≤ 90) (n0 : 0 < rooms.length) (hh : 1 ≤ high ∧ high ≤ 1000000000) (q : ∀ ws, ws.length = gts row rooms.length → Dw ws → Q (sqd true (ws.map oI))) :
    F__law_widths [.box, .dt (ln true row rooms), .dt (.int high)] Q := by
  have gb : gts row rooms.length ≤ 91 ∧ 1 ≤ gts row rooms.length := by
    unfold gts
    split <;> omega
  unfold F__law_widths
  refine ⟨rfl, pick_of (by show 0 < 5; decide) (by show 5 < 1000; decide) fun sm hs => ?_⟩
  obtain ⟨os, rfl, o0, o1, oD⟩ : ∃ os : List (Option Int), sm = .list (os.map oI) ∧ 0 < os.length ∧ os.length < 1000 ∧ Dw os := by
    have dh : Dr (some high) := dr_some ⟨by omega, hh.2⟩
    have d0 : Dr (some 0) := dr_some ⟨by decide, by decide⟩
    have d1 : Dr (some 1) := dr_some ⟨by decide, by decide⟩
    have d2 : Dr (some 2) := dr_some ⟨by decide, by decide⟩
    simp only [List.mem_cons, List.not_mem_nil, or_false] at hs
    rcases hs with rfl | rfl | rfl | rfl | rfl
    · exact ⟨[none], rfl, by decide, by decide, fun w hw => by simp at hw; rw [hw]; exact dr_none⟩
    · exact ⟨[none, none, some high], rfl, by show 0 < 3; decide, by show 3 < 1000; decide, fun w hw => by
        simp only [List.mem_cons, List.not_mem_nil, or_false] at hw
        rcases hw with rfl | rfl | rfl
        · exact dr_none
        · exact dr_none
        · exact dh⟩
    · exact ⟨[some high], rfl, by show 0 < 1; decide, by show 1 < 1000; decide, fun w hw => by simp at hw; rw [hw]; exact dh⟩
    · exact ⟨[some 0, some 1, some high, none], rfl, by show 0 < 4; decide, by show 4 < 1000; decide, fun w hw => by
        simp only [List.mem_cons, List.not_mem_nil, or_false] at hw
        rcases hw with rfl | rfl | rfl | rfl
        · exact d0
        · exact d1
        · exact dh
        · exact dr_none⟩
    · exact ⟨[some 1, some 2, some high], rfl, by show 0 < 3; decide, by show 3 < 1000; decide, fun w hw => by
        simp only [List.mem_cons, List.not_mem_nil, or_false] at hw
        rcases hw with rfl | rfl | rfl
        · exact d1
        · exact d2
        · exact dh⟩
  show f__law_widths_4 [.box, .dt (ln true row rooms), .dt (.int high), .dt (.list (os.map oI)), .no, .no, .no] _
  unfold f__law_widths_4
  show f__law_widths_3 [.box, .dt (ln true row rooms), .dt (.int high), .dt (.list (os.map oI)), .own [], .no, .no] _
  unfold f__law_widths_3
  refine gatesC_of ?_
  have last : ∀ (acc : List (Option Int)) (s5 s6 : Sl), Dw acc → acc.length = gts row rooms.length → f__law_widths_2 [.box, .dt (ln true row rooms), .dt (.int high), .dt (.list (os.map oI)), .own (acc.map oI), s5, s6] { nx := fun _ => Q .none, rt := Q, rl := fun ds => Q (.list ds) } := fun acc s5 s6 hA hl => by
    have l1 : ∀ (ac : List (Option Int)), Dw ac → ac.length = gts row rooms.length → f__law_widths_1 [.box, .dt (ln true row rooms), .dt (.int high), .dt (.list (os.map oI)), .own (ac.map oI), s5, s6] { nx := fun _ => Q .none, rt := Q, rl := fun ds => Q (.list ds) } := fun ac h1 h2 => by
      unfold f__law_widths_1
      exact q ac h2 h1
    unfold f__law_widths_2
    show if decide (fm row = "row") = true then _ else _
    rw [fm_row]
    cases row with
    | false => exact l1 acc hA hl
    | true =>
      rw [if_pos rfl]
      refine take_of (by decide) (by decide) fun t t0 t1 => ?_
      show if decide (t = 0) = true then _ else _
      by_cases z : t = 0
      · rw [if_pos (decide_eq_true z)]
        have hl' : acc.length = rooms.length + 1 := hl
        have l0 : ∃ a m b, acc = a :: (m ++ [b]) := by
          cases acc with
          | nil => simp at hl'
          | cons a r =>
            have : r ≠ [] := fun e => by rw [e] at hl'; have hl' : 1 = rooms.length + 1 := hl'; omega
            exact ⟨a, r.dropLast, r.getLast this, by rw [List.dropLast_concat_getLast]⟩
        obtain ⟨a, m, b, rfl⟩ := l0
        have ek : ∀ P : List PyData → Prop, P (([some 0] ++ m ++ [some 0]).map oI) → fCat (eBin gAdd (eLst (dCons (eC (.int 0)) dNil)) (eSl (eVarV 4) (oSome (eC (.int 1))) (oSome (eUn negD (eC (.int 1)))))) (eLst (dCons (eC (.int 0)) dNil)) [.box, .dt (ln true true rooms), .dt (.int high), .dt (.list (os.map oI)), .own ((a :: (m ++ [b])).map oI), s5, s6] P := fun P hp => by
          show [PyData.int 0].length + (Dv.cutD (oI a :: (m ++ [b]).map oI) (some 1) (some (-1))).length ≤ 1000000 ∧ (([PyData.int 0] ++ Dv.cutD (oI a :: (m ++ [b]).map oI) (some 1) (some (-1))).length + [PyData.int 0].length ≤ 1000000 ∧ P (([PyData.int 0] ++ Dv.cutD (oI a :: (m ++ [b]).map oI) (some 1) (some (-1))) ++ [PyData.int 0]))
          rw [List.map_append, List.map_cons, List.map_nil, cut_mid]
          have lm : (m.map oI).length ≤ 100 := by
            rw [List.length_map]
            simp at hl'
            omega
          refine ⟨by show 1 + _ ≤ _; omega, by rw [List.length_append]; show 1 + _ + 1 ≤ _; omega, ?_⟩
          rw [List.map_append, List.map_append] at hp
          exact hp
        refine ek _ ?_
        refine l1 ([some 0] ++ m ++ [some 0]) (fun w hw => ?_) (by simp at hl' ⊢; show m.length + 1 + 1 = rooms.length + 1; omega)
        simp only [List.mem_append, List.mem_singleton] at hw
        rcases hw with (rfl | hw) | rfl
        · exact dr_some ⟨by decide, by decide⟩
        · exact hA w (by simp [hw])
        · exact dr_some ⟨by decide, by decide⟩
      · rw [if_neg (by rw [decide_eq_true_eq]; exact z)]
        exact l1 acc hA hl
  have loop : ∀ (n : Nat) (ks : List PyData), ks.length = n → ∀ (acc : List (Option Int)) (s5 s6 : Sl), Dw acc → acc.length + n = gts row rooms.length →
      forD (gN 5) wdBody ks [.box, .dt (ln true row rooms), .dt (.int high), .dt (.list (os.map oI)), .own (acc.map oI), s5, s6] { nx := fun ρ' => f__law_widths_2 ρ' { nx := fun _ => Q .none, rt := Q, rl := fun ds => Q (.list ds) }, rt := Q, rl := fun ds => Q (.list ds) } := by
    intro n
    induction n with
    | zero =>
      intro ks hk acc s5 s6 hA hlA
      cases ks with
      | cons => cases hk
      | nil => exact last acc s5 s6 hA hlA
    | succ n ih =>
      intro ks hk acc s5 s6 hA hlA
      cases ks with
      | nil => cases hk
      | cons d ks =>
      rw [List.length_cons] at hk
      refine (show F__law_pick [.box, .dt (.list (os.map oI))] _ from pick_of (by rw [List.length_map]; exact o0) (by rw [List.length_map]; exact o1) fun wd hwd => ?_)
      obtain ⟨w, hw, rfl⟩ := List.mem_map.mp hwd
      have dw := oD w hw
      have add : ∀ v : Option Int, Dr v → (acc.map oI).length < 1000000 ∧ forD (gN 5) wdBody ks ([.box, .dt (ln true row rooms), .dt (.int high), .dt (.list (os.map oI)), .own (acc.map oI ++ [oI v]), .dt d, .dt (oI w)] : List Sl) { nx := fun ρ' => f__law_widths_2 ρ' { nx := fun _ => Q .none, rt := Q, rl := fun ds => Q (.list ds) }, rt := Q, rl := fun ds => Q (.list ds) } := fun v hv => by
        refine ⟨by rw [List.length_map]; omega, ?_⟩
        have z := ih ks (by omega) (acc ++ [v]) (.dt d) (.dt (oI w)) (fun x hx => by
          rcases List.mem_append.mp hx with hx | hx
          · exact hA x hx
          · rw [List.mem_singleton.mp hx]; exact hv) (by rw [List.length_append, List.length_singleton]; omega)
        rw [List.map_append] at z
        exact z
      show f__law_widths_0 [.box, .dt (ln true row rooms), .dt (.int high), .dt (.list (os.map oI)), .own (acc.map oI), .dt d, .dt (oI w)] _
      unfold f__law_widths_0
      cases w with
      | none => exact add none dr_none
      | some x =>
        have hx := dw x rfl
        show if decide (x < 3) = true then _ else _
        by_cases z : x < 3
        · rw [if_pos (decide_eq_true z)]
          exact add (some x) dw
        · rw [if_neg (by rw [decide_eq_true_eq]; exact z)]
          exact take_of (by omega) (by omega) fun s s0 s1 => add (some (1 + s)) (dr_some ⟨by omega, by omega⟩)
  refine ⟨⟨by omega, by omega⟩, by rw [range_len]; omega, loop (gts row rooms.length) _ (by rw [range_len]; omega) [] .no .no (fun w hw => nomatch hw) (by simp)⟩
abbrev lyBody : FS := (sApp 3 (eCall F__law_pick (aBox 0 (aCons (eSl (eLst (dCons (eC (.int 0)) (dCons (eVar 4) (dCons (eCall F_take (aBox 0 (aCons (eBin gAdd (eVar 4) (eC (.int 1))) aNil))) dNil)))) oNone (oSome (eBin gAdd (eC (.int 1)) (eCall F__law_pick (aBox 0 (aCons (eVar 2) aNil)))))) aNil))))
theorem cutl_to {ds : List PyData} {n : Nat} : Dv.cutD ds none (some ((n : Nat) : Int)) = ds.take n := by
  unfold Dv.cutD
  rw [HT.sIx_none, HT.sIx_nat, List.drop_zero, Nat.sub_zero]
  by_cases h : n ≤ ds.length
  · rw [Nat.min_eq_left h]
  · rw [Nat.min_eq_right (by omega), List.take_of_length_le (Nat.le_refl _), List.take_of_length_le (by omega)]
theorem lyingC_of {row : Bool} {rooms : List Int} {Q : PyData → Prop} (hz : rooms.length ≤ 90) (R : Rm rooms) (q : ∀ hs, Vd rooms hs → Q (iq true hs)) : F__law_lying [.box, .dt (ln true row rooms)] Q := by
  unfold F__law_lying
  refine ⟨rfl, pick_of (by show 0 < 5; decide) (by show 5 < 1000; decide) fun od ho => ?_⟩
  obtain ⟨os, rfl, o0, o1, oB⟩ : ∃ os : List Int, od = .list (os.map PyData.int) ∧ 0 < os.length ∧ os.length < 1000 ∧ ∀ x ∈ os, 0 ≤ x ∧ x ≤ 2 := by
    simp only [List.mem_cons, List.not_mem_nil, or_false] at ho
    rcases ho with rfl | rfl | rfl | rfl | rfl
    · exact ⟨[0, 1, 2], rfl, by decide, by decide, by decide⟩
    · exact ⟨[2], rfl, by decide, by decide, by decide⟩
    · exact ⟨[2], rfl, by decide, by decide, by decide⟩
    · exact ⟨[0, 2], rfl, by decide, by decide, by decide⟩
    · exact ⟨[1, 2], rfl, by decide, by decide, by decide⟩
  show f__law_lying_2 [.box, .dt (ln true row rooms), .dt (.list (os.map PyData.int)), .no, .no] _
  unfold f__law_lying_2
  show f__law_lying_1 [.box, .dt (ln true row rooms), .dt (.list (os.map PyData.int)), .own [], .no] _
  unfold f__law_lying_1
  have loop : ∀ (rs acc : List Int) (s4 : Sl), acc.length + rs.length ≤ 90 → (∀ x ∈ rs, 1 ≤ x ∧ x ≤ 1000000000) → (∀ ys, All2 (fun r h => 0 ≤ h ∧ h ≤ r) rs ys → Q (iq true (acc ++ ys))) →
      forD (gN 4) lyBody (rs.map PyData.int) [.box, .dt (ln true row rooms), .dt (.list (os.map PyData.int)), .own (acc.map PyData.int), s4] { nx := fun ρ' => f__law_lying_0 ρ' { nx := fun _ => Q .none, rt := Q, rl := fun ds => Q (.list ds) }, rt := Q, rl := fun ds => Q (.list ds) } := by
    intro rs
    induction rs with
    | nil =>
      intro acc s4 _ _ hq
      show f__law_lying_0 _ _
      unfold f__law_lying_0
      have z := hq [] .nil
      rw [List.append_nil] at z
      exact z
    | cons r rs ih =>
      intro acc s4 hl hR hq
      rw [List.length_cons] at hl
      have hr := hR r (List.mem_cons_self ..)
      have add : ∀ v : Int, 0 ≤ v ∧ v ≤ r → (acc.map PyData.int).length < 1000000 ∧ forD (gN 4) lyBody (rs.map PyData.int) ([.box, .dt (ln true row rooms), .dt (.list (os.map PyData.int)), .own (acc.map PyData.int ++ [.int v]), .dt (.int r)] : List Sl) { nx := fun ρ' => f__law_lying_0 ρ' { nx := fun _ => Q .none, rt := Q, rl := fun ds => Q (.list ds) }, rt := Q, rl := fun ds => Q (.list ds) } := fun v hv => by
        refine ⟨by rw [len_i]; omega, ?_⟩
        have z := ih (acc ++ [v]) (.dt (.int r)) (by rw [List.length_append, List.length_singleton]; omega) (fun x hx => hR x (List.mem_cons_of_mem _ hx)) (fun ys hy => by
          have z := hq (v :: ys) (.cons hv hy)
          rw [List.append_assoc]
          exact z)
        rw [List.map_append] at z
        exact z
      refine (show (0 < r + 1 ∧ r + 1 < 4611686018427387904) ∧ _ from ⟨⟨by omega, by omega⟩, fun s s0 s1 => ?_⟩)
      have s1 : s < r + 1 := s1
      refine (show F__law_pick [.box, .dt (.list (os.map PyData.int))] _ from pick_of (by rw [len_i]; exact o0) (by rw [len_i]; exact o1) fun wd hwd => ?_)
      obtain ⟨o, ho, rfl⟩ := List.mem_map.mp hwd
      have ob := oB o ho
      obtain ⟨c, hc⟩ : ∃ c : Nat, 1 + o = ((c + 1 : Nat) : Int) := ⟨o.toNat, by omega⟩
      show F__law_pick [.box, .dt (.list (Dv.cutD [.int 0, .int r, .int s] none (some (1 + o))))] _
      rw [hc, cutl_to]
      refine pick_of (by rw [List.length_take]; show 0 < min (c + 1) 3; omega) (by rw [List.length_take]; show min (c + 1) 3 < 1000; omega) fun v hv => ?_
      have hv := List.mem_of_mem_take hv
      simp only [List.mem_cons, List.not_mem_nil, or_false] at hv
      rcases hv with rfl | rfl | rfl
      · exact add 0 ⟨by omega, by omega⟩
      · exact add r ⟨by omega, by omega⟩
      · exact add s ⟨s0, by omega⟩
  refine (show (rooms.map PyData.int).length ≤ 100 ∧ _ from ⟨by rw [len_i]; omega, ?_⟩)
  exact loop rooms [] .no (by simp; omega) R fun ys hy => q ys (vd_all hy)
end Kc
namespace Dv
open PySem PySem.Spec PyProof.Rows L2 Xg
open Classical
section
variable {K : PySem.W.Frag} {b : Option Addr} {S G : Addr → Prop} {m n c ca cb : Nat} {H H0 H' : Hp} {b0 : Option Addr} {os : Nat → Option Addr} {σ : L2.St} {ρ : List Sl} {ta tb : TE} {fa fb : FE} {md : Bool}
end
end Dv
namespace Dv
open PySem PySem.Spec PyProof.Rows L2 Xg
open Classical
def every2 {α : Type} : List α → List α
  | [] => []
  | [a] => [a]
  | a :: _ :: r => a :: every2 r
theorem every2_at {α : Type} : ∀ ys : List α, (List.range ((ys.length + 1) / 2)).filterMap (fun k => ys[2 * k]?) = every2 ys
  | [] => by simp [every2]
  | [a] => by simp [every2, List.range_succ]
  | a :: b :: r => by
    have e : ((a :: b :: r).length + 1) / 2 = (r.length + 1) / 2 + 1 := by rw [List.length_cons, List.length_cons]; omega
    rw [e, List.range_succ_eq_map, List.filterMap_cons, List.filterMap_map]
    have f : ((fun k => (a :: b :: r)[2 * k]?) ∘ Nat.succ) = fun k => r[2 * k]? := by
      funext k
      show (a :: b :: r)[2 * (k + 1)]? = r[2 * k]?
      rw [show 2 * (k + 1) = 2 * k + 1 + 1 by omega, List.getElem?_cons_succ, List.getElem?_cons_succ]
    rw [f, every2_at r]
    rfl
theorem every2_map {α β : Type} (f : α → β) : ∀ ys : List α, every2 (ys.map f) = (every2 ys).map f
  | [] => rfl
  | [a] => rfl
  | a :: b :: r => by
    show f a :: every2 (r.map f) = f a :: (every2 r).map f
    rw [every2_map f r]
theorem every2_len {α : Type} : ∀ ys : List α, (every2 ys).length ≤ ys.length
  | [] => Nat.le_refl _
  | [a] => Nat.le_refl _
  | a :: b :: r => by
    show (every2 r).length + 1 ≤ r.length + 1 + 1
    have := every2_len r
    omega
theorem pick2 (items : Array Value) (c : Nat) : slicePick items (some ((c : Nat) : Int)) none (some 2) = (every2 (items.toList.drop c)).toArray := by
  have eb : sliceBounds (some ((c : Nat) : Int)) none (some 2) items.size = (((min c items.size : Nat) : Int), ((items.size : Nat) : Int), 2) := by
    have h2 : (2 : Int) > 0 := by decide
    have hc : ¬ ((c : Nat) : Int) < 0 := by omega
    unfold sliceBounds
    simp only [Option.getD_some, h2, if_true, hc, if_false]
    congr 1
    omega
  unfold slicePick
  rw [eb]
  congr 1
  show (sliceRange ((min c items.size : Nat) : Int) ((items.size : Nat) : Int) 2).filterMap (items[·]?) = _
  have hl : (items.toList.drop c).length = items.size - c := by rw [List.length_drop, Array.length_toList]
  have ec : sliceRange ((min c items.size : Nat) : Int) ((items.size : Nat) : Int) 2 = (List.range (((items.toList.drop c).length + 1) / 2)).map fun k => c + 2 * k := by
    unfold sliceRange
    rw [hl, if_pos (by decide)]
    by_cases h : c < items.size
    · rw [Nat.min_eq_left (by omega), if_pos (by omega)]
      have n1 : ((((items.size : Nat) : Int) - ((c : Nat) : Int) + 2 - 1) / 2).toNat = (items.size - c + 1) / 2 := by omega
      show (List.range ((((items.size : Nat) : Int) - ((c : Nat) : Int) + 2 - 1) / 2).toNat).map _ = _
      rw [n1]
      refine List.map_congr_left fun k _ => ?_
      show (((c : Nat) : Int) + 2 * ((k : Nat) : Int)).toNat = _
      omega
    · rw [Nat.min_eq_right (by omega), if_neg (by omega), show items.size - c = 0 by omega]
      rfl
  rw [ec, List.filterMap_map, ← every2_at (items.toList.drop c)]
  congr 1
  funext k
  show items[c + 2 * k]? = (items.toList.drop c)[2 * k]?
  rw [List.getElem?_drop, ← Array.getElem?_toList]
def tStp2 (K : PySem.W.Frag) (c : Nat) (te : TE) : TE := fun σ H Q => te σ H fun x H1 => ∃ a xs, x = .ref a ∧ SqL K H1 a xs ∧ ∀ p, H1 p = none → Q (.ref p) (upd H1 p (.lst (every2 (xs.drop c))))
theorem vals_every2 : ∀ {vs : List V} {us : List Value}, Vals vs us → Vals (every2 vs) (every2 us)
  | [], [], _ => .nil
  | [_], [_], h => h
  | _ :: _ :: _, _ :: _ :: _, .cons a (.cons _ r) => .cons a (vals_every2 r)
theorem pe_stp2 {X : Cx} {e : Expr} {te : TE} {c : Nat} {ci : Int} {k1 k2 : Nat} {p1 p2 p3 pos : Pos} (he : PE X e te) (hc : ci = ((c : Nat) : Int) := by decide) : PE X (.Subscript e (.Slice (some (.Constant (.int ci) k1 p1)) none (some (.Constant (.int 2) k2 p2)) p3) pos) (tStp2 X.K c te) := by
  subst hc
  refine ⟨fun pins s σ H Q I h => ?_⟩
  refine Subscript_ (thn (he.run pins s σ H _ I h) fun v s1 ⟨x, H1, I1, r1, q1⟩ => ?_)
  obtain ⟨a, xs, ex, hx, q⟩ := q1
  subst ex
  cases r1
  have hlo : PO X (some (.Constant (.int ((c : Nat) : Int)) k1 p1)) (tPart (tC (.int ((c : Nat) : Int)))) := po_some pe_int
  have hst : PO X (some (.Constant (.int 2) k2 p2)) (tPart (tC (.int 2))) := po_some pe_int
  refine wpAny_Slice (thn (hlo.run pins s1 σ H1 (fun o H2 => o = some ((c : Nat) : Int) ∧ H2 = H1) I1 ⟨_, rfl, rfl, rfl⟩) fun vl s2 ⟨l, H2, I2, pl, el, e2⟩ => ?_)
  subst el e2
  refine thn (po_none.run pins s2 σ H2 (fun o H3 => o = none ∧ H3 = H2) I2 ⟨rfl, rfl⟩) fun vu s3 ⟨u, H3, I3, pu, eu, e3⟩ => ?_
  subst eu e3
  refine thn (hst.run pins s3 σ H3 (fun o H4 => o = some 2 ∧ H4 = H3) I3 ⟨_, rfl, rfl, rfl⟩) fun vs s4 ⟨o, H4, I4, ps, eo, e4⟩ => ?_
  subst eo e4
  have I5 : Inv X pins σ H4 { s4 with heap := s4.heap.push { cls := .type "slice", data := .fields #[vl, vu, vs] } } := I4.kept (t' := s4.toks) fun b ob q => Heap.get?_push_of_some _ q
  obtain ⟨its, r, ht, hz⟩ := I5.list hx
  have hlen := r.length
  show wpAny (model X.prog X.w) X.A (subscriptTail e (.Slice (some (.Constant (.int ((c : Nat) : Int)) k1 p1)) none (some (.Constant (.int 2) k2 p2)) p3) (.ref a) (.ref s4.heap.objs.size)) (EP X pins σ Q) X.xe { s4 with heap := s4.heap.push { cls := .type "slice", data := .fields #[vl, vu, vs] } }
  refine tail_any (ops := [.ref a, .ref s4.heap.objs.size]) ht.isList.typeIs (PySem.slot_list_getitem.lookup) ?_ (by with_unfolding_all rfl)
  refine wpAny_getItem_list_slice ht.isList (Heap.IsSliceOf.new _ vl vu vs) pl pu ps (by decide) ?_ (by rw [List.size_toArray]; omega)
  rw [pick2]
  have hle := every2_len (xs.drop c)
  rw [List.length_drop] at hle
  refine ⟨.ref _, _, I5.laid (t' := s4.toks) (o := .lst (every2 (xs.drop c))) (fun b ob q => Heap.get?_push_of_some _ q) (Nat.le_refl _) ?_, rfl, q _ (I5.hok.fresh (Nat.le_refl _))⟩
  exact ⟨by omega, _, 0, vals_every2 (r.drop c), Heap.get?_push_size _ rfl⟩
section
variable {K : PySem.W.Frag} {b : Option Addr} {S G : Addr → Prop} {m n c ca cb : Nat} {H H0 H' : Hp} {b0 : Option Addr} {os : Nat → Option Addr} {σ : L2.St} {ρ : List Sl} {ta tb : TE} {fa fb : FE} {md : Bool}
theorem DaL.every2 {H : Hp} : ∀ {vs : List V} {ds : List PyData}, DaL K H vs ds → DaL K H (every2 vs) (every2 ds)
  | _, _, .nil => .nil
  | _, _, .cons h .nil => .cons h .nil
  | _, _, .cons h (.cons _ r) => .cons h (DaL.every2 r)
abbrev eStp2 (c : Nat) (fa : FE) : FE := fun ρ Q => fa ρ fun x => match x with
  | .list ds => Q (.list (Dv.every2 (ds.drop c)))
  | _ => False
theorem snd_stp2 (a : Snd md K ta ca fa) : Snd true K (tStp2 K c ta) ca (eStp2 c fa) := mk_snd
  (fun ρ P P' hp q => a.mono _ _ _ (fun x z => by
    cases x <;> first | exact hp _ z | exact z.elim) q)
  (fun E hm hf k => a.go E (by omega) hf fun dx v H1 p st bx vd => by
    cases dx <;> first | exact p.elim | skip
    obtain ⟨p1, vs, rfl, e1, g⟩ := vd.vw.list
    exact ⟨p1, vs, rfl, .inl (.inl e1), fun q nq => k _ _ _ p (st.trans (Stp.ex (Evl.Ex.new nq))) (bx.ex (Evl.Ex.new nq)) (new_lst (E.step st bx).al nq (g.drop c).every2)⟩)
abbrev sTupO3 (i j l n : Nat) (fa : FE) : FS := fun ρ E => fa ρ fun x => E.nx ((((ρ.set i (.dt x)).set j (.own [])).set l (.own [])).set n (.own []))
theorem snds_tupO3 {i j l n : Nat} (a : Snd true K ta ca fa) :
    SndS K (tAsg (tTup (tCons ta (tCons (tLst tNil) (tCons (tLst tNil) (tCons (tLst tNil) tNil))))) (gTup K 4 (gCons (gName i) (gCons (gName j) (gCons (gName l) (gCons (gName n) gNil)))))) ca (sTupO3 i j l n fa) :=
  ⟨fun ρ E E' h q => a.mono _ _ _ (fun x => h.nx _) q, fun {G H0 b0 b os m H σ ρ D E} ok hm hf k => a.go ok.env (by omega) hf fun dx vx H1 h1 st bx d1 => by
    have ok1 := ok.step st bx (by omega)
    have k1 := ok1.kpt (ok1.env.set (i := i) (s := .dt dx) fun z e => ⟨_, e, d1⟩) (kpt_set (vs := [i]) (by simp))
    refine ⟨Nat.zero_le _, fun p np => ⟨Nat.zero_le _, fun q nq => ⟨Nat.zero_le _, fun r nr => ⟨by show 4 ≤ sizeLine; decide, fun t nt => ?_⟩⟩⟩⟩
    refine ⟨t, [vx, .ref p, .ref q, .ref r], rfl, .inl (.inl upd_same), rfl, _, _, rfl, _, _, rfl, _, _, rfl, _, _, rfl, rfl, ?_⟩
    obtain ⟨o3, l3⟩ := k1.own (i := j) (n := m + ca) np (Stp.ex (Evl.Ex.new np)) ((bx.ex (Evl.Ex.new np)).le (by omega)) (by omega) upd_same .nil
    obtain ⟨o4, l4⟩ := o3.own (i := l) (n := m + ca) nq (Stp.ex (Evl.Ex.new nq)) (o3.env.bx.ex (Evl.Ex.new nq)) (by omega) upd_same .nil
    obtain ⟨o5, l5⟩ := o4.own (i := n) (n := m + ca) nr (Stp.ex (Evl.Ex.new nr)) (o4.env.bx.ex (Evl.Ex.new nr)) (by omega) upd_same .nil
    have st6 := Stp.ex (K := K) (b := b) (Evl.Ex.new (o := .tup [vx, .ref p, .ref q, .ref r]) nt)
    have o6 := o5.step st6 (o5.env.bx.ex (Evl.Ex.new nt)) (Nat.le_refl _)
    exact k.nx _ _ _ _ _ h1 o6 ((Lk.step st ok.env.bs).trans (l3.trans (l4.trans (l5.trans (Lk.step st6 o5.env.bs)))))⟩
end
end Dv
namespace Zq
open PySem PySem.Spec PyProof.Rows L2
def It3L (K : PySem.W.Frag) (a b c : Addr) : It where
  go i H := ∃ (xs ys zs : List V) (x y w : V), (SqL K H a xs ∧ xs[i]? = some x) ∧ (SqL K H b ys ∧ ys[i]? = some y) ∧ (SqL K H c zs ∧ zs[i]? = some w)
  yld i H v H' := ∃ W x y w, v = .ref W ∧ H W = none ∧ H' = upd H W (.tup [x, y, w]) ∧ (∀ l, SqL K H a l → l[i]? = some x) ∧ (∀ l, SqL K H b l → l[i]? = some y) ∧ (∀ l, SqL K H c l → l[i]? = some w)
  stop i H := ∃ xs ys zs : List V, SqL K H a xs ∧ SqL K H b ys ∧ SqL K H c zs ∧ i = min (min xs.length ys.length) zs.length
def tn3L (z S T p1 p2 p3 a b c : Addr) (i : Nat) (g : Heap) : Prop := IsZip g z S T .none ∧ IsTupOf3 g S (.ref p1) (.ref p2) (.ref p3) ∧ (∃ x y w, IsTupOf3 g T x y w) ∧ itK false g p1 a i ∧ itK false g p2 b i ∧ itK false g p3 c i
theorem tn3_objL {z S T p1 p2 p3 a b e : Addr} {i : Nat} {g : Heap} (st : tn3L z S T p1 p2 p3 a b e i g) {c : Addr} (hc : c ∈ [z, S, T, p1, p2, p3]) : ∃ o, g.get? c = some o ∧ ∀ v, o.data ≠ .cell v := by
  obtain ⟨z0, S0, ⟨x, y, w, T0⟩, f1, f2, f3⟩ := st
  obtain ⟨o1, g1, d1⟩ := it_obj f1
  obtain ⟨o2, g2, d2⟩ := it_obj f2
  obtain ⟨o3, g3, d3⟩ := it_obj f3
  refine six hc (fun e => ?_) (fun e => ?_) (fun e => ?_) (fun e => ?_) (fun e => ?_) (fun e => ?_) <;> rw [e]
  · exact ⟨_, z0, fun _ k => nomatch k⟩
  · exact ⟨_, S0, fun _ k => nomatch k⟩
  · exact ⟨_, T0, fun _ k => nomatch k⟩
  · exact ⟨o1, g1, fun _ k => by cases d1.symm.trans k⟩
  · exact ⟨o2, g2, fun _ k => by cases d2.symm.trans k⟩
  · exact ⟨o3, g3, fun _ k => by cases d3.symm.trans k⟩
theorem turn_3L {P : Program} {w : World} {K : PySem.W.Frag} {es : List Expr} {kk : Nat} {tp : Pos} {a b c z S T p1 p2 p3 : Addr} (D : Ap3 z S T p1 p2 p3 a b c) :
    Turn P w K (.Tuple es kk tp) (It3L K a b c) [z, S, T, p1, p2, p3] z (tn3L z S T p1 p2 p3 a b c) where
  mem := List.mem_cons_self
  obj := fun i g st c hc => tn3_objL st hc
  keep := fun i g g' ⟨z0, S0, ⟨x, y, w, T0⟩, f1, f2, f3⟩ k => ⟨k z (by simp) _ z0, k S (by simp) _ S0, ⟨x, y, w, k T (by simp) _ T0⟩, it_at f1 (k p1 (by simp)), it_at f2 (k p2 (by simp)), it_at f3 (k p3 (by simp))⟩
  item := by
    rintro X rfl rfl rfl hc i pins s σ H E I hf st ⟨xs, ys, zs, x, y, w, ⟨qx, ex⟩, ⟨qy, ey⟩, qz, ez⟩
    have lts : ∀ c ∈ [z, S, T, p1, p2, p3], c < s.heap.objs.size := fun c hm => let ⟨_, e, _⟩ := tn3_objL st hm; Heap.lt_size e
    obtain ⟨z0, S0, ⟨x0, y0, w0, T0⟩, f1, f2, f3⟩ := st
    obtain ⟨us, r1, m1, _⟩ := I.list qx
    obtain ⟨vs, r2, m2, _⟩ := I.list qy
    obtain ⟨ws, r3, m3, _⟩ := I.list qz
    obtain ⟨u, eu, ru⟩ := r1.get ex
    obtain ⟨v, ev, rv⟩ := r2.get ey
    obtain ⟨t, et, rt⟩ := r3.get ez
    have hh := I.ok.hd hc
    have lt1 : i < us.toArray.size := by rw [List.size_toArray]; exact (List.getElem?_eq_some_iff.mp eu).1
    have lt2 : i < vs.toArray.size := by rw [List.size_toArray]; exact (List.getElem?_eq_some_iff.mp ev).1
    have lt3 : i < ws.toArray.size := by rw [List.size_toArray]; exact (List.getElem?_eq_some_iff.mp et).1
    refine wpAny_pyNext_zipD3_item D.sep (Draws.list (A := X.A.in1) hh p1 a D.a1 us.toArray) (Draws.list (A := X.A.in1) hh p2 b D.b2 vs.toArray) (Draws.list (A := X.A.in1) hh p3 c D.c3 ws.toArray) z0 S0 T0 ⟨f1, m1.isList⟩ ⟨f2, m2.isList⟩ ⟨f3, m3.isList⟩ lt1 lt2 lt3 fun u' v' t' g tk hu hv ht z1 T1 s1 s2 s3 W1 n1 st => ⟨_, rfl, ?_⟩
    have hu : us.toArray[i]? = some u' := hu
    have hv : vs.toArray[i]? = some v' := hv
    have ht : ws.toArray[i]? = some t' := ht
    rw [List.getElem?_toArray, eu] at hu
    rw [List.getElem?_toArray, ev] at hv
    rw [List.getElem?_toArray, et] at ht
    cases hu
    cases hv
    cases ht
    have f1' : itK false g p1 a (i + 1) := s1.1
    have f2' : itK false g p2 b (i + 1) := s2.1
    have f3' : itK false g p3 c (i + 1) := s3.1
    refine wpAny_letOwnedTupleGo_zip (s := { s with heap := g, toks := tk }) z1 fun g' z2 sb => ?_
    have out : ∀ c o, c ∉ [z, S, T, p1, p2, p3] → s.heap.get? c = some o → g'.get? c = some o := fun c o hb e => by
      simp only [List.mem_cons, List.not_mem_nil, or_false, not_or] at hb
      exact (sb.2 c hb.1).trans (st c o hb.1 hb.2.2.1 hb.2.2.2.1 hb.2.2.2.2.1 hb.2.2.2.2.2 e)
    have W2 : g'.get? s.heap.objs.size = some { cls := .type "tuple", data := .seq #[u, v, t] } := (sb.2 _ (Nat.ne_of_gt (lts z List.mem_cons_self))).trans W1
    have okW : ObjOk X.prog X.w (upd H s.heap.objs.size (.tup [x, y, w])) g' s.heap.objs.size (.tup [x, y, w]) := ⟨(by decide : 3 ≤ sizeLine), [u, v, t], .cons ru (.cons rv (.cons rt .nil)), ⟨_, W2, rfl, _, rfl⟩⟩
    have I' : Inv X pins σ (upd H s.heap.objs.size (.tup [x, y, w])) { s with heap := g', toks := tk } := I.turnedNew (t' := tk) (ch := [z, S, T, p1, p2, p3]) out hf (Nat.le_refl _) okW
    refine ⟨.ref s.heap.objs.size, _, I', rfl, ⟨_, x, y, w, rfl, I.hok.fresh (Nat.le_refl _), rfl, fun l hl => I.list_inj hl qx ▸ ex, fun l hl => I.list_inj hl qy ▸ ey, fun l hl => I.list_inj hl qz ▸ ez⟩, ⟨z2, ?_, ⟨u, v, t, ?_⟩, it_at f1' fun o e => (sb.2 _ D.sep.zi1.symm).trans e, it_at f2' fun o e => (sb.2 _ D.sep.zi2.symm).trans e, it_at f3' fun o e => (sb.2 _ D.sep.zi3.symm).trans e⟩, fun c hm => ?_⟩
    · exact (sb.2 _ D.sep.TIz).trans (st _ _ D.sep.TIz D.sep.TITO D.sep.TIi1 D.sep.TIi2 D.sep.TIi3 S0)
    · exact (sb.2 _ D.sep.TOz).trans T1
    · exact (upd_ne (Nat.ne_of_lt (lts c hm))).trans (hf c hm).1
  done := by
    rintro X rfl rfl rfl hc i pins s σ H E I hf ⟨z0, S0, ⟨x0, y0, w0, T0⟩, f1, f2, f3⟩ ⟨xs, ys, zs, qx, qy, qz, he⟩
    obtain ⟨us, r1, m1, _⟩ := I.list qx
    obtain ⟨vs, r2, m2, _⟩ := I.list qy
    obtain ⟨ws, r3, m3, _⟩ := I.list qz
    have n1 := r1.length
    have n2 := r2.length
    have n3 := r3.length
    have hh := I.ok.hd hc
    refine wpAny_pyNext_zipD3_end D.sep (Draws.list (A := X.A.in1) hh p1 a D.a1 us.toArray) (Draws.list (A := X.A.in1) hh p2 b D.b2 vs.toArray) (Draws.list (A := X.A.in1) hh p3 c D.c3 ws.toArray) z0 S0 T0 ⟨f1, m1.isList⟩ ⟨f2, m2.isList⟩ ⟨f3, m3.isList⟩ (by rw [List.size_toArray]; omega) (by rw [List.size_toArray]; omega) (by rw [List.size_toArray]; omega) (by rw [List.size_toArray, List.size_toArray, List.size_toArray]; omega) fun g tk st => ⟨rfl, I.turnedL (t' := tk) (ch := [z, S, T, p1, p2, p3]) (fun c o hb e => ?_) hf⟩
    simp only [List.mem_cons, List.not_mem_nil, or_false, not_or] at hb
    exact st c o hb.1 hb.2.2.1 hb.2.2.2.1 hb.2.2.2.2.1 hb.2.2.2.2.2 e
  self := fun A i s Q E st q => wpAny_pyIter_zip st.1 q
theorem walk_zip3L {K : PySem.W.Frag} {a b c : Addr} {xs ys zs : List V} {n : Nat} (hn : n = min (min xs.length ys.length) zs.length) : Walk (It3L K a b c) n (fun H => SqL K H a xs ∧ SqL K H b ys ∧ SqL K H c zs) (YTri (fun i => xs[i]?) (fun i => ys[i]?) (fun i => zs[i]?)) := by
  subst hn
  refine ⟨fun i _ hi q => ?_, fun _ q => ⟨xs, ys, zs, q.1, q.2.1, q.2.2, rfl⟩, fun i H v H' _ q ⟨W, x, y, w, g1, g2, g3, g4, g5, g6⟩ => ⟨W, x, y, w, g1, g2, g3, g4 xs q.1, g5 ys q.2.1, g6 zs q.2.2⟩⟩
  exact ⟨xs, ys, zs, xs[i]'(by omega), ys[i]'(by omega), zs[i]'(by omega), ⟨q.1, List.getElem?_eq_getElem _⟩, ⟨q.2.1, List.getElem?_eq_getElem _⟩, q.2.2, List.getElem?_eq_getElem _⟩
end Zq
namespace Zq
open PySem PySem.Spec PyProof.Rows L2
def iZip3X (K : PySem.W.Frag) (ta : TA) : TI := fun σ H R => ta σ H fun vs H1 => (∃ a b c xs ys zs, vs = [.ref a, .ref b, .ref c] ∧ SqT K H1 a xs ∧ SqT K H1 b ys ∧ SqT K H1 c zs ∧ R (It3 K a b c) H1) ∨ (∃ a b c xs ys zs, vs = [.ref a, .ref b, .ref c] ∧ SqL K H1 a xs ∧ SqL K H1 b ys ∧ SqL K H1 c zs ∧ R (It3L K a b c) H1)
theorem pi_zip3X {X : Cx} {e e' e'' : Expr} {ta : TA} {p pos tp : Pos} {es : List Expr} {kk : Nat} (hg : Gl X "zip") (hm : X.mg "zip" = none) (ha : PA X [e, e', e''] ta)
    (hs : starEach [e, e', e''] X.env = (false, eval e X.env) :: starEach [e', e''] X.env := by rfl) (hp : (backTo pos (starEach [e', e''] X.env)).any (·.1) = false := by rfl) : PI X (.Tuple es kk tp) (.Call (.Name "zip" p) [e, e', e''] [] pos) (iZip3X X.K ta) := by
  refine ⟨fun pins s σ H R I h => Call_ (ld_blt I hg hm PyProof.Rows.boot_zip (PyProof.Rows.callWith_type1 (thn (ha.run pos pins s σ H _ I h) fun us s1 ⟨vs, H1, I1, r1, hh⟩ => ?_) hs hp))⟩
  rcases hh with ⟨a, b, c, xs, ys, zs, ex, qx, qy, qz, q⟩ | ⟨a, b, c, xs, ys, zs, ex, qx, qy, qz, q⟩
  · subst ex
    cases r1 with
    | cons ra rr =>
    cases rr with
    | cons rb rr =>
    cases rr with
    | cons rc rr =>
    cases rr
    cases ra
    cases rb
    cases rc
    obtain ⟨is, _, m1, _⟩ := I1.tuple qx
    obtain ⟨js, _, m2, _⟩ := I1.tuple qy
    obtain ⟨ks, _, m3, _⟩ := I1.tuple qz
    have la : a < s1.heap.objs.size := let ⟨_, e, _⟩ := id m1; Heap.lt_size e
    have lb : b < s1.heap.objs.size := let ⟨_, e, _⟩ := id m2; Heap.lt_size e
    have lc : c < s1.heap.objs.size := let ⟨_, e, _⟩ := id m3; Heap.lt_size e
    refine zip_begins3 (begins_tuple a is.toArray) (begins_tuple b js.toArray) (begins_tuple c ks.toArray) (show s1.heap.IsTuple a is.toArray from m1) (show s1.heap.IsTuple b js.toArray from m2) (show s1.heap.IsTuple c ks.toArray from m3) fun g z0 S0 T0 f1 f2 f3 _ k => wpAny_pyIter_zip z0 ?_
    refine ⟨s1.heap.objs.size + 5, _, _, _, H1, rfl, I1.kept (t' := s1.toks) k, turn_3 (ap3 la lb lc), ⟨z0, S0, ⟨_, _, _, T0⟩, ⟨_, f1, rfl, rfl⟩, ⟨_, f2, rfl, rfl⟩, ⟨_, f3, rfl, rfl⟩⟩, fun c hm => ?_, q⟩
    have le : s1.heap.objs.size ≤ c := six hm (fun e => by rw [e]; exact Nat.le_add_right _ 5) (fun e => by rw [e]; exact Nat.le_add_right _ 3) (fun e => by rw [e]; exact Nat.le_add_right _ 4) (fun e => by rw [e]; exact Nat.le_refl _) (fun e => by rw [e]; exact Nat.le_add_right _ 1) (fun e => by rw [e]; exact Nat.le_add_right _ 2)
    exact I1.fpOk le (I1.hok.fresh le)
  · subst ex
    cases r1 with
    | cons ra rr =>
    cases rr with
    | cons rb rr =>
    cases rr with
    | cons rc rr =>
    cases rr
    cases ra
    cases rb
    cases rc
    obtain ⟨is, _, m1, _⟩ := I1.list qx
    obtain ⟨js, _, m2, _⟩ := I1.list qy
    obtain ⟨ks, _, m3, _⟩ := I1.list qz
    have la : a < s1.heap.objs.size := m1.lt
    have lb : b < s1.heap.objs.size := m2.lt
    have lc : c < s1.heap.objs.size := m3.lt
    refine zip_begins3 (begins_list a is.toArray) (begins_list b js.toArray) (begins_list c ks.toArray) m1.isList m2.isList m3.isList fun g z0 S0 T0 f1 f2 f3 _ k => wpAny_pyIter_zip z0 ?_
    refine ⟨s1.heap.objs.size + 5, _, _, _, H1, rfl, I1.kept (t' := s1.toks) k, turn_3L (ap3 la lb lc), ⟨z0, S0, ⟨_, _, _, T0⟩, ⟨_, f1, rfl, rfl⟩, ⟨_, f2, rfl, rfl⟩, ⟨_, f3, rfl, rfl⟩⟩, fun c hm => ?_, q⟩
    have le : s1.heap.objs.size ≤ c := six hm (fun e => by rw [e]; exact Nat.le_add_right _ 5) (fun e => by rw [e]; exact Nat.le_add_right _ 3) (fun e => by rw [e]; exact Nat.le_add_right _ 4) (fun e => by rw [e]; exact Nat.le_refl _) (fun e => by rw [e]; exact Nat.le_add_right _ 1) (fun e => by rw [e]; exact Nat.le_add_right _ 2)
    exact I1.fpOk le (I1.hok.fresh le)
end Zq
namespace Dv
open PySem PySem.Spec PyProof.Rows L2 Xg
open Classical
section
variable {K : PySem.W.Frag} {md : Bool} {ta tb tc : TE} {ca cb cc : Nat} {fa fb fc : FE}
abbrev zip3X (Q : List PyData → Prop) : PyData → PyData → PyData → Prop
  | .tuple a, .tuple b, .tuple c => Q (zipD3 a b c)
  | .list a, .list b, .list c => Q (zipD3 a b c)
  | _, _, _ => False
theorem zip3X_mono {P P' : List PyData → Prop} (h : ∀ k, P k → P' k) : ∀ x y z, zip3X P x y z → zip3X P' x y z := fun x y z g => by
  cases x <;> cases y <;> cases z <;> first | exact h _ g | exact g.elim
abbrev fZip3X (f g k : FE) : FD := fun ρ Q => f ρ fun x => g ρ fun y => k ρ fun z => zip3X Q x y z
theorem sndi_zip3X (a : Snd md K ta ca fa) (a2 : Snd md K tb cb fb) (a3 : Snd md K tc cc fc) : SndI md K (Zq.iZip3X K (tCons ta (tCons tb (tCons tc tNil)))) (ca + (cb + cc)) (fZip3X fa fb fc) := ⟨fun ρ P P' h g => a.mono _ _ _ (fun x => a2.mono _ _ _ fun y => a3.mono _ _ _ fun z => zip3X_mono h x y z) g,
  fun {b S m σ H ρ R P} E hm hf k => a.go E (by omega) hf fun dx v H1 p st bx vd => a2.go (E.step st bx) (by omega) p fun dy v2 H2 p2 st2 bx2 vd2 => a3.go ((E.step st bx).step st2 bx2) (by omega) p2 fun dz v3 H3 p3 st3 bx3 vd3 => by
    have vd := (vd.step st2 E.bs).step st3 E.bs
    have vd2 := vd2.step st3 E.bs
    have sx : sq (fun _ => True) dx := by
      cases dx <;> cases dy <;> cases dz <;> first | trivial | exact p3.elim
    have sy : sq (fun _ => True) dy := by
      cases dx <;> cases dy <;> cases dz <;> first | trivial | exact p3.elim
    have sz : sq (fun _ => True) dz := by
      cases dx <;> cases dy <;> cases dz <;> first | trivial | exact p3.elim
    obtain ⟨p1, xs, ds, rfl, _, g, hh⟩ := vd.seq sx E.bs
    obtain ⟨q1, ys, es, rfl, _, g2, hh2⟩ := vd2.seq sy E.bs
    obtain ⟨r1, zs, us, rfl, _, g3, hh3⟩ := vd3.seq sz E.bs
    have turn : ∀ (i : Nat) (H : Hp) (x : V) (H' : Hp), Zq.YTri (fun i => xs[i]?) (fun i => ys[i]?) (fun i => zs[i]?) i H x H' → ∀ T, Evl.Ex (rm H3 S) (rm H T) → Al T H → Evl.Ex H H' ∧ ∃ d, (zipD3 ds es us)[i]? = some d ∧ Da K (rm H' T) x d := fun i H x H' y T hT al => by
      obtain ⟨T, u, w, t, rfl, nT, rfl, eu, ew, et⟩ := y
      obtain ⟨d, e1, e2⟩ := at_of g hT eu
      obtain ⟨e, f1, f2⟩ := at_of g2 hT ew
      obtain ⟨f, h1, h2⟩ := at_of g3 hT et
      exact ⟨Evl.Ex.new nT, _, zipD3_at e1 f1 h1, new_tup al nT (.cons e2 (.cons f2 (.cons h2 .nil)))⟩
    have ln : min (min xs.length ys.length) zs.length = (zipD3 ds es us).length := by
      rw [zipD3_len, g.len, g2.len, g3.len]
    have stt := (st.trans st2).trans st3
    have bxx : BxO b H3 (m + (ca + (cb + cc))) := bx3.le (by omega)
    rcases hh with ⟨rfl, hL⟩ | ⟨rfl, hL⟩ <;> rcases hh2 with ⟨rfl, hL2⟩ | ⟨rfl, hL2⟩ <;> rcases hh3 with ⟨rfl, hL3⟩ | ⟨rfl, hL3⟩ <;> first | exact p3.elim | skip
    · exact .inr ⟨p1, q1, r1, xs, ys, zs, rfl, hL _ KG.refl, hL2 _ KG.refl, hL3 _ KG.refl, k _ _ H3 p3 stt bxx (wk_of (Zq.walk_zip3L (xs := xs) (ys := ys) (zs := zs) rfl) ln (fun H4 kg => ⟨hL H4 kg, hL2 H4 kg, hL3 H4 kg⟩) fun i H x H' hi => turn i H x H')⟩
    · exact .inl ⟨p1, q1, r1, xs, ys, zs, rfl, hL _ KG.refl, hL2 _ KG.refl, hL3 _ KG.refl, k _ _ H3 p3 stt bxx (wk_of (Zq.walk_zip3 (xs := xs) (ys := ys) (zs := zs) rfl) ln (fun H4 kg => ⟨hL H4 kg, hL2 H4 kg, hL3 H4 kg⟩) fun i H x H' hi => turn i H x H')⟩⟩
end
end Dv
namespace Ex
open PySem PySem.Spec PyProof.Rows L2 Xg Dv
section
variable {K : PySem.W.Frag} {c cu : Nat} {f g : FR} {t u : WX → TS}
abbrev rOr (f g : FR) : FR := fun ρ P => f ρ P ∨ g ρ P
abbrev tOrS (t u : TS) : TS := fun D σ H => t D σ H ∨ u D σ H
theorem sndr_or (a : SndR K t c f) (r : SndR K u cu g) : SndR K (fun W => tOrS (t W) (u W)) (c + cu) (rOr f g) := ⟨
  fun ρ P P' h q => q.elim (fun z => .inl (a.mono _ _ _ h z)) fun z => .inr (r.mono _ _ _ h z),
  fun {G H0 b0 b os m H σ ρ W P} ok hm hf k D => hf.elim
    (fun z => .inl (a.go ok (by omega) z (fun x d dd H'' σ'' p o' => k x d dd H'' σ'' p ⟨o'.old, o'.obx.le (by omega)⟩) D))
    (fun z => .inr (r.go ok (by omega) z (fun x d dd H'' σ'' p o' => k x d dd H'' σ'' p ⟨o'.old, o'.obx.le (by omega)⟩) D))⟩
theorem pss_or {X : Cx} {b : List Stmt} {t u : TS} (h : PSs X b t) (g : PSs X b u) : PSs X b (tOrS t u) := ⟨fun pins s σ H D I z => z.elim (fun y => h.run pins s σ H D I y) fun y => g.run pins s σ H D I y⟩
end
end Ex
namespace Kc
open PySem PySem.Spec PyProof.Rows L2 Xg Dv Kd
def f_width_text : FS := (sRet (eIf (fTest (eBin gIs (eVar 0) (eC .none))) (eC (.str "~")) (eStrI (eVar 0))))
@[irreducible] def F_width_text : FF := mkF 1 1 f_width_text
def t_width_text (K : PySem.W.Frag) : TS := (tRet (tIf (tTest (tOp (fun x y H Q => y = .non ∧ Q (.bl (decide (x = .non))) H) (tVar 0) (tC .non))) (tC (.str "~")) (tCB (fun xs H Q => ∃ i, xs = [.int i] ∧ i.natAbs.log2 < 1920 ∧ Q (.str (Str.ofString (toString i))) H) (tCons (tVar 0) tNil))))
theorem s_width_text (K : PySem.W.Frag) : SndS K (t_width_text K) 0 f_width_text := (snds_ret (snd_if (sndt_test (snd_op ops_is snd_var snd_non)) snd_str (snd_strI snd_var)))
theorem m_width_text (K : PySem.W.Frag) : MonoF F_width_text := by
  unfold F_width_text
  exact mkF_mono (s_width_text K)
end Kc
namespace Kc
open PySem PySem.Spec PyProof.Rows L2 Xg Dv Kd
def f_line_text : FS := (sSeq (sAsg (eVar 0) (gT (gsCons (gN 3) (gsCons (gN 4) gsNil)))) (sSeq (sOwn (dCons (eVar 3) dNil) 5) (sSeq (sFor 1000000 (fZip3X (eVar 1) (eVar 2) (eVar 4)) (gT (gsCons (gN 6) (gsCons (gN 7) (gsCons (gN 8) gsNil)))) (sExt 5 (eLst (dCons (eCall F_width_text (aCons (eVar 6) aNil)) (dCons (eJs (jCons (eFmt (eVar 7)) (jCons (eC (.str "/")) (jCons (eFmt (eVar 8)) jNil)))) dNil))))) (sSeq (sIf (fTest (eBin gEq (eVar 3) (eC (.str "row")))) (sApp 5 (eCall F_width_text (aCons (eBin gIx (eVar 1) (eUn negD (eC (.int 1)))) aNil))) sSkip) (sRet (eJoin (eC (.str " ")) (eVarV 5)))))))
@[irreducible] def F_line_text : FF := mkF 3 9 f_line_text
def t_line_text (K : PySem.W.Frag) : TS := (tSeq (tAsg (tVar 0) (fun v σ H Q => gTup K 2 (gCons (gName 3) (gCons (gName 4) gNil)) v σ H Q ∨ gLst K 2 (gCons (gName 3) (gCons (gName 4) gNil)) v σ H Q)) (tSeq (tAsg (tLst (tCons (tVar 3) tNil)) (gName 5)) (tSeq (tFor (Zq.iZip3X K (tCons (tVar 1) (tCons (tVar 2) (tCons (tVar 4) tNil)))) (fun v σ H Q => gTup K 3 (gCons (gName 6) (gCons (gName 7) (gCons (gName 8) gNil))) v σ H Q ∨ gLst K 3 (gCons (gName 6) (gCons (gName 7) (gCons (gName 8) gNil))) v σ H Q) (tAug 5 (tLst (tCons (tCallG (spD K 0 F_width_text) (tCons (tVar 6) tNil)) (tCons (fun σ H Q => tJs ((tFmt (tVar 7)) :: ((tC (.str "/")) :: ((tFmt (tVar 8)) :: []))) Str.empty σ H fun out H1 => Q (.str out) H1) tNil))) rExt2)) (tSeq (tIfS (tTest (tOp (rEqX K) (tVar 3) (tC (.str "row")))) (tDrop (tBM K "list" rAppend (tVar 5) (tCons (tCallG (spD K 0 F_width_text) (tCons (tOp (rIx K) (tVar 1) (tUn (rU fun i => .int (-i)) (tC (.int 1)))) tNil)) tNil))) tNext) (tRet (tM1 (rJoin K) (tC (.str " ")) (tVar 5)))))))
theorem s_line_text (K : PySem.W.Frag) : SndS K (t_line_text K) 0 f_line_text := (snds_seq (snds_asg (vs := [3, 4]) snd_var (sndg_tup (sndgs_cons (sndg_name (by decide)) (sndgs_cons (sndg_name (by decide)) sndgs_nil)) (gs_lenS gN_some (gs_lenS gN_some gs_len0)))) (snds_seq (snds_own (sndl_lst (sndd_cons snd_var sndd_nil) (by decide))) (snds_seq (snds_for (vs := [6, 7, 8]) (N := 1000000) (sndi_zip3X snd_var snd_var snd_var) (sndg_tup (sndgs_cons (sndg_name (by decide)) (sndgs_cons (sndg_name (by decide)) (sndgs_cons (sndg_name (by decide)) sndgs_nil))) (gs_lenS gN_some (gs_lenS gN_some (gs_lenS gN_some gs_len0)))) (snds_ext (SndL.d (sndl_lst (sndd_cons (snd_call (m_width_text K) (snda_cons snd_var snda_nil)) (sndd_cons (snd_js (sndj_cons (snd_fmt snd_var) (sndj_cons snd_str (sndj_cons (snd_fmt snd_var) sndj_nil)))) sndd_nil)) (by decide))))) (snds_seq (snds_if (sndt_test (snd_op ops_eq snd_var snd_str)) (snds_app (snd_call (m_width_text K) (snda_cons (snd_op ops_ix snd_var (snd_un us_neg snd_int)) snda_nil))) snds_nil) (snds_ret (snd_join snd_str sndV_var))))))
theorem m_line_text (K : PySem.W.Frag) : MonoF F_line_text := by
  unfold F_line_text
  exact mkF_mono (s_line_text K)
end Kc
namespace Kc
open PySem PySem.Spec PyProof.Rows L2 Xg Dv Kd
def f_is_whole : FS := (sSeq (sIf (fTest (eBin gEq (eBin gIx (eVar 0) (eC (.int 0))) (eC (.str "row")))) (sRet (eAnd (eBin (gC fun i j => decide (j ≤ i)) (eCB (g1 lenD) (dCons (eVar 0) dNil)) (eC (.int 4))) (eBin gEq (eBin gOdd (eCB (g1 lenD) (dCons (eVar 0) dNil)) (eC (.int 1))) (eC (.int 0))))) sSkip) (sRet (eAnd (eBin (gC fun i j => decide (j ≤ i)) (eCB (g1 lenD) (dCons (eVar 0) dNil)) (eC (.int 5))) (eBin gEq (eBin gOdd (eCB (g1 lenD) (dCons (eVar 0) dNil)) (eC (.int 1))) (eC (.int 1))))))
@[irreducible] def F_is_whole : FF := mkF 1 1 f_is_whole
def t_is_whole (K : PySem.W.Frag) : TS := (tSeq (tIfS (tTest (tOp (rEqX K) (tOp (rIx K) (tVar 0) (tC (.int 0))) (tC (.str "row")))) (tRet (tAndV (tOp (rI0 fun i j => .bl (decide (j ≤ i))) (tCB (fun xs H Q => ∃ x n, xs = [x] ∧ LenV K x H n ∧ Q (.int n) H) (tCons (tVar 0) tNil)) (tC (.int 4))) (tOp (rEqX K) (tOp (fun x y H Q => ∃ n : Nat, x = .int (n : Int) ∧ y = .int 1 ∧ Q (.int ((n % 2 : Nat) : Int)) H) (tCB (fun xs H Q => ∃ x n, xs = [x] ∧ LenV K x H n ∧ Q (.int n) H) (tCons (tVar 0) tNil)) (tC (.int 1))) (tC (.int 0))))) tNext) (tRet (tAndV (tOp (rI0 fun i j => .bl (decide (j ≤ i))) (tCB (fun xs H Q => ∃ x n, xs = [x] ∧ LenV K x H n ∧ Q (.int n) H) (tCons (tVar 0) tNil)) (tC (.int 5))) (tOp (rEqX K) (tOp (fun x y H Q => ∃ n : Nat, x = .int (n : Int) ∧ y = .int 1 ∧ Q (.int ((n % 2 : Nat) : Int)) H) (tCB (fun xs H Q => ∃ x n, xs = [x] ∧ LenV K x H n ∧ Q (.int n) H) (tCons (tVar 0) tNil)) (tC (.int 1))) (tC (.int 1))))))
theorem s_is_whole (K : PySem.W.Frag) : SndS K (t_is_whole K) 0 f_is_whole := (snds_seq (snds_if (sndt_test (snd_op ops_eq (snd_op ops_ix snd_var snd_int) snd_str)) (snds_ret (snd_and (snd_op ops_C (snd_cb cs_len (sndd_cons snd_var sndd_nil)) snd_int) (snd_op ops_eq (snd_op ops_odd (snd_cb cs_len (sndd_cons snd_var sndd_nil)) snd_int) snd_int))) snds_nil) (snds_ret (snd_and (snd_op ops_C (snd_cb cs_len (sndd_cons snd_var sndd_nil)) snd_int) (snd_op ops_eq (snd_op ops_odd (snd_cb cs_len (sndd_cons snd_var sndd_nil)) snd_int) snd_int))))
theorem m_is_whole (K : PySem.W.Frag) : MonoF F_is_whole := by
  unfold F_is_whole
  exact mkF_mono (s_is_whole K)
end Kc
namespace Kc
open PySem PySem.Spec PyProof.Rows L2 Xg Dv Kd
def f_bin_in : FS := (sSeq (sAsg (eL (fSplit (eVar 0) (eC (.str "/")))) (gT (gsCons (gN 1) (gsCons (gN 2) gsNil)))) (sRet (eTup (dCons (eIntT (eVar 1)) (dCons (eIntT (eVar 2)) dNil)))))
@[irreducible] def F_bin_in : FF := mkF 1 3 f_bin_in
def t_bin_in (K : PySem.W.Frag) : TS := (tSeq (tAsg (tM1 rSplit (tVar 0) (tC (.str "/"))) (fun v σ H Q => gTup K 2 (gCons (gName 1) (gCons (gName 2) gNil)) v σ H Q ∨ gLst K 2 (gCons (gName 1) (gCons (gName 2) gNil)) v σ H Q)) (tRet (tTup (tCons (tCB (fun xs H Q => ∃ a n, xs = [.str a] ∧ PySem.intText? a = some n ∧ a.length ≤ 640 ∧ Q (.int n) H) (tCons (tVar 1) tNil)) (tCons (tCB (fun xs H Q => ∃ a n, xs = [.str a] ∧ PySem.intText? a = some n ∧ a.length ≤ 640 ∧ Q (.int n) H) (tCons (tVar 2) tNil)) tNil)))))
theorem s_bin_in (K : PySem.W.Frag) : SndS K (t_bin_in K) 0 f_bin_in := (snds_seq (snds_asg (vs := [1, 2]) (SndL.d (sndl_split snd_var snd_str)) (sndg_tup (sndgs_cons (sndg_name (by decide)) (sndgs_cons (sndg_name (by decide)) sndgs_nil)) (gs_lenS gN_some (gs_lenS gN_some gs_len0)))) (snds_ret (snd_tup (sndd_cons (snd_intT snd_var) (sndd_cons (snd_intT snd_var) sndd_nil)) (by decide))))
theorem m_bin_in (K : PySem.W.Frag) : MonoF F_bin_in := by
  unfold F_bin_in
  exact mkF_mono (s_bin_in K)
end Kc
namespace Kc
open PySem PySem.Spec PyProof.Rows L2 Xg Dv Kd
def f_is_number_text : FS := (sSeq (sIf (fOr (fNot (fTest (eChain (gC fun i j => decide (i ≤ j)) (gC fun i j => decide (i ≤ j)) (eC (.int 1)) (eLenT (eVar 0)) (eVar 1)))) (fNot (fTest (eCB allD (dCons (eL (fComp 1000000 (fStr (eVar 0)) [2] (gN 2) fYes (eBin gInS (eVar 2) (eC (.str "0123456789"))))) dNil))))) (sRet (eC (.bool false))) sSkip) (sRet (eOr (eBin gEq (eVar 0) (eC (.str "0"))) (eBin gNe (eBin gIxS (eVar 0) (eC (.int 0))) (eC (.str "0"))))))
@[irreducible] def F_is_number_text : FF := mkF 2 3 f_is_number_text
def t_is_number_text (K : PySem.W.Frag) : TS := (tSeq (tIfS (tOr (tNot (tTest (tChain (rI0 fun i j => .bl (decide (i ≤ j))) (rI0 fun i j => .bl (decide (i ≤ j))) (tC (.int 1)) (tCB (fun xs H Q => ∃ z, xs = [.str z] ∧ z.length ≤ sizeLine ∧ Q (.int z.length) H) (tCons (tVar 0) tNil)) (tVar 1)))) (tNot (tB (tCB (rAll K) (tCons (tLc (iStr (tVar 0)) (gName 2) tYes (tOp (rInS false) (tVar 2) (tC (.str "0123456789"))) [2]) tNil))))) (tRet (tC (.bl false))) tNext) (tRet (tOrV (tOp (rEqX K) (tVar 0) (tC (.str "0"))) (tOp (rNeX K) (tOp rIxS (tVar 0) (tC (.int 0))) (tC (.str "0"))))))
theorem s_is_number_text (K : PySem.W.Frag) : SndS K (t_is_number_text K) 0 f_is_number_text := (snds_seq (snds_if (sndt_or (sndt_not (sndt_test (snd_chain ops_C ops_C snd_int (snd_lenT snd_var) snd_var))) (sndt_not (sndt_B (snd_cb cs_all (sndd_cons (SndL.d (sndl_comp (N := 1000000) (by decide) (sndi_str snd_var) (sndg_name (by decide)) sndt_yes (snd_op ops_inS snd_var snd_str))) sndd_nil))))) (snds_ret snd_bl) snds_nil) (snds_ret (snd_or (snd_op ops_eq snd_var snd_str) (snd_op ops_ne (snd_op ops_ixS snd_var snd_int) snd_str))))
theorem m_is_number_text (K : PySem.W.Frag) : MonoF F_is_number_text := by
  unfold F_is_number_text
  exact mkF_mono (s_is_number_text K)
end Kc
namespace Kc
open PySem PySem.Spec PyProof.Rows L2 Xg Dv Kd
def f_is_width_text : FS := (sRet (eOr (eBin gEq (eVar 0) (eC (.str "~"))) (eCall F_is_number_text (aCons (eVar 0) (aCons (eVar 1) aNil)))))
@[irreducible] def F_is_width_text : FF := mkF 2 2 f_is_width_text
def t_is_width_text (K : PySem.W.Frag) : TS := (tRet (tOrV (tOp (rEqX K) (tVar 0) (tC (.str "~"))) (tCallG (spD K 0 F_is_number_text) (tCons (tVar 0) (tCons (tVar 1) tNil)))))
theorem s_is_width_text (K : PySem.W.Frag) : SndS K (t_is_width_text K) 0 f_is_width_text := (snds_ret (snd_or (snd_op ops_eq snd_var snd_str) (snd_call (m_is_number_text K) (snda_cons snd_var (snda_cons snd_var snda_nil)))))
theorem m_is_width_text (K : PySem.W.Frag) : MonoF F_is_width_text := by
  unfold F_is_width_text
  exact mkF_mono (s_is_width_text K)
end Kc
namespace Kc
open PySem PySem.Spec PyProof.Rows L2 Xg Dv Kd
def f_is_bin_text : FS := (sSeq (sAsg (eL (fSplit (eVar 0) (eC (.str "/")))) (gN 1)) (sSeq (sIf (fOr (fTest (eBin gNe (eCB (g1 lenD) (dCons (eVar 1) dNil)) (eC (.int 2)))) (fNot (fTest (eCB allD (dCons (eL (fComp 1000000 (fIt (eVar 1)) [4] (gN 4) fYes (eCall F_is_number_text (aCons (eVar 4) (aCons (eC (.int 10)) aNil))))) dNil))))) (sRet (eC (.bool false))) sSkip) (sSeq (sAsg (eCall F_bin_in (aCons (eVar 0) aNil)) (gT (gsCons (gN 2) (gsCons (gN 3) gsNil)))) (sRet (eAnd (eBin (gC fun i j => decide (j ≤ i)) (eVar 3) (eC (.int 1))) (eBin (gC fun i j => decide (i ≤ j)) (eVar 2) (eVar 3)))))))
@[irreducible] def F_is_bin_text : FF := mkF 1 5 f_is_bin_text
def t_is_bin_text (K : PySem.W.Frag) : TS := (tSeq (tAsg (tM1 rSplit (tVar 0) (tC (.str "/"))) (gName 1)) (tSeq (tIfS (tOr (tTest (tOp (rNeX K) (tCB (fun xs H Q => ∃ x n, xs = [x] ∧ LenV K x H n ∧ Q (.int n) H) (tCons (tVar 1) tNil)) (tC (.int 2)))) (tNot (tB (tCB (rAll K) (tCons (tLc (Pw.iSeq K (tVar 1)) (gName 4) tYes (tCallG (spD K 0 F_is_number_text) (tCons (tVar 4) (tCons (tC (.int 10)) tNil))) [4]) tNil))))) (tRet (tC (.bl false))) tNext) (tSeq (tAsg (tCallG (spD K 0 F_bin_in) (tCons (tVar 0) tNil)) (fun v σ H Q => gTup K 2 (gCons (gName 2) (gCons (gName 3) gNil)) v σ H Q ∨ gLst K 2 (gCons (gName 2) (gCons (gName 3) gNil)) v σ H Q)) (tRet (tAndV (tOp (rI0 fun i j => .bl (decide (j ≤ i))) (tVar 3) (tC (.int 1))) (tOp (rI0 fun i j => .bl (decide (i ≤ j))) (tVar 2) (tVar 3)))))))
theorem s_is_bin_text (K : PySem.W.Frag) : SndS K (t_is_bin_text K) 0 f_is_bin_text := (snds_seq (snds_asg (vs := [1]) (SndL.d (sndl_split snd_var snd_str)) (sndg_name (by decide))) (snds_seq (snds_if (sndt_or (sndt_test (snd_op ops_ne (snd_cb cs_len (sndd_cons snd_var sndd_nil)) snd_int)) (sndt_not (sndt_B (snd_cb cs_all (sndd_cons (SndL.d (sndl_comp (N := 1000000) (by decide) (sndi_seq (Snd.v snd_var)) (sndg_name (by decide)) sndt_yes (snd_call (m_is_number_text K) (snda_cons snd_var (snda_cons snd_int snda_nil))))) sndd_nil))))) (snds_ret snd_bl) snds_nil) (snds_seq (snds_asg (vs := [2, 3]) (snd_call (m_bin_in K) (snda_cons snd_var snda_nil)) (sndg_tup (sndgs_cons (sndg_name (by decide)) (sndgs_cons (sndg_name (by decide)) sndgs_nil)) (gs_lenS gN_some (gs_lenS gN_some gs_len0)))) (snds_ret (snd_and (snd_op ops_C snd_var snd_int) (snd_op ops_C snd_var snd_var))))))
theorem m_is_bin_text (K : PySem.W.Frag) : MonoF F_is_bin_text := by
  unfold F_is_bin_text
  exact mkF_mono (s_is_bin_text K)
end Kc
namespace Kc
open PySem PySem.Spec PyProof.Rows L2 Xg Dv Kd
def f_can_stand : FS := (sSeq (sIf (fTest (eBin gEq (eVar 1) (eC (.int 0)))) (sRet (eOr (eBin gEq (eVar 0) (eC (.str "row"))) (eBin gEq (eVar 0) (eC (.str "ring"))))) sSkip) (sRet (eIf (fTru (eBin gOdd (eVar 1) (eC (.int 1)))) (eCall F_is_width_text (aCons (eVar 0) (aCons (eC (.int 10)) aNil))) (eCall F_is_bin_text (aCons (eVar 0) aNil)))))
@[irreducible] def F_can_stand : FF := mkF 2 2 f_can_stand
def t_can_stand (K : PySem.W.Frag) : TS := (tSeq (tIfS (tTest (tOp (rEqX K) (tVar 1) (tC (.int 0)))) (tRet (tOrV (tOp (rEqX K) (tVar 0) (tC (.str "row"))) (tOp (rEqX K) (tVar 0) (tC (.str "ring"))))) tNext) (tRet (tIf (fun σ H Q => (tOp (fun x y H Q => ∃ n : Nat, x = .int (n : Int) ∧ y = .int 1 ∧ Q (.int ((n % 2 : Nat) : Int)) H) (tVar 1) (tC (.int 1))) σ H fun x H' => ∃ k, TruV K x H' k ∧ Q k H') (tCallG (spD K 0 F_is_width_text) (tCons (tVar 0) (tCons (tC (.int 10)) tNil))) (tCallG (spD K 0 F_is_bin_text) (tCons (tVar 0) tNil)))))
theorem s_can_stand (K : PySem.W.Frag) : SndS K (t_can_stand K) 0 f_can_stand := (snds_seq (snds_if (sndt_test (snd_op ops_eq snd_var snd_int)) (snds_ret (snd_or (snd_op ops_eq snd_var snd_str) (snd_op ops_eq snd_var snd_str))) snds_nil) (snds_ret (snd_if (sndt_tru (snd_op ops_odd snd_var snd_int)) (snd_call (m_is_width_text K) (snda_cons snd_var (snda_cons snd_int snda_nil))) (snd_call (m_is_bin_text K) (snda_cons snd_var snda_nil)))))
theorem m_can_stand (K : PySem.W.Frag) : MonoF F_can_stand := by
  unfold F_can_stand
  exact mkF_mono (s_can_stand K)
end Kc
namespace Kc
open PySem PySem.Spec PyProof.Rows L2 Xg Dv Kd
def f_width_in : FS := (sRet (eIf (fTest (eBin gEq (eVar 0) (eC (.str "~")))) (eC .none) (eIntT (eVar 0))))
@[irreducible] def F_width_in : FF := mkF 1 1 f_width_in
def t_width_in (K : PySem.W.Frag) : TS := (tRet (tIf (tTest (tOp (rEqX K) (tVar 0) (tC (.str "~")))) (tC .non) (tCB (fun xs H Q => ∃ a n, xs = [.str a] ∧ PySem.intText? a = some n ∧ a.length ≤ 640 ∧ Q (.int n) H) (tCons (tVar 0) tNil))))
theorem s_width_in (K : PySem.W.Frag) : SndS K (t_width_in K) 0 f_width_in := (snds_ret (snd_if (sndt_test (snd_op ops_eq snd_var snd_str)) snd_non (snd_intT snd_var)))
theorem m_width_in (K : PySem.W.Frag) : MonoF F_width_in := by
  unfold F_width_in
  exact mkF_mono (s_width_in K)
end Kc
namespace Kc
open PySem PySem.Spec PyProof.Rows L2 Xg Dv Kd
def f_line_in : FS := (sSeq (sAsg (eL (fSplit (eVar 0) (eC (.str " ")))) (gN 1)) (sSeq (sFor 1000000 (fEnum (eVar 1)) (gT (gsCons (gN 2) (gsCons (gN 3) gsNil))) (sIf (fNot (fTest (eCall F_can_stand (aCons (eVar 3) (aCons (eVar 2) aNil))))) sNever sSkip)) (sSeq (sIf (fNot (fTest (eCall F_is_whole (aCons (eVar 1) aNil)))) sNever sSkip) (sSeq (sAsg (eL (fComp 1000000 (fIt (eStp2 2 (eVar 1))) [3] (gN 3) fYes (eCall F_bin_in (aCons (eVar 3) aNil)))) (gN 4)) (sSeq (sAsg (eUn tupD (eL (fComp 1000000 (fIt (eVar 4)) [7, 8] (gT (gsCons (gN 7) (gsCons (gN 8) gsNil))) fYes (eVar 8)))) (gN 5)) (sSeq (sAsg (eUn tupD (eL (fComp 1000000 (fIt (eVar 4)) [7, 8] (gT (gsCons (gN 7) (gsCons (gN 8) gsNil))) fYes (eVar 7)))) (gN 6)) (sRet (eTup (dCons (eTup (dCons (eBin gIx (eVar 1) (eC (.int 0))) (dCons (eVar 5) dNil))) (dCons (eUn tupD (eL (fComp 1000000 (fIt (eStp2 1 (eVar 1))) [3] (gN 3) fYes (eCall F_width_in (aCons (eVar 3) aNil))))) (dCons (eVar 6) dNil)))))))))))
@[irreducible] def F_line_in : FF := mkF 1 9 f_line_in
def t_line_in (K : PySem.W.Frag) : TS := (tSeq (tAsg (tM1 rSplit (tVar 0) (tC (.str " "))) (gName 1)) (tSeq (tFor (Pw.iEnumX K (tCons (tVar 1) tNil)) (fun v σ H Q => gTup K 2 (gCons (gName 2) (gCons (gName 3) gNil)) v σ H Q ∨ gLst K 2 (gCons (gName 2) (gCons (gName 3) gNil)) v σ H Q) (tIfS (tNot (tB (tCallG (spD K 0 F_can_stand) (tCons (tVar 3) (tCons (tVar 2) tNil))))) (fun _ _ _ => False) tNext)) (tSeq (tIfS (tNot (tB (tCallG (spD K 0 F_is_whole) (tCons (tVar 1) tNil)))) (fun _ _ _ => False) tNext) (tSeq (tAsg (tLc (Pw.iSeq K (tStp2 K 2 (tVar 1))) (gName 3) tYes (tCallG (spD K 0 F_bin_in) (tCons (tVar 3) tNil)) [3]) (gName 4)) (tSeq (tAsg (tThen (tLc (Pw.iSeq K (tVar 4)) (fun v σ H Q => gTup K 2 (gCons (gName 7) (gCons (gName 8) gNil)) v σ H Q ∨ gLst K 2 (gCons (gName 7) (gCons (gName 8) gNil)) v σ H Q) tYes (tVar 8) [7, 8]) (kTup K)) (gName 5)) (tSeq (tAsg (tThen (tLc (Pw.iSeq K (tVar 4)) (fun v σ H Q => gTup K 2 (gCons (gName 7) (gCons (gName 8) gNil)) v σ H Q ∨ gLst K 2 (gCons (gName 7) (gCons (gName 8) gNil)) v σ H Q) tYes (tVar 7) [7, 8]) (kTup K)) (gName 6)) (tRet (tTup (tCons (tTup (tCons (tOp (rIx K) (tVar 1) (tC (.int 0))) (tCons (tVar 5) tNil))) (tCons (tThen (tLc (Pw.iSeq K (tStp2 K 1 (tVar 1))) (gName 3) tYes (tCallG (spD K 0 F_width_in) (tCons (tVar 3) tNil)) [3]) (kTup K)) (tCons (tVar 6) tNil)))))))))))
theorem s_line_in (K : PySem.W.Frag) : SndS K (t_line_in K) 0 f_line_in := (snds_seq (snds_asg (vs := [1]) (SndL.d (sndl_split snd_var snd_str)) (sndg_name (by decide))) (snds_seq (snds_for (vs := [2, 3]) (N := 1000000) (sndi_enum snd_var) (sndg_tup (sndgs_cons (sndg_name (by decide)) (sndgs_cons (sndg_name (by decide)) sndgs_nil)) (gs_lenS gN_some (gs_lenS gN_some gs_len0))) (snds_if (sndt_not (sndt_B (snd_call (m_can_stand K) (snda_cons snd_var (snda_cons snd_var snda_nil))))) snds_never snds_nil)) (snds_seq (snds_if (sndt_not (sndt_B (snd_call (m_is_whole K) (snda_cons snd_var snda_nil)))) snds_never snds_nil) (snds_seq (snds_asg (vs := [4]) (SndL.d (sndl_comp (N := 1000000) (by decide) (sndi_seq (Snd.v (snd_stp2 snd_var))) (sndg_name (by decide)) sndt_yes (snd_call (m_bin_in K) (snda_cons snd_var snda_nil)))) (sndg_name (by decide))) (snds_seq (snds_asg (vs := [5]) (snd_tupOf (SndL.d (sndl_comp (N := 1000000) (by decide) (sndi_seq (Snd.v snd_var)) (sndg_tup (sndgs_cons (sndg_name (by decide)) (sndgs_cons (sndg_name (by decide)) sndgs_nil)) (gs_lenS gN_some (gs_lenS gN_some gs_len0))) sndt_yes snd_var))) (sndg_name (by decide))) (snds_seq (snds_asg (vs := [6]) (snd_tupOf (SndL.d (sndl_comp (N := 1000000) (by decide) (sndi_seq (Snd.v snd_var)) (sndg_tup (sndgs_cons (sndg_name (by decide)) (sndgs_cons (sndg_name (by decide)) sndgs_nil)) (gs_lenS gN_some (gs_lenS gN_some gs_len0))) sndt_yes snd_var))) (sndg_name (by decide))) (snds_ret (snd_tup (sndd_cons (snd_tup (sndd_cons (snd_op ops_ix snd_var snd_int) (sndd_cons snd_var sndd_nil)) (by decide)) (sndd_cons (snd_tupOf (SndL.d (sndl_comp (N := 1000000) (by decide) (sndi_seq (Snd.v (snd_stp2 snd_var))) (sndg_name (by decide)) sndt_yes (snd_call (m_width_in K) (snda_cons snd_var snda_nil))))) (sndd_cons snd_var sndd_nil))) (by decide)))))))))
theorem m_line_in (K : PySem.W.Frag) : MonoF F_line_in := by
  unfold F_line_in
  exact mkF_mono (s_line_in K)
end Kc
namespace Kc
open PySem PySem.Spec PyProof.Rows L2 Xg Dv Kd
def r_line_in : Ex.FR := (Ex.rSeq (sAsg (eL (fSplit (eVar 0) (eC (.str " ")))) (gN 1)) (Ex.rOr (Ex.rFor (fEnum (eVar 1)) (gT (gsCons (gN 2) (gsCons (gN 3) gsNil))) (Ex.qIf (fNot (fTest (eCall F_can_stand (aCons (eVar 3) (aCons (eVar 2) aNil))))) (Ex.qR (Ex.rRaise "BadWord" "at" (eVar 2))) (Ex.qS sSkip))) (Ex.rSeq (sFor 1000000 (fEnum (eVar 1)) (gT (gsCons (gN 2) (gsCons (gN 3) gsNil))) (sIf (fNot (fTest (eCall F_can_stand (aCons (eVar 3) (aCons (eVar 2) aNil))))) sNever sSkip)) (Ex.rIf (fNot (fTest (eCall F_is_whole (aCons (eVar 1) aNil)))) (Ex.rRaise "BadWord" "at" (eCB (g1 lenD) (dCons (eVar 1) dNil))) Ex.rNo))))
@[irreducible] def R_line_in : Ex.FR := Ex.mkR 1 9 r_line_in
def trr_line_in (K : PySem.W.Frag) : WX → TS := fun W => (tSeq (tAsg (tM1 rSplit (tVar 0) (tC (.str " "))) (gName 1)) (Ex.tOrS (tSeq (tFor (Pw.iEnumX K (tCons (tVar 1) tNil)) (fun v σ H Q => gTup K 2 (gCons (gName 2) (gCons (gName 3) gNil)) v σ H Q ∨ gLst K 2 (gCons (gName 2) (gCons (gName 3) gNil)) v σ H Q) (tIfS (tNot (tB (tCallG (spD K 0 F_can_stand) (tCons (tVar 3) (tCons (tVar 2) tNil))))) (Ex.tRaise1 K "BadWord" "at" (tVar 2) W) tNext)) (tSeq (fun _ _ _ => False) (tSeq (fun _ _ _ => False) (tSeq (fun _ _ _ => False) (tSeq (fun _ _ _ => False) (fun _ _ _ => False)))))) (tSeq (tFor (Pw.iEnumX K (tCons (tVar 1) tNil)) (fun v σ H Q => gTup K 2 (gCons (gName 2) (gCons (gName 3) gNil)) v σ H Q ∨ gLst K 2 (gCons (gName 2) (gCons (gName 3) gNil)) v σ H Q) (tIfS (tNot (tB (tCallG (spD K 0 F_can_stand) (tCons (tVar 3) (tCons (tVar 2) tNil))))) (fun _ _ _ => False) tNext)) (tSeq (tIfS (tNot (tB (tCallG (spD K 0 F_is_whole) (tCons (tVar 1) tNil)))) (Ex.tRaise1 K "BadWord" "at" (tCB (fun xs H Q => ∃ x n, xs = [x] ∧ LenV K x H n ∧ Q (.int n) H) (tCons (tVar 1) tNil)) W) tNext) (tSeq (fun _ _ _ => False) (tSeq (fun _ _ _ => False) (tSeq (fun _ _ _ => False) (fun _ _ _ => False))))))))
theorem srr_line_in (K : PySem.W.Frag) : Ex.SndR K (trr_line_in K) 0 r_line_in := (Ex.sndr_seq (snds_asg (vs := [1]) (SndL.d (sndl_split snd_var snd_str)) (sndg_name (by decide))) (Ex.sndr_or (Ex.sndr_fst (Ex.sndr_for (vs := [2, 3]) (sndi_enum snd_var) (sndg_tup (sndgs_cons (sndg_name (by decide)) (sndgs_cons (sndg_name (by decide)) sndgs_nil)) (gs_lenS gN_some (gs_lenS gN_some gs_len0))) (Ex.sndq_if (sndt_not (sndt_B (snd_call (m_can_stand K) (snda_cons snd_var (snda_cons snd_var snda_nil))))) (Ex.sndq_r (Ex.sndr_raise snd_var)) (Ex.sndq_s snds_nil)))) (Ex.sndr_seq (snds_for (vs := [2, 3]) (N := 1000000) (sndi_enum snd_var) (sndg_tup (sndgs_cons (sndg_name (by decide)) (sndgs_cons (sndg_name (by decide)) sndgs_nil)) (gs_lenS gN_some (gs_lenS gN_some gs_len0))) (snds_if (sndt_not (sndt_B (snd_call (m_can_stand K) (snda_cons snd_var (snda_cons snd_var snda_nil))))) snds_never snds_nil)) (Ex.sndr_ifs (sndt_not (sndt_B (snd_call (m_is_whole K) (snda_cons snd_var snda_nil)))) (Ex.sndr_raise (snd_cb cs_len (sndd_cons snd_var sndd_nil))) Ex.sndr_no))))
theorem mR_line_in (K : PySem.W.Frag) : Ex.MonoR R_line_in := by
  unfold R_line_in
  exact Ex.mkR_mono (srr_line_in K)
end Kc
namespace Kc
open PySem PySem.Spec PyProof.Rows L2 Xg Dv Kd
def f__law_pick__x : FS := (sRet (eBin gIxS (eVar 1) (eCall F_take (aBox 0 (aCons (eLenT (eVar 1)) aNil)))))
@[irreducible] def F__law_pick__x : FF := mkF 2 2 f__law_pick__x
def t__law_pick__x (K : PySem.W.Frag) : TS := (tRet (tOp rIxS (tVar 1) (tCallG (spD K 1 F_take) (tCons (tVar 0) (tCons (tCB (fun xs H Q => ∃ z, xs = [.str z] ∧ z.length ≤ sizeLine ∧ Q (.int z.length) H) (tCons (tVar 1) tNil)) tNil)))))
theorem s__law_pick__x (K : PySem.W.Frag) : SndS K (t__law_pick__x K) 1 f__law_pick__x := (snds_ret (snd_op ops_ixS snd_var (snd_call m_take (snda_box (snda_cons (snd_lenT snd_var) snda_nil)))))
theorem m__law_pick__x (K : PySem.W.Frag) : MonoF F__law_pick__x := by
  unfold F__law_pick__x
  exact mkF_mono (s__law_pick__x K)
end Kc
namespace Kc
open PySem PySem.Spec PyProof.Rows L2 Xg Dv Kd
@[irreducible] def f__law_number_0 : FS := (sRet (eIf (fOr (fTest (eBin gEq (eVar 0) (eC (.str "0")))) (fTest (eBin gNe (eBin gIxS (eVar 0) (eC (.int 0))) (eC (.str "0"))))) (eIntT (eVar 0)) (eC .none)))
def t__law_number_0 (K : PySem.W.Frag) : TS := (tRet (tIf (tOr (tTest (tOp (rEqX K) (tVar 0) (tC (.str "0")))) (tTest (tOp (rNeX K) (tOp rIxS (tVar 0) (tC (.int 0))) (tC (.str "0"))))) (tCB (fun xs H Q => ∃ a n, xs = [.str a] ∧ PySem.intText? a = some n ∧ a.length ≤ 640 ∧ Q (.int n) H) (tCons (tVar 0) tNil)) (tC .non)))
theorem s__law_number_0 (K : PySem.W.Frag) : SndS K (t__law_number_0 K) 0 f__law_number_0 := by
  unfold f__law_number_0
  exact (snds_ret (snd_if (sndt_or (sndt_test (snd_op ops_eq snd_var snd_str)) (sndt_test (snd_op ops_ne (snd_op ops_ixS snd_var snd_int) snd_str))) (snd_intT snd_var) snd_non))
def f__law_number : FS := (sSeq (sIf (fOr (fNot (fTest (eChain (gC fun i j => decide (i < j)) (gC fun i j => decide (i ≤ j)) (eC (.int 0)) (eLenT (eVar 0)) (eVar 1)))) (fNot (fTest (eCB allD (dCons (eL (fComp 1000000 (fStr (eVar 0)) [2] (gN 2) fYes (eBin gInS (eVar 2) (eC (.str "0123456789"))))) dNil))))) (sRet (eC .none)) sSkip) f__law_number_0)
@[irreducible] def F__law_number : FF := mkF 2 3 f__law_number
def t__law_number (K : PySem.W.Frag) : TS := (tSeq (tIfS (tOr (tNot (tTest (tChain (rI0 fun i j => .bl (decide (i < j))) (rI0 fun i j => .bl (decide (i ≤ j))) (tC (.int 0)) (tCB (fun xs H Q => ∃ z, xs = [.str z] ∧ z.length ≤ sizeLine ∧ Q (.int z.length) H) (tCons (tVar 0) tNil)) (tVar 1)))) (tNot (tB (tCB (rAll K) (tCons (tLc (iStr (tVar 0)) (gName 2) tYes (tOp (rInS false) (tVar 2) (tC (.str "0123456789"))) [2]) tNil))))) (tRet (tC .non)) tNext) (t__law_number_0 K))
theorem s__law_number (K : PySem.W.Frag) : SndS K (t__law_number K) 0 f__law_number := (snds_seq (snds_if (sndt_or (sndt_not (sndt_test (snd_chain ops_C ops_C snd_int (snd_lenT snd_var) snd_var))) (sndt_not (sndt_B (snd_cb cs_all (sndd_cons (SndL.d (sndl_comp (N := 1000000) (by decide) (sndi_str snd_var) (sndg_name (by decide)) sndt_yes (snd_op ops_inS snd_var snd_str))) sndd_nil))))) (snds_ret snd_non) snds_nil) (s__law_number_0 K))
theorem m__law_number (K : PySem.W.Frag) : MonoF F__law_number := by
  unfold F__law_number
  exact mkF_mono (s__law_number K)
end Kc
namespace Kc
open PySem PySem.Spec PyProof.Rows L2 Xg Dv Kd
@[irreducible] def f__law_spoilt_0 : FS := (sRet (eIf (fTest (eBin gEq (eVar 4) (eC (.int 7)))) (eSlT (eVar 1) oNone (oSome (eVar 5))) (eBin gAddS (eVar 1) (eCall F__law_pick (aBox 0 (aCons (eLst (dCons (eC (.str "
")) (dCons (eC (.str " ")) (dCons (eC (.str "")) (dCons (eC (.str "0")) dNil))))) aNil))))))
def t__law_spoilt_0 (K : PySem.W.Frag) : TS := (tRet (tIf (tTest (tOp (rEqX K) (tVar 4) (tC (.int 7)))) (tSl rSlS (tVar 1) tNoPart (tPart (tVar 5))) (tOp rAddS (tVar 1) (tCallG (spD K 1 F__law_pick) (tCons (tVar 0) (tCons (tLst (tCons (tC (.str "
")) (tCons (tC (.str " ")) (tCons (tC (.str "")) (tCons (tC (.str "0")) tNil))))) tNil))))))
theorem s__law_spoilt_0 (K : PySem.W.Frag) : SndS K (t__law_spoilt_0 K) 1 f__law_spoilt_0 := by
  unfold f__law_spoilt_0
  exact (snds_ret (snd_if (sndt_test (snd_op ops_eq snd_var snd_int)) (snd_slT snd_var sndo_none (sndo_some snd_var)) (snd_op ops_addS snd_var (snd_call (m__law_pick K) (snda_box (snda_cons (SndL.d (sndl_lst (sndd_cons snd_str (sndd_cons snd_str (sndd_cons snd_str (sndd_cons snd_str sndd_nil)))) (by decide))) snda_nil))))))
@[irreducible] def f__law_spoilt_1 : FS := (sSeq (sIf (fTest (eBin gEq (eVar 4) (eC (.int 6)))) (sRet (eJoin (eC (.str " ")) (eBin gAdd (eBin gAdd (eSl (eVar 3) oNone (oSome (eVar 6))) (eLst (dCons (eVar 8) dNil))) (eSl (eVar 3) (oSome (eVar 6)) oNone)))) sSkip) f__law_spoilt_0)
def t__law_spoilt_1 (K : PySem.W.Frag) : TS := (tSeq (tIfS (tTest (tOp (rEqX K) (tVar 4) (tC (.int 6)))) (tRet (tM1 (rJoin K) (tC (.str " ")) (tOp (rAdd K) (tOp (rAdd K) (tSl (rSlX K) (tVar 3) tNoPart (tPart (tVar 6))) (tLst (tCons (tVar 8) tNil))) (tSl (rSlX K) (tVar 3) (tPart (tVar 6)) tNoPart)))) tNext) (t__law_spoilt_0 K))
theorem s__law_spoilt_1 (K : PySem.W.Frag) : SndS K (t__law_spoilt_1 K) 1 f__law_spoilt_1 := by
  unfold f__law_spoilt_1
  exact (snds_seq (snds_if (sndt_test (snd_op ops_eq snd_var snd_int)) (snds_ret (snd_join snd_str (snd_op ops_add (snd_op ops_add (snd_sl snd_var sndo_none (sndo_some snd_var)) (SndL.d (sndl_lst (sndd_cons snd_var sndd_nil) (by decide)))) (snd_sl snd_var (sndo_some snd_var) sndo_none)))) snds_nil) (s__law_spoilt_0 K))
@[irreducible] def f__law_spoilt_2 : FS := (sSeq (sIf (fTest (eBin gEq (eVar 4) (eC (.int 5)))) (sRet (eJoin (eC (.str " ")) (eBin gAdd (eBin gAdd (eSl (eVar 3) oNone (oSome (eVar 6))) (eLst (dCons (eVar 8) dNil))) (eSl (eVar 3) (oSome (eBin gAdd (eVar 6) (eC (.int 1)))) oNone)))) sSkip) f__law_spoilt_1)
def t__law_spoilt_2 (K : PySem.W.Frag) : TS := (tSeq (tIfS (tTest (tOp (rEqX K) (tVar 4) (tC (.int 5)))) (tRet (tM1 (rJoin K) (tC (.str " ")) (tOp (rAdd K) (tOp (rAdd K) (tSl (rSlX K) (tVar 3) tNoPart (tPart (tVar 6))) (tLst (tCons (tVar 8) tNil))) (tSl (rSlX K) (tVar 3) (tPart (tOp (rAdd K) (tVar 6) (tC (.int 1)))) tNoPart)))) tNext) (t__law_spoilt_1 K))
theorem s__law_spoilt_2 (K : PySem.W.Frag) : SndS K (t__law_spoilt_2 K) 1 f__law_spoilt_2 := by
  unfold f__law_spoilt_2
  exact (snds_seq (snds_if (sndt_test (snd_op ops_eq snd_var snd_int)) (snds_ret (snd_join snd_str (snd_op ops_add (snd_op ops_add (snd_sl snd_var sndo_none (sndo_some snd_var)) (SndL.d (sndl_lst (sndd_cons snd_var sndd_nil) (by decide)))) (snd_sl snd_var (sndo_some (snd_op ops_add snd_var snd_int)) sndo_none)))) snds_nil) (s__law_spoilt_1 K))
@[irreducible] def f__law_spoilt_3 : FS := (sSeq (sIf (fTest (eBin gEq (eVar 4) (eC (.int 4)))) (sRet (eJoin (eC (.str " ")) (eBin gAdd (eSl (eVar 3) oNone (oSome (eBin gAdd (eVar 6) (eC (.int 1))))) (eSl (eVar 3) (oSome (eVar 6)) oNone)))) sSkip) f__law_spoilt_2)
def t__law_spoilt_3 (K : PySem.W.Frag) : TS := (tSeq (tIfS (tTest (tOp (rEqX K) (tVar 4) (tC (.int 4)))) (tRet (tM1 (rJoin K) (tC (.str " ")) (tOp (rAdd K) (tSl (rSlX K) (tVar 3) tNoPart (tPart (tOp (rAdd K) (tVar 6) (tC (.int 1))))) (tSl (rSlX K) (tVar 3) (tPart (tVar 6)) tNoPart)))) tNext) (t__law_spoilt_2 K))
theorem s__law_spoilt_3 (K : PySem.W.Frag) : SndS K (t__law_spoilt_3 K) 1 f__law_spoilt_3 := by
  unfold f__law_spoilt_3
  exact (snds_seq (snds_if (sndt_test (snd_op ops_eq snd_var snd_int)) (snds_ret (snd_join snd_str (snd_op ops_add (snd_sl snd_var sndo_none (sndo_some (snd_op ops_add snd_var snd_int))) (snd_sl snd_var (sndo_some snd_var) sndo_none)))) snds_nil) (s__law_spoilt_2 K))
@[irreducible] def f__law_spoilt_4 : FS := (sSeq (sIf (fTest (eBin gEq (eVar 4) (eC (.int 3)))) (sRet (eJoin (eC (.str " ")) (eBin gAdd (eSl (eVar 3) oNone (oSome (eVar 6))) (eSl (eVar 3) (oSome (eBin gAdd (eVar 6) (eC (.int 1)))) oNone)))) sSkip) f__law_spoilt_3)
def t__law_spoilt_4 (K : PySem.W.Frag) : TS := (tSeq (tIfS (tTest (tOp (rEqX K) (tVar 4) (tC (.int 3)))) (tRet (tM1 (rJoin K) (tC (.str " ")) (tOp (rAdd K) (tSl (rSlX K) (tVar 3) tNoPart (tPart (tVar 6))) (tSl (rSlX K) (tVar 3) (tPart (tOp (rAdd K) (tVar 6) (tC (.int 1)))) tNoPart)))) tNext) (t__law_spoilt_3 K))
theorem s__law_spoilt_4 (K : PySem.W.Frag) : SndS K (t__law_spoilt_4 K) 1 f__law_spoilt_4 := by
  unfold f__law_spoilt_4
  exact (snds_seq (snds_if (sndt_test (snd_op ops_eq snd_var snd_int)) (snds_ret (snd_join snd_str (snd_op ops_add (snd_sl snd_var sndo_none (sndo_some snd_var)) (snd_sl snd_var (sndo_some (snd_op ops_add snd_var snd_int)) sndo_none)))) snds_nil) (s__law_spoilt_3 K))
@[irreducible] def f__law_spoilt_5 : FS := (sSeq (sIf (fTest (eBin gEq (eVar 4) (eC (.int 2)))) (sRet (eBin gAddS (eBin gAddS (eSlT (eVar 1) oNone (oSome (eVar 5))) (eCall F__law_pick__x (aBox 0 (aCons (eVar 2) aNil)))) (eSlT (eVar 1) (oSome (eBin gAdd (eVar 5) (eC (.int 1)))) oNone))) sSkip) f__law_spoilt_4)
def t__law_spoilt_5 (K : PySem.W.Frag) : TS := (tSeq (tIfS (tTest (tOp (rEqX K) (tVar 4) (tC (.int 2)))) (tRet (tOp rAddS (tOp rAddS (tSl rSlS (tVar 1) tNoPart (tPart (tVar 5))) (tCallG (spD K 1 F__law_pick__x) (tCons (tVar 0) (tCons (tVar 2) tNil)))) (tSl rSlS (tVar 1) (tPart (tOp (rAdd K) (tVar 5) (tC (.int 1)))) tNoPart))) tNext) (t__law_spoilt_4 K))
theorem s__law_spoilt_5 (K : PySem.W.Frag) : SndS K (t__law_spoilt_5 K) 2 f__law_spoilt_5 := by
  unfold f__law_spoilt_5
  exact (snds_seq (snds_if (sndt_test (snd_op ops_eq snd_var snd_int)) (snds_ret (snd_op ops_addS (snd_op ops_addS (snd_slT snd_var sndo_none (sndo_some snd_var)) (snd_call (m__law_pick__x K) (snda_box (snda_cons snd_var snda_nil)))) (snd_slT snd_var (sndo_some (snd_op ops_add snd_var snd_int)) sndo_none))) snds_nil) (s__law_spoilt_4 K))
@[irreducible] def f__law_spoilt_6 : FS := (sSeq (sIf (fTest (eBin gEq (eVar 4) (eC (.int 1)))) (sRet (eBin gAddS (eBin gAddS (eSlT (eVar 1) oNone (oSome (eVar 5))) (eCall F__law_pick__x (aBox 0 (aCons (eVar 2) aNil)))) (eSlT (eVar 1) (oSome (eVar 5)) oNone))) sSkip) f__law_spoilt_5)
def t__law_spoilt_6 (K : PySem.W.Frag) : TS := (tSeq (tIfS (tTest (tOp (rEqX K) (tVar 4) (tC (.int 1)))) (tRet (tOp rAddS (tOp rAddS (tSl rSlS (tVar 1) tNoPart (tPart (tVar 5))) (tCallG (spD K 1 F__law_pick__x) (tCons (tVar 0) (tCons (tVar 2) tNil)))) (tSl rSlS (tVar 1) (tPart (tVar 5)) tNoPart))) tNext) (t__law_spoilt_5 K))
theorem s__law_spoilt_6 (K : PySem.W.Frag) : SndS K (t__law_spoilt_6 K) 3 f__law_spoilt_6 := by
  unfold f__law_spoilt_6
  exact (snds_seq (snds_if (sndt_test (snd_op ops_eq snd_var snd_int)) (snds_ret (snd_op ops_addS (snd_op ops_addS (snd_slT snd_var sndo_none (sndo_some snd_var)) (snd_call (m__law_pick__x K) (snda_box (snda_cons snd_var snda_nil)))) (snd_slT snd_var (sndo_some snd_var) sndo_none))) snds_nil) (s__law_spoilt_5 K))
@[irreducible] def f__law_spoilt_7 : FS := (sSeq (sIf (fTest (eBin gEq (eVar 4) (eC (.int 0)))) (sRet (eBin gAddS (eSlT (eVar 1) oNone (oSome (eVar 5))) (eSlT (eVar 1) (oSome (eBin gAdd (eVar 5) (eC (.int 1)))) oNone))) sSkip) f__law_spoilt_6)
def t__law_spoilt_7 (K : PySem.W.Frag) : TS := (tSeq (tIfS (tTest (tOp (rEqX K) (tVar 4) (tC (.int 0)))) (tRet (tOp rAddS (tSl rSlS (tVar 1) tNoPart (tPart (tVar 5))) (tSl rSlS (tVar 1) (tPart (tOp (rAdd K) (tVar 5) (tC (.int 1)))) tNoPart))) tNext) (t__law_spoilt_6 K))
theorem s__law_spoilt_7 (K : PySem.W.Frag) : SndS K (t__law_spoilt_7 K) 3 f__law_spoilt_7 := by
  unfold f__law_spoilt_7
  exact (snds_seq (snds_if (sndt_test (snd_op ops_eq snd_var snd_int)) (snds_ret (snd_op ops_addS (snd_slT snd_var sndo_none (sndo_some snd_var)) (snd_slT snd_var (sndo_some (snd_op ops_add snd_var snd_int)) sndo_none))) snds_nil) (s__law_spoilt_6 K))
@[irreducible] def f__law_spoilt_8 : FS := (sSeq (sAsg (eCall F__law_pick (aBox 0 (aCons (eVar 7) aNil))) (gN 8)) f__law_spoilt_7)
def t__law_spoilt_8 (K : PySem.W.Frag) : TS := (tSeq (tAsg (tCallG (spD K 1 F__law_pick) (tCons (tVar 0) (tCons (tVar 7) tNil))) (gName 8)) (t__law_spoilt_7 K))
theorem s__law_spoilt_8 (K : PySem.W.Frag) : SndS K (t__law_spoilt_8 K) 4 f__law_spoilt_8 := by
  unfold f__law_spoilt_8
  exact (snds_seq (snds_asg (vs := [8]) (snd_call (m__law_pick K) (snda_box (snda_cons snd_var snda_nil))) (sndg_name (by decide))) (s__law_spoilt_7 K))
@[irreducible] def f__law_spoilt_9 : FS := (sSeq (sAsg (eBin gAdd (eVar 7) (eLst (dCons (eBin gMulS (eC (.str "9")) (eC (.int 10))) (dCons (eBin gMulS (eC (.str "9")) (eC (.int 11))) (dCons (eBin gAddS (eC (.str "1/")) (eBin gMulS (eC (.str "9")) (eC (.int 10)))) (dCons (eBin gAddS (eC (.str "1/")) (eBin gMulS (eC (.str "9")) (eC (.int 11)))) (dCons (eBin gMulS (eC (.str "1")) (eC (.int 13))) dNil))))))) (gN 7)) f__law_spoilt_8)
def t__law_spoilt_9 (K : PySem.W.Frag) : TS := (tSeq (tAsg (tOp (rAdd K) (tVar 7) (tLst (tCons (tOp rMulS (tC (.str "9")) (tC (.int 10))) (tCons (tOp rMulS (tC (.str "9")) (tC (.int 11))) (tCons (tOp rAddS (tC (.str "1/")) (tOp rMulS (tC (.str "9")) (tC (.int 10)))) (tCons (tOp rAddS (tC (.str "1/")) (tOp rMulS (tC (.str "9")) (tC (.int 11)))) (tCons (tOp rMulS (tC (.str "1")) (tC (.int 13))) tNil))))))) (gName 7)) (t__law_spoilt_8 K))
theorem s__law_spoilt_9 (K : PySem.W.Frag) : SndS K (t__law_spoilt_9 K) 4 f__law_spoilt_9 := by
  unfold f__law_spoilt_9
  exact (snds_seq (snds_asg (vs := [7]) (snd_op ops_add snd_var (SndL.d (sndl_lst (sndd_cons (snd_op ops_mulS snd_str snd_int) (sndd_cons (snd_op ops_mulS snd_str snd_int) (sndd_cons (snd_op ops_addS snd_str (snd_op ops_mulS snd_str snd_int)) (sndd_cons (snd_op ops_addS snd_str (snd_op ops_mulS snd_str snd_int)) (sndd_cons (snd_op ops_mulS snd_str snd_int) sndd_nil))))) (by decide)))) (sndg_name (by decide))) (s__law_spoilt_8 K))
@[irreducible] def f__law_spoilt_10 : FS := (sSeq (sAsg (eLst (dCons (eC (.str "")) (dCons (eC (.str "0")) (dCons (eC (.str "00")) (dCons (eC (.str "~")) (dCons (eC (.str "row")) (dCons (eC (.str "ring")) (dCons (eC (.str "forth")) (dCons (eC (.str "back")) (dCons (eC (.str "1/2")) (dCons (eC (.str "2/1")) (dCons (eC (.str "0/0")) (dCons (eC (.str "-")) (dCons (eBin gMulS (eC (.str "9")) (eC (.int 14))) (dCons (eBin gIx (eVar 3) (eC (.int 0))) dNil))))))))))))))) (gN 7)) f__law_spoilt_9)
def t__law_spoilt_10 (K : PySem.W.Frag) : TS := (tSeq (tAsg (tLst (tCons (tC (.str "")) (tCons (tC (.str "0")) (tCons (tC (.str "00")) (tCons (tC (.str "~")) (tCons (tC (.str "row")) (tCons (tC (.str "ring")) (tCons (tC (.str "forth")) (tCons (tC (.str "back")) (tCons (tC (.str "1/2")) (tCons (tC (.str "2/1")) (tCons (tC (.str "0/0")) (tCons (tC (.str "-")) (tCons (tOp rMulS (tC (.str "9")) (tC (.int 14))) (tCons (tOp (rIx K) (tVar 3) (tC (.int 0))) tNil))))))))))))))) (gName 7)) (t__law_spoilt_9 K))
theorem s__law_spoilt_10 (K : PySem.W.Frag) : SndS K (t__law_spoilt_10 K) 4 f__law_spoilt_10 := by
  unfold f__law_spoilt_10
  exact (snds_seq (snds_asg (vs := [7]) (SndL.d (sndl_lst (sndd_cons snd_str (sndd_cons snd_str (sndd_cons snd_str (sndd_cons snd_str (sndd_cons snd_str (sndd_cons snd_str (sndd_cons snd_str (sndd_cons snd_str (sndd_cons snd_str (sndd_cons snd_str (sndd_cons snd_str (sndd_cons snd_str (sndd_cons (snd_op ops_mulS snd_str snd_int) (sndd_cons (snd_op ops_ix snd_var snd_int) sndd_nil)))))))))))))) (by decide))) (sndg_name (by decide))) (s__law_spoilt_9 K))
@[irreducible] def f__law_spoilt_11 : FS := (sSeq (sPar3 4 5 6 (eCall F_take (aBox 0 (aCons (eC (.int 9)) aNil))) (eCall F_take (aBox 0 (aCons (eBin gAdd (eLenT (eVar 1)) (eC (.int 1))) aNil))) (eCall F_take (aBox 0 (aCons (eCB (g1 lenD) (dCons (eVar 3) dNil)) aNil)))) f__law_spoilt_10)
def t__law_spoilt_11 (K : PySem.W.Frag) : TS := (tSeq (tPar3 4 5 6 (tCons (tCallG (spD K 1 F_take) (tCons (tVar 0) (tCons (tC (.int 9)) tNil))) (tCons (tCallG (spD K 1 F_take) (tCons (tVar 0) (tCons (tOp (rAdd K) (tCB (fun xs H Q => ∃ z, xs = [.str z] ∧ z.length ≤ sizeLine ∧ Q (.int z.length) H) (tCons (tVar 1) tNil)) (tC (.int 1))) tNil))) (tCons (tCallG (spD K 1 F_take) (tCons (tVar 0) (tCons (tCB (fun xs H Q => ∃ x n, xs = [x] ∧ LenV K x H n ∧ Q (.int n) H) (tCons (tVar 3) tNil)) tNil))) tNil)))) (t__law_spoilt_10 K))
theorem s__law_spoilt_11 (K : PySem.W.Frag) : SndS K (t__law_spoilt_11 K) 7 f__law_spoilt_11 := by
  unfold f__law_spoilt_11
  exact (snds_seq (snds_par3 (snd_call m_take (snda_box (snda_cons snd_int snda_nil))) (snd_call m_take (snda_box (snda_cons (snd_op ops_add (snd_lenT snd_var) snd_int) snda_nil))) (snd_call m_take (snda_box (snda_cons (snd_cb cs_len (sndd_cons snd_var sndd_nil)) snda_nil)))) (s__law_spoilt_10 K))
def f__law_spoilt : FS := (sSeq (sPar 2 3 (eC (.str "0123456789/~- ,abcfhknortgiw")) (eL (fSplit (eVar 1) (eC (.str " "))))) f__law_spoilt_11)
@[irreducible] def F__law_spoilt : FF := mkF 2 9 f__law_spoilt
def t__law_spoilt (K : PySem.W.Frag) : TS := (tSeq (tPar 2 3 (tCons (tC (.str "0123456789/~- ,abcfhknortgiw")) (tCons (tM1 rSplit (tVar 1) (tC (.str " "))) tNil))) (t__law_spoilt_11 K))
theorem s__law_spoilt (K : PySem.W.Frag) : SndS K (t__law_spoilt K) 7 f__law_spoilt := (snds_seq (snds_par snd_str (SndL.d (sndl_split snd_var snd_str))) (s__law_spoilt_11 K))
theorem m__law_spoilt (K : PySem.W.Frag) : MonoF F__law_spoilt := by
  unfold F__law_spoilt
  exact mkF_mono (s__law_spoilt K)
end Kc
namespace Kc
open PySem PySem.Spec PyProof.Rows L2 Xg Dv Kd
@[irreducible] def f__law_text_0 : FS := (sRet (eJoin (eC (.str " ")) (eVarV 3)))
def t__law_text_0 (K : PySem.W.Frag) : TS := (tRet (tM1 (rJoin K) (tC (.str " ")) (tVar 3)))
theorem s__law_text_0 (K : PySem.W.Frag) : SndS K (t__law_text_0 K) 0 f__law_text_0 := by
  unfold f__law_text_0
  exact (snds_ret (snd_join snd_str sndV_var))
@[irreducible] def f__law_text_1 : FS := (sSeq (sIf (fTest (eBin gEq (eBin gIx (eVar 0) (eC (.int 0))) (eC (.str "row")))) (sApp 3 (eIf (fTest (eBin gIs (eBin gIx (eVar 1) (eUn negD (eC (.int 1)))) (eC .none))) (eC (.str "~")) (eStrI (eBin gIx (eVar 1) (eUn negD (eC (.int 1))))))) sSkip) f__law_text_0)
def t__law_text_1 (K : PySem.W.Frag) : TS := (tSeq (tIfS (tTest (tOp (rEqX K) (tOp (rIx K) (tVar 0) (tC (.int 0))) (tC (.str "row")))) (tDrop (tBM K "list" rAppend (tVar 3) (tCons (tIf (tTest (tOp (fun x y H Q => y = .non ∧ Q (.bl (decide (x = .non))) H) (tOp (rIx K) (tVar 1) (tUn (rU fun i => .int (-i)) (tC (.int 1)))) (tC .non))) (tC (.str "~")) (tCB (fun xs H Q => ∃ i, xs = [.int i] ∧ i.natAbs.log2 < 1920 ∧ Q (.str (Str.ofString (toString i))) H) (tCons (tOp (rIx K) (tVar 1) (tUn (rU fun i => .int (-i)) (tC (.int 1)))) tNil))) tNil))) tNext) (t__law_text_0 K))
theorem s__law_text_1 (K : PySem.W.Frag) : SndS K (t__law_text_1 K) 0 f__law_text_1 := by
  unfold f__law_text_1
  exact (snds_seq (snds_if (sndt_test (snd_op ops_eq (snd_op ops_ix snd_var snd_int) snd_str)) (snds_app (snd_if (sndt_test (snd_op ops_is (snd_op ops_ix snd_var (snd_un us_neg snd_int)) snd_non)) snd_str (snd_strI (snd_op ops_ix snd_var (snd_un us_neg snd_int))))) snds_nil) (s__law_text_0 K))
@[irreducible] def f__law_text_2 : FS := (sSeq (sFor 1000000 (fEnum (eVar 2)) (gT (gsCons (gN 4) (gsCons (gN 5) gsNil))) (sExt 3 (eLst (dCons (eIf (fTest (eBin gIs (eBin gIx (eVar 1) (eVar 4)) (eC .none))) (eC (.str "~")) (eStrI (eBin gIx (eVar 1) (eVar 4)))) (dCons (eBin gAddS (eBin gAddS (eStrI (eVar 5)) (eC (.str "/"))) (eStrI (eBin gIx (eBin gIx (eVar 0) (eC (.int 1))) (eVar 4)))) dNil))))) f__law_text_1)
def t__law_text_2 (K : PySem.W.Frag) : TS := (tSeq (tFor (Pw.iEnumX K (tCons (tVar 2) tNil)) (fun v σ H Q => gTup K 2 (gCons (gName 4) (gCons (gName 5) gNil)) v σ H Q ∨ gLst K 2 (gCons (gName 4) (gCons (gName 5) gNil)) v σ H Q) (tDrop (tBM K "list" rExtend (tVar 3) (tCons (tLst (tCons (tIf (tTest (tOp (fun x y H Q => y = .non ∧ Q (.bl (decide (x = .non))) H) (tOp (rIx K) (tVar 1) (tVar 4)) (tC .non))) (tC (.str "~")) (tCB (fun xs H Q => ∃ i, xs = [.int i] ∧ i.natAbs.log2 < 1920 ∧ Q (.str (Str.ofString (toString i))) H) (tCons (tOp (rIx K) (tVar 1) (tVar 4)) tNil))) (tCons (tOp rAddS (tOp rAddS (tCB (fun xs H Q => ∃ i, xs = [.int i] ∧ i.natAbs.log2 < 1920 ∧ Q (.str (Str.ofString (toString i))) H) (tCons (tVar 5) tNil)) (tC (.str "/"))) (tCB (fun xs H Q => ∃ i, xs = [.int i] ∧ i.natAbs.log2 < 1920 ∧ Q (.str (Str.ofString (toString i))) H) (tCons (tOp (rIx K) (tOp (rIx K) (tVar 0) (tC (.int 1))) (tVar 4)) tNil))) tNil))) tNil)))) (t__law_text_1 K))
theorem s__law_text_2 (K : PySem.W.Frag) : SndS K (t__law_text_2 K) 0 f__law_text_2 := by
  unfold f__law_text_2
  exact (snds_seq (snds_for (vs := [4, 5]) (N := 1000000) (sndi_enum snd_var) (sndg_tup (sndgs_cons (sndg_name (by decide)) (sndgs_cons (sndg_name (by decide)) sndgs_nil)) (gs_lenS gN_some (gs_lenS gN_some gs_len0))) (snds_extM (SndL.d (sndl_lst (sndd_cons (snd_if (sndt_test (snd_op ops_is (snd_op ops_ix snd_var snd_var) snd_non)) snd_str (snd_strI (snd_op ops_ix snd_var snd_var))) (sndd_cons (snd_op ops_addS (snd_op ops_addS (snd_strI snd_var) snd_str) (snd_strI (snd_op ops_ix (snd_op ops_ix snd_var snd_int) snd_var))) sndd_nil)) (by decide))))) (s__law_text_1 K))
def f__law_text : FS := (sSeq (sOwn (dCons (eBin gIx (eVar 0) (eC (.int 0))) dNil) 3) f__law_text_2)
@[irreducible] def F__law_text : FF := mkF 3 6 f__law_text
def t__law_text (K : PySem.W.Frag) : TS := (tSeq (tAsg (tLst (tCons (tOp (rIx K) (tVar 0) (tC (.int 0))) tNil)) (gName 3)) (t__law_text_2 K))
theorem s__law_text (K : PySem.W.Frag) : SndS K (t__law_text K) 0 f__law_text := (snds_seq (snds_own (sndl_lst (sndd_cons (snd_op ops_ix snd_var snd_int) sndd_nil) (by decide))) (s__law_text_2 K))
theorem m__law_text (K : PySem.W.Frag) : MonoF F__law_text := by
  unfold F__law_text
  exact mkF_mono (s__law_text K)
end Kc
namespace Kc
open PySem PySem.Spec PyProof.Rows L2 Xg Dv Kd
@[irreducible] def f__law_bin_0 : FS := (sRet (eVar 1))
def t__law_bin_0 (K : PySem.W.Frag) : TS := (tRet (tVar 1))
theorem s__law_bin_0 (K : PySem.W.Frag) : SndS K (t__law_bin_0 K) 0 f__law_bin_0 := by
  unfold f__law_bin_0
  exact (snds_ret snd_var)
@[irreducible] def f__law_bin_1 : FS := (sSeq (sIf (fOr (fTest (eBin gNe (eCB (g1 lenD) (dCons (eVar 1) dNil)) (eC (.int 2)))) (fOr (fTest (eBin gIn (eC .none) (eVar 1))) (fOr (fTest (eBin (gC fun i j => decide (i < j)) (eBin gIx (eVar 1) (eC (.int 1))) (eC (.int 1)))) (fTest (eBin (gC fun i j => decide (j < i)) (eBin gIx (eVar 1) (eC (.int 0))) (eBin gIx (eVar 1) (eC (.int 1)))))))) (sRet (eC .none)) sSkip) f__law_bin_0)
def t__law_bin_1 (K : PySem.W.Frag) : TS := (tSeq (tIfS (tOr (tTest (tOp (rNeX K) (tCB (fun xs H Q => ∃ x n, xs = [x] ∧ LenV K x H n ∧ Q (.int n) H) (tCons (tVar 1) tNil)) (tC (.int 2)))) (tOr (tTest (tOp (rInD K) (tC .non) (tVar 1))) (tOr (tTest (tOp (rI0 fun i j => .bl (decide (i < j))) (tOp (rIx K) (tVar 1) (tC (.int 1))) (tC (.int 1)))) (tTest (tOp (rI0 fun i j => .bl (decide (j < i))) (tOp (rIx K) (tVar 1) (tC (.int 0))) (tOp (rIx K) (tVar 1) (tC (.int 1)))))))) (tRet (tC .non)) tNext) (t__law_bin_0 K))
theorem s__law_bin_1 (K : PySem.W.Frag) : SndS K (t__law_bin_1 K) 0 f__law_bin_1 := by
  unfold f__law_bin_1
  exact (snds_seq (snds_if (sndt_or (sndt_test (snd_op ops_ne (snd_cb cs_len (sndd_cons snd_var sndd_nil)) snd_int)) (sndt_or (sndt_test (snd_op ops_in snd_non snd_var)) (sndt_or (sndt_test (snd_op ops_C (snd_op ops_ix snd_var snd_int) snd_int)) (sndt_test (snd_op ops_C (snd_op ops_ix snd_var snd_int) (snd_op ops_ix snd_var snd_int)))))) (snds_ret snd_non) snds_nil) (s__law_bin_0 K))
def f__law_bin : FS := (sSeq (sAsg (eL (fComp 1000000 (fIt (eL (fSplit (eVar 0) (eC (.str "/"))))) [2] (gN 2) fYes (eCall F__law_number (aCons (eVar 2) (aCons (eC (.int 10)) aNil))))) (gN 1)) f__law_bin_1)
@[irreducible] def F__law_bin : FF := mkF 1 3 f__law_bin
def t__law_bin (K : PySem.W.Frag) : TS := (tSeq (tAsg (tLc (Pw.iSeq K (tM1 rSplit (tVar 0) (tC (.str "/")))) (gName 2) tYes (tCallG (spD K 0 F__law_number) (tCons (tVar 2) (tCons (tC (.int 10)) tNil))) [2]) (gName 1)) (t__law_bin_1 K))
theorem s__law_bin (K : PySem.W.Frag) : SndS K (t__law_bin K) 0 f__law_bin := (snds_seq (snds_asg (vs := [1]) (SndL.d (sndl_comp (N := 1000000) (by decide) (sndi_seq (Snd.v (SndL.d (sndl_split snd_var snd_str)))) (sndg_name (by decide)) sndt_yes (snd_call (m__law_number K) (snda_cons snd_var (snda_cons snd_int snda_nil))))) (sndg_name (by decide))) (s__law_bin_1 K))
theorem m__law_bin (K : PySem.W.Frag) : MonoF F__law_bin := by
  unfold F__law_bin
  exact mkF_mono (s__law_bin K)
end Kc
namespace Kc
open PySem PySem.Spec PyProof.Rows L2 Xg Dv Kd
@[irreducible] def f__law_read_0 : FS := (sApp 3 (eIf (fTest (eBin gEq (eVar 6) (eC (.str "~")))) (eC .none) (eIntT (eVar 6))))
def t__law_read_0 (K : PySem.W.Frag) : TS := (tDrop (tBM K "list" rAppend (tVar 3) (tCons (tIf (tTest (tOp (rEqX K) (tVar 6) (tC (.str "~")))) (tC .non) (tCB (fun xs H Q => ∃ a n, xs = [.str a] ∧ PySem.intText? a = some n ∧ a.length ≤ 640 ∧ Q (.int n) H) (tCons (tVar 6) tNil))) tNil)))
theorem s__law_read_0 (K : PySem.W.Frag) : SndS K (t__law_read_0 K) 0 f__law_read_0 := by
  unfold f__law_read_0
  exact (snds_app (snd_if (sndt_test (snd_op ops_eq snd_var snd_str)) snd_non (snd_intT snd_var)))
@[irreducible] def f__law_read_1 : FS := (sApp 2 (eBin gIx (eVar 8) (eC (.int 1))))
def t__law_read_1 (K : PySem.W.Frag) : TS := (tDrop (tBM K "list" rAppend (tVar 2) (tCons (tOp (rIx K) (tVar 8) (tC (.int 1))) tNil)))
theorem s__law_read_1 (K : PySem.W.Frag) : SndS K (t__law_read_1 K) 0 f__law_read_1 := by
  unfold f__law_read_1
  exact (snds_app (snd_op ops_ix snd_var snd_int))
@[irreducible] def f__law_read_2 : FS := (sSeq (sApp 4 (eBin gIx (eVar 8) (eC (.int 0)))) f__law_read_1)
def t__law_read_2 (K : PySem.W.Frag) : TS := (tSeq (tDrop (tBM K "list" rAppend (tVar 4) (tCons (tOp (rIx K) (tVar 8) (tC (.int 0))) tNil))) (t__law_read_1 K))
theorem s__law_read_2 (K : PySem.W.Frag) : SndS K (t__law_read_2 K) 0 f__law_read_2 := by
  unfold f__law_read_2
  exact (snds_seq (snds_app (snd_op ops_ix snd_var snd_int)) (s__law_read_1 K))
@[irreducible] def f__law_read_3 : FS := (sSeq (sIf (fTest (eBin gIs (eVar 8) (eC .none))) (sRet (eBin gAdd (eVar 5) (eC (.int 1)))) sSkip) f__law_read_2)
def t__law_read_3 (K : PySem.W.Frag) : TS := (tSeq (tIfS (tTest (tOp (fun x y H Q => y = .non ∧ Q (.bl (decide (x = .non))) H) (tVar 8) (tC .non))) (tRet (tOp (rAdd K) (tVar 5) (tC (.int 1)))) tNext) (t__law_read_2 K))
theorem s__law_read_3 (K : PySem.W.Frag) : SndS K (t__law_read_3 K) 0 f__law_read_3 := by
  unfold f__law_read_3
  exact (snds_seq (snds_if (sndt_test (snd_op ops_is snd_var snd_non)) (snds_ret (snd_op ops_add snd_var snd_int)) snds_nil) (s__law_read_2 K))
@[irreducible] def f__law_read_4 : FS := (sRet (eTup (dCons (eTup (dCons (eBin gIx (eVar 1) (eC (.int 0))) (dCons (eUn tupD (eVarV 2)) dNil))) (dCons (eUn tupD (eVarV 3)) (dCons (eUn tupD (eVarV 4)) dNil)))))
def t__law_read_4 (K : PySem.W.Frag) : TS := (tRet (tTup (tCons (tTup (tCons (tOp (rIx K) (tVar 1) (tC (.int 0))) (tCons (tThen (tVar 2) (kTup K)) tNil))) (tCons (tThen (tVar 3) (kTup K)) (tCons (tThen (tVar 4) (kTup K)) tNil)))))
theorem s__law_read_4 (K : PySem.W.Frag) : SndS K (t__law_read_4 K) 0 f__law_read_4 := by
  unfold f__law_read_4
  exact (snds_ret (snd_tup (sndd_cons (snd_tup (sndd_cons (snd_op ops_ix snd_var snd_int) (sndd_cons (snd_tupOf sndV_var) sndd_nil)) (by decide)) (sndd_cons (snd_tupOf sndV_var) (sndd_cons (snd_tupOf sndV_var) sndd_nil))) (by decide)))
@[irreducible] def f__law_read_5 : FS := (sSeq (sIf (fOr (fTest (eBin (gC fun i j => decide (i < j)) (eCB (g1 lenD) (dCons (eVarV 2) dNil)) (eVar 7))) (fTest (eBin gNe (eCB (g1 lenD) (dCons (eVarV 3) dNil)) (eBin gAdd (eCB (g1 lenD) (dCons (eVarV 2) dNil)) (eCB (g1 intD) (dCons (eBin gEq (eBin gIx (eVar 1) (eC (.int 0))) (eC (.str "row"))) dNil)))))) (sRet (eCB (g1 lenD) (dCons (eVar 1) dNil))) sSkip) f__law_read_4)
def t__law_read_5 (K : PySem.W.Frag) : TS := (tSeq (tIfS (tOr (tTest (tOp (rI0 fun i j => .bl (decide (i < j))) (tCB (fun xs H Q => ∃ x n, xs = [x] ∧ LenV K x H n ∧ Q (.int n) H) (tCons (tVar 2) tNil)) (tVar 7))) (tTest (tOp (rNeX K) (tCB (fun xs H Q => ∃ x n, xs = [x] ∧ LenV K x H n ∧ Q (.int n) H) (tCons (tVar 3) tNil)) (tOp (rAdd K) (tCB (fun xs H Q => ∃ x n, xs = [x] ∧ LenV K x H n ∧ Q (.int n) H) (tCons (tVar 2) tNil)) (tCB (fun xs H Q => (∃ i, xs = [.int i] ∧ Q (.int i) H) ∨ ∃ k, xs = [.bl k] ∧ Q (.int (if k then 1 else 0)) H) (tCons (tOp (rEqX K) (tOp (rIx K) (tVar 1) (tC (.int 0))) (tC (.str "row"))) tNil)))))) (tRet (tCB (fun xs H Q => ∃ x n, xs = [x] ∧ LenV K x H n ∧ Q (.int n) H) (tCons (tVar 1) tNil))) tNext) (t__law_read_4 K))
theorem s__law_read_5 (K : PySem.W.Frag) : SndS K (t__law_read_5 K) 0 f__law_read_5 := by
  unfold f__law_read_5
  exact (snds_seq (snds_if (sndt_or (sndt_test (snd_op ops_C (snd_cb cs_len (sndd_cons sndV_var sndd_nil)) snd_var)) (sndt_test (snd_op ops_ne (snd_cb cs_len (sndd_cons sndV_var sndd_nil)) (snd_op ops_add (snd_cb cs_len (sndd_cons sndV_var sndd_nil)) (snd_cb cs_int (sndd_cons (snd_op ops_eq (snd_op ops_ix snd_var snd_int) snd_str) sndd_nil)))))) (snds_ret (snd_cb cs_len (sndd_cons snd_var sndd_nil))) snds_nil) (s__law_read_4 K))
@[irreducible] def f__law_read_6 : FS := (sSeq (sAsg (eIf (fTest (eBin gEq (eBin gIx (eVar 1) (eC (.int 0))) (eC (.str "row")))) (eC (.int 1)) (eC (.int 2))) (gN 7)) f__law_read_5)
def t__law_read_6 (K : PySem.W.Frag) : TS := (tSeq (tAsg (tIf (tTest (tOp (rEqX K) (tOp (rIx K) (tVar 1) (tC (.int 0))) (tC (.str "row")))) (tC (.int 1)) (tC (.int 2))) (gName 7)) (t__law_read_5 K))
theorem s__law_read_6 (K : PySem.W.Frag) : SndS K (t__law_read_6 K) 0 f__law_read_6 := by
  unfold f__law_read_6
  exact (snds_seq (snds_asg (vs := [7]) (snd_if (sndt_test (snd_op ops_eq (snd_op ops_ix snd_var snd_int) snd_str)) snd_int snd_int) (sndg_name (by decide))) (s__law_read_5 K))
@[irreducible] def f__law_read_7 : FS := (sSeq (sFor 1000000 (fEnum (eSl (eVar 1) (oSome (eC (.int 1))) oNone)) (gT (gsCons (gN 5) (gsCons (gN 6) gsNil))) (sIf (fTest (eBin gEq (eBin (gIc (fun _ j => 0 < j) fun i j => i % j) (eVar 5) (eC (.int 2))) (eC (.int 0)))) (sSeq (sIf (fAnd (fTest (eBin gNe (eVar 6) (eC (.str "~")))) (fTest (eBin gIs (eCall F__law_number (aCons (eVar 6) (aCons (eC (.int 10)) aNil))) (eC .none)))) (sRet (eBin gAdd (eVar 5) (eC (.int 1)))) sSkip) f__law_read_0) (sSeq (sAsg (eCall F__law_bin (aCons (eVar 6) aNil)) (gN 8)) f__law_read_3))) f__law_read_6)
def t__law_read_7 (K : PySem.W.Frag) : TS := (tSeq (tFor (Pw.iEnumX K (tCons (tSl (rSlX K) (tVar 1) (tPart (tC (.int 1))) tNoPart) tNil)) (fun v σ H Q => gTup K 2 (gCons (gName 5) (gCons (gName 6) gNil)) v σ H Q ∨ gLst K 2 (gCons (gName 5) (gCons (gName 6) gNil)) v σ H Q) (tIfS (tTest (tOp (rEqX K) (tOp (rI (fun _ j => 0 < j) fun i j => .int (i % j)) (tVar 5) (tC (.int 2))) (tC (.int 0)))) (tSeq (tIfS (tAnd (tTest (tOp (rNeX K) (tVar 6) (tC (.str "~")))) (tTest (tOp (fun x y H Q => y = .non ∧ Q (.bl (decide (x = .non))) H) (tCallG (spD K 0 F__law_number) (tCons (tVar 6) (tCons (tC (.int 10)) tNil))) (tC .non)))) (tRet (tOp (rAdd K) (tVar 5) (tC (.int 1)))) tNext) (t__law_read_0 K)) (tSeq (tAsg (tCallG (spD K 0 F__law_bin) (tCons (tVar 6) tNil)) (gName 8)) (t__law_read_3 K)))) (t__law_read_6 K))
theorem s__law_read_7 (K : PySem.W.Frag) : SndS K (t__law_read_7 K) 0 f__law_read_7 := by
  unfold f__law_read_7
  exact (snds_seq (snds_for (vs := [5, 6]) (N := 1000000) (sndi_enum (snd_sl snd_var (sndo_some snd_int) sndo_none)) (sndg_tup (sndgs_cons (sndg_name (by decide)) (sndgs_cons (sndg_name (by decide)) sndgs_nil)) (gs_lenS gN_some (gs_lenS gN_some gs_len0))) (snds_if (sndt_test (snd_op ops_eq (snd_op ops_Ic snd_var snd_int) snd_int)) (snds_seq (snds_if (sndt_and (sndt_test (snd_op ops_ne snd_var snd_str)) (sndt_test (snd_op ops_is (snd_call (m__law_number K) (snda_cons snd_var (snda_cons snd_int snda_nil))) snd_non))) (snds_ret (snd_op ops_add snd_var snd_int)) snds_nil) (s__law_read_0 K)) (snds_seq (snds_asg (vs := [8]) (snd_call (m__law_bin K) (snda_cons snd_var snda_nil)) (sndg_name (by decide))) (s__law_read_3 K)))) (s__law_read_6 K))
@[irreducible] def f__law_read_8 : FS := (sSeq (sIf (fTest (eBin gNotInTS (eBin gIx (eVar 1) (eC (.int 0))) (eTup (dCons (eC (.str "row")) (dCons (eC (.str "ring")) dNil))))) (sRet (eC (.int 0))) sSkip) f__law_read_7)
def t__law_read_8 (K : PySem.W.Frag) : TS := (tSeq (tIfS (tTest (tOp (rIn K true) (tOp (rIx K) (tVar 1) (tC (.int 0))) (tTup (tCons (tC (.str "row")) (tCons (tC (.str "ring")) tNil))))) (tRet (tC (.int 0))) tNext) (t__law_read_7 K))
theorem s__law_read_8 (K : PySem.W.Frag) : SndS K (t__law_read_8 K) 0 f__law_read_8 := by
  unfold f__law_read_8
  exact (snds_seq (snds_if (sndt_test (snd_op ops_notInTS (snd_op ops_ix snd_var snd_int) (snd_tup (sndd_cons snd_str (sndd_cons snd_str sndd_nil)) (by decide)))) (snds_ret snd_int) snds_nil) (s__law_read_7 K))
def f__law_read : FS := (sSeq (sTupO3 1 2 3 4 (eL (fSplit (eVar 0) (eC (.str " "))))) f__law_read_8)
@[irreducible] def F__law_read : FF := mkF 1 9 f__law_read
def t__law_read (K : PySem.W.Frag) : TS := (tSeq (tAsg (tTup (tCons (tM1 rSplit (tVar 0) (tC (.str " "))) (tCons (tLst tNil) (tCons (tLst tNil) (tCons (tLst tNil) tNil))))) (gTup K 4 (gCons (gName 1) (gCons (gName 2) (gCons (gName 3) (gCons (gName 4) gNil)))))) (t__law_read_8 K))
theorem s__law_read (K : PySem.W.Frag) : SndS K (t__law_read K) 0 f__law_read := (snds_seq (snds_tupO3 (SndL.d (sndl_split snd_var snd_str))) (s__law_read_8 K))
theorem m__law_read (K : PySem.W.Frag) : MonoF F__law_read := by
  unfold F__law_read
  exact mkF_mono (s__law_read K)
end Kc
namespace Kc
open PySem PySem.Spec PyProof.Rows L2 Xg Dv Kd
@[irreducible] def f__law_told_0 : FS := (sRet (eIf (fAnd (fTru (eVar 3)) (fNot (fTest (Ex.eIsT ["BadWord"] 2 ["BadDeed", "BadRow", "NoStep", "NotAlike", "Unlike"])))) (Ex.eGetE ["BadWord"] "at" 2) (eC .none)))
def t__law_told_0 (K : PySem.W.Frag) : TS := (tRet (tIf (tAnd (fun σ H Q => (tVar 3) σ H fun x H' => ∃ k, TruV K x H' k ∧ Q k H') (tNot (tB (Ex.tIsT K ["BadWord"] 2 ["BadDeed", "BadRow", "NoStep", "NotAlike", "Unlike"])))) (Ex.tGetE K ["BadWord"] "at" 2) (tC .non)))
theorem s__law_told_0 (K : PySem.W.Frag) : SndS K (t__law_told_0 K) 0 f__law_told_0 := by
  unfold f__law_told_0
  exact (snds_ret (snd_if (sndt_and (sndt_tru snd_var) (sndt_not (sndt_B (Ex.snd_isT (by decide))))) Ex.snd_getE snd_non))
@[irreducible] def f__law_told_1 : FS := (sSeq (sAsg (eAnd (Ex.eIsE ["BadWord"] 2 "BadWord") (Ex.eIsB ["BadWord"] 2)) (gN 3)) f__law_told_0)
def t__law_told_1 (K : PySem.W.Frag) : TS := (tSeq (tAsg (tAndV (Ex.tIsE K ["BadWord"] 2 "BadWord") (Ex.tIsB K ["BadWord"] 2 "ValueError")) (gName 3)) (t__law_told_0 K))
theorem s__law_told_1 (K : PySem.W.Frag) : SndS K (t__law_told_1 K) 0 f__law_told_1 := by
  unfold f__law_told_1
  exact (snds_seq (snds_asg (vs := [3]) (snd_and Ex.snd_isE Ex.snd_isB) (sndg_name (by decide))) (s__law_told_0 K))
@[irreducible] def f__law_told_2 : FS := (sSeq (sIf (fTest (Ex.eIsNE 2)) (sRet (eVar 1)) sSkip) f__law_told_1)
def t__law_told_2 (K : PySem.W.Frag) : TS := (tSeq (tIfS (tTest (tOp (fun x y H Q => y = .non ∧ Q (.bl (decide (x = .non))) H) (tVar 2) (tC .non))) (tRet (tVar 1)) tNext) (t__law_told_1 K))
theorem s__law_told_2 (K : PySem.W.Frag) : SndS K (t__law_told_2 K) 0 f__law_told_2 := by
  unfold f__law_told_2
  exact (snds_seq (snds_if (sndt_test Ex.snd_isNE) (snds_ret snd_var) snds_nil) (s__law_told_1 K))
@[irreducible] def f__law_told_3 : FS := (sSeq (Ex.sTry ["BadWord"] 4 2 (Ex.bAsg 1 F_line_in R_line_in (aCons (eVar 0) aNil))) f__law_told_2)
def t__law_told_3 (K : PySem.W.Frag) : TS := (tSeq (Ex.tGivenS (∀ x ∈ (["BadWord"] : List Str), ExcC K (Ex.ca K x)) (Ex.tTryK K ["BadWord"] 4 2 fun W => (tAsg (Ex.tCallB (spD K 0 F_line_in) (Ex.spR K 0 R_line_in) (L2.WE W) (tCons (tVar 0) tNil)) (gName 1)))) (t__law_told_2 K))
theorem s__law_told_3 (K : PySem.W.Frag) : SndS K (t__law_told_3 K) 0 f__law_told_3 := by
  unfold f__law_told_3
  exact (snds_seq (Ex.snds_try (by decide) (Ex.sndb_asg (m_line_in K) (mR_line_in K) (snda_cons snd_var snda_nil))) (s__law_told_2 K))
def f__law_told : FS := (sSeq (sAsg (eTup (dCons (eC .none) (dCons (eC .none) dNil))) (gT (gsCons (gN 1) (gsCons (gN 2) gsNil)))) f__law_told_3)
@[irreducible] def F__law_told : FF := mkF 1 5 f__law_told
def t__law_told (K : PySem.W.Frag) : TS := (tSeq (tAsg (tTup (tCons (tC .non) (tCons (tC .non) tNil))) (fun v σ H Q => gTup K 2 (gCons (gName 1) (gCons (gName 2) gNil)) v σ H Q ∨ gLst K 2 (gCons (gName 1) (gCons (gName 2) gNil)) v σ H Q)) (t__law_told_3 K))
theorem s__law_told (K : PySem.W.Frag) : SndS K (t__law_told K) 0 f__law_told := (snds_seq (snds_asg (vs := [1, 2]) (snd_tup (sndd_cons snd_non (sndd_cons snd_non sndd_nil)) (by decide)) (sndg_tup (sndgs_cons (sndg_name (by decide)) (sndgs_cons (sndg_name (by decide)) sndgs_nil)) (gs_lenS gN_some (gs_lenS gN_some gs_len0)))) (s__law_told_3 K))
theorem m__law_told (K : PySem.W.Frag) : MonoF F__law_told := by
  unfold F__law_told
  exact mkF_mono (s__law_told K)
end Kc
namespace Kc
open PySem PySem.Spec PyProof.Rows L2 Xg Dv Kd
@[irreducible] def f__law_right_0 : FS := (sApp 6 (eIf (fTest (eBin gEq (eCall F_take (aBox 0 (aCons (eC (.int 3)) aNil))) (eC (.int 0)))) (eCall F__law_spoilt (aBox 0 (aCons (eVar 8) aNil))) (eVar 8)))
def t__law_right_0 (K : PySem.W.Frag) : TS := (tDrop (tBM K "list" rAppend (tVar 6) (tCons (tIf (tTest (tOp (rEqX K) (tCallG (spD K 1 F_take) (tCons (tVar 0) (tCons (tC (.int 3)) tNil))) (tC (.int 0)))) (tCallG (spD K 7 F__law_spoilt) (tCons (tVar 0) (tCons (tVar 8) tNil))) (tVar 8)) tNil)))
theorem s__law_right_0 (K : PySem.W.Frag) : SndS K (t__law_right_0 K) 8 f__law_right_0 := by
  unfold f__law_right_0
  exact (snds_app (snd_if (sndt_test (snd_op ops_eq (snd_call m_take (snda_box (snda_cons snd_int snda_nil))) snd_int)) (snd_call (m__law_spoilt K) (snda_box (snda_cons snd_var snda_nil))) snd_var))
@[irreducible] def f__law_right_1 : FS := (sRet (eCB allD (dCons (eL (fComp 1000000 (fIt (eVarV 6)) [8] (gN 8) fYes (eCall F_same (aCons (eCall F__law_told (aCons (eVar 8) aNil)) (aCons (eCall F__law_read (aCons (eVar 8) aNil)) aNil))))) dNil)))
def t__law_right_1 (K : PySem.W.Frag) : TS := (tRet (tCB (rAll K) (tCons (tLc (Pw.iSeq K (tVar 6)) (gName 8) tYes (tCallG (spD K 0 F_same) (tCons (tCallG (spD K 0 F__law_told) (tCons (tVar 8) tNil)) (tCons (tCallG (spD K 0 F__law_read) (tCons (tVar 8) tNil)) tNil))) [8]) tNil)))
theorem s__law_right_1 (K : PySem.W.Frag) : SndS K (t__law_right_1 K) 0 f__law_right_1 := by
  unfold f__law_right_1
  exact (snds_ret (snd_cb cs_all (sndd_cons (SndL.d (sndl_comp (N := 1000000) (by decide) (sndi_seq sndV_var) (sndg_name (by decide)) sndt_yes (snd_call m_same (snda_cons (snd_call (m__law_told K) (snda_cons snd_var snda_nil)) (snda_cons (snd_call (m__law_read K) (snda_cons snd_var snda_nil)) snda_nil))))) sndd_nil)))
@[irreducible] def f__law_right_2 : FS := (sSeq (sFor 12 (fRange1 (eC (.int 12))) (gN 7) (sSeq (sAsg (eCall F__law_spoilt (aBox 0 (aCons (eVar 4) aNil))) (gN 8)) f__law_right_0)) f__law_right_1)
def t__law_right_2 (K : PySem.W.Frag) : TS := (tSeq (tFor (iRng1 (tCons (tC (.int 12)) tNil)) (gName 7) (tSeq (tAsg (tCallG (spD K 7 F__law_spoilt) (tCons (tVar 0) (tCons (tVar 4) tNil))) (gName 8)) (t__law_right_0 K))) (t__law_right_1 K))
theorem s__law_right_2 (K : PySem.W.Frag) : SndS K (t__law_right_2 K) 180 f__law_right_2 := by
  unfold f__law_right_2
  exact (snds_seq (snds_for (vs := [7]) (N := 12) (sndi_range1 snd_int) (sndg_name (by decide)) (snds_seq (snds_asg (vs := [8]) (snd_call (m__law_spoilt K) (snda_box (snda_cons snd_var snda_nil))) (sndg_name (by decide))) (s__law_right_0 K))) (s__law_right_1 K))
@[irreducible] def f__law_right_3 : FS := (sSeq (sOwn (fCat (eVarV 6) (eLst (dCons (eC (.str "row 1 0/0 1")) (dCons (eC (.str "row ~ 1/1 ~")) (dCons (eC (.str "ring 0 0/1 0 0/1 0")) dNil))))) 6) f__law_right_2)
def t__law_right_3 (K : PySem.W.Frag) : TS := (tSeq (tAsg (tOp rCat (tVar 6) (tLst (tCons (tC (.str "row 1 0/0 1")) (tCons (tC (.str "row ~ 1/1 ~")) (tCons (tC (.str "ring 0 0/1 0 0/1 0")) tNil))))) (gName 6)) (t__law_right_2 K))
theorem s__law_right_3 (K : PySem.W.Frag) : SndS K (t__law_right_3 K) 180 f__law_right_3 := by
  unfold f__law_right_3
  exact (snds_seq (snds_own (sndl_cat sndV_var (SndL.d (sndl_lst (sndd_cons snd_str (sndd_cons snd_str (sndd_cons snd_str sndd_nil))) (by decide))))) (s__law_right_2 K))
@[irreducible] def f__law_right_4 : FS := (sSeq (sOwn (dCons (eC (.str "")) (dCons (eC (.str "row")) (dCons (eC (.str "ring")) (dCons (eC (.str "row 1")) (dCons (eC (.str "row 1 0/2")) (dCons (eC (.str "ring 1 0/2")) (dCons (eC (.str "ring 1 0/2 1")) (dCons (eC (.str "row  1 0/2 1")) (dCons (eBin gAddS (eC (.str " ")) (eVar 4)) dNil))))))))) 6) f__law_right_3)
def t__law_right_4 (K : PySem.W.Frag) : TS := (tSeq (tAsg (tLst (tCons (tC (.str "")) (tCons (tC (.str "row")) (tCons (tC (.str "ring")) (tCons (tC (.str "row 1")) (tCons (tC (.str "row 1 0/2")) (tCons (tC (.str "ring 1 0/2")) (tCons (tC (.str "ring 1 0/2 1")) (tCons (tC (.str "row  1 0/2 1")) (tCons (tOp rAddS (tC (.str " ")) (tVar 4)) tNil)))))))))) (gName 6)) (t__law_right_3 K))
theorem s__law_right_4 (K : PySem.W.Frag) : SndS K (t__law_right_4 K) 180 f__law_right_4 := by
  unfold f__law_right_4
  exact (snds_seq (snds_own (sndl_lst (sndd_cons snd_str (sndd_cons snd_str (sndd_cons snd_str (sndd_cons snd_str (sndd_cons snd_str (sndd_cons snd_str (sndd_cons snd_str (sndd_cons snd_str (sndd_cons (snd_op ops_addS snd_str snd_var) sndd_nil))))))))) (by decide))) (s__law_right_3 K))
@[irreducible] def f__law_right_5 : FS := (sSeq (sIf (fNot (fTest (eCall F_same (aCons (eLst (dCons (eCall F__law_told (aCons (eVar 4) aNil)) (dCons (eCall F__law_read (aCons (eVar 4) aNil)) dNil))) (aCons (eBin gMul (eLst (dCons (eTup (dCons (eVar 1) (dCons (eVar 2) (dCons (eVar 3) dNil)))) dNil)) (eC (.int 2))) aNil))))) (sRet (eC (.bool false))) sSkip) f__law_right_4)
def t__law_right_5 (K : PySem.W.Frag) : TS := (tSeq (tIfS (tNot (tB (tCallG (spD K 0 F_same) (tCons (tLst (tCons (tCallG (spD K 0 F__law_told) (tCons (tVar 4) tNil)) (tCons (tCallG (spD K 0 F__law_read) (tCons (tVar 4) tNil)) tNil))) (tCons (tOp (rMul K) (tLst (tCons (tTup (tCons (tVar 1) (tCons (tVar 2) (tCons (tVar 3) tNil)))) tNil)) (tC (.int 2))) tNil))))) (tRet (tC (.bl false))) tNext) (t__law_right_4 K))
theorem s__law_right_5 (K : PySem.W.Frag) : SndS K (t__law_right_5 K) 180 f__law_right_5 := by
  unfold f__law_right_5
  exact (snds_seq (snds_if (sndt_not (sndt_B (snd_call m_same (snda_cons (SndL.d (sndl_lst (sndd_cons (snd_call (m__law_told K) (snda_cons snd_var snda_nil)) (sndd_cons (snd_call (m__law_read K) (snda_cons snd_var snda_nil)) sndd_nil)) (by decide))) (snda_cons (snd_op ops_mul (SndL.d (sndl_lst (sndd_cons (snd_tup (sndd_cons snd_var (sndd_cons snd_var (sndd_cons snd_var sndd_nil))) (by decide)) sndd_nil) (by decide))) snd_int) snda_nil))))) (snds_ret snd_bl) snds_nil) (s__law_right_4 K))
@[irreducible] def f__law_right_6 : FS := (sSeq (sIf (fNot (fTest (eCall F_same (aCons (eLst (dCons (eCall F_line_text (aCons (eVar 1) (aCons (eVar 2) (aCons (eVar 3) aNil)))) (dCons (eCall F_line_text (aCons (eBin gIx (eVar 5) (eC (.int 0))) (aCons (eBin gIx (eVar 5) (eC (.int 1))) (aCons (eBin gIx (eVar 5) (eC (.int 2))) aNil)))) dNil))) (aCons (eLst (dCons (eVar 4) (dCons (eVar 4) dNil))) aNil))))) (sRet (eC (.bool false))) sSkip) f__law_right_5)
def t__law_right_6 (K : PySem.W.Frag) : TS := (tSeq (tIfS (tNot (tB (tCallG (spD K 0 F_same) (tCons (tLst (tCons (tCallG (spD K 0 F_line_text) (tCons (tVar 1) (tCons (tVar 2) (tCons (tVar 3) tNil)))) (tCons (tCallG (spD K 0 F_line_text) (tCons (tOp (rIx K) (tVar 5) (tC (.int 0))) (tCons (tOp (rIx K) (tVar 5) (tC (.int 1))) (tCons (tOp (rIx K) (tVar 5) (tC (.int 2))) tNil)))) tNil))) (tCons (tLst (tCons (tVar 4) (tCons (tVar 4) tNil))) tNil))))) (tRet (tC (.bl false))) tNext) (t__law_right_5 K))
theorem s__law_right_6 (K : PySem.W.Frag) : SndS K (t__law_right_6 K) 180 f__law_right_6 := by
  unfold f__law_right_6
  exact (snds_seq (snds_if (sndt_not (sndt_B (snd_call m_same (snda_cons (SndL.d (sndl_lst (sndd_cons (snd_call (m_line_text K) (snda_cons snd_var (snda_cons snd_var (snda_cons snd_var snda_nil)))) (sndd_cons (snd_call (m_line_text K) (snda_cons (snd_op ops_ix snd_var snd_int) (snda_cons (snd_op ops_ix snd_var snd_int) (snda_cons (snd_op ops_ix snd_var snd_int) snda_nil)))) sndd_nil)) (by decide))) (snda_cons (SndL.d (sndl_lst (sndd_cons snd_var (sndd_cons snd_var sndd_nil)) (by decide))) snda_nil))))) (snds_ret snd_bl) snds_nil) (s__law_right_5 K))
@[irreducible] def f__law_right_7 : FS := (sSeq (sAsg (eTup (dCons (eLst (dCons (eBin gIx (eVar 1) (eC (.int 0))) (dCons (eL (fListOf (eBin gIx (eVar 1) (eC (.int 1))))) dNil))) (dCons (eL (fListOf (eVar 2))) (dCons (eL (fListOf (eVar 3))) dNil)))) (gN 5)) f__law_right_6)
def t__law_right_7 (K : PySem.W.Frag) : TS := (tSeq (tAsg (tTup (tCons (tLst (tCons (tOp (rIx K) (tVar 1) (tC (.int 0))) (tCons (tCB (fun xs H Q => ∃ p ys, xs = [.ref p] ∧ (SqL K H p ys ∨ SqT K H p ys) ∧ ∀ l, H l = none → Q (.ref l) (upd H l (.lst ys))) (tCons (tOp (rIx K) (tVar 1) (tC (.int 1))) tNil)) tNil))) (tCons (tCB (fun xs H Q => ∃ p ys, xs = [.ref p] ∧ (SqL K H p ys ∨ SqT K H p ys) ∧ ∀ l, H l = none → Q (.ref l) (upd H l (.lst ys))) (tCons (tVar 2) tNil)) (tCons (tCB (fun xs H Q => ∃ p ys, xs = [.ref p] ∧ (SqL K H p ys ∨ SqT K H p ys) ∧ ∀ l, H l = none → Q (.ref l) (upd H l (.lst ys))) (tCons (tVar 3) tNil)) tNil)))) (gName 5)) (t__law_right_6 K))
theorem s__law_right_7 (K : PySem.W.Frag) : SndS K (t__law_right_7 K) 180 f__law_right_7 := by
  unfold f__law_right_7
  exact (snds_seq (snds_asg (vs := [5]) (snd_tup (sndd_cons (SndL.d (sndl_lst (sndd_cons (snd_op ops_ix snd_var snd_int) (sndd_cons (SndL.d (sndl_listOf (snd_op ops_ix snd_var snd_int))) sndd_nil)) (by decide))) (sndd_cons (SndL.d (sndl_listOf snd_var)) (sndd_cons (SndL.d (sndl_listOf snd_var)) sndd_nil))) (by decide)) (sndg_name (by decide))) (s__law_right_6 K))
@[irreducible] def f__law_right_8 : FS := (sSeq (sAsg (eCall F__law_text (aCons (eVar 1) (aCons (eVar 2) (aCons (eVar 3) aNil)))) (gN 4)) f__law_right_7)
def t__law_right_8 (K : PySem.W.Frag) : TS := (tSeq (tAsg (tCallG (spD K 0 F__law_text) (tCons (tVar 1) (tCons (tVar 2) (tCons (tVar 3) tNil)))) (gName 4)) (t__law_right_7 K))
theorem s__law_right_8 (K : PySem.W.Frag) : SndS K (t__law_right_8 K) 180 f__law_right_8 := by
  unfold f__law_right_8
  exact (snds_seq (snds_asg (vs := [4]) (snd_call (m__law_text K) (snda_cons snd_var (snda_cons snd_var (snda_cons snd_var snda_nil)))) (sndg_name (by decide))) (s__law_right_7 K))
@[irreducible] def f__law_right_9 : FS := (sSeq (sPar 2 3 (eCall F__law_widths (aBox 0 (aCons (eVar 1) (aCons (eCall F__law_pick (aBox 0 (aCons (eLst (dCons (eC (.int 12)) (dCons (eBin (gIc CPow fun i j => i ^ j.toNat) (eC (.int 10)) (eC (.int 9))) dNil))) aNil))) aNil)))) (eCall F__law_lying (aBox 0 (aCons (eVar 1) aNil)))) f__law_right_8)
def t__law_right_9 (K : PySem.W.Frag) : TS := (tSeq (tPar 2 3 (tCons (tCallG (spD K 202 F__law_widths) (tCons (tVar 0) (tCons (tVar 1) (tCons (tCallG (spD K 1 F__law_pick) (tCons (tVar 0) (tCons (tLst (tCons (tC (.int 12)) (tCons (tOp (rI CPow fun i j => .int (i ^ j.toNat)) (tC (.int 10)) (tC (.int 9))) tNil))) tNil))) tNil)))) (tCons (tCallG (spD K 301 F__law_lying) (tCons (tVar 0) (tCons (tVar 1) tNil))) tNil))) (t__law_right_8 K))
theorem s__law_right_9 (K : PySem.W.Frag) : SndS K (t__law_right_9 K) 684 f__law_right_9 := by
  unfold f__law_right_9
  exact (snds_seq (snds_par (snd_call (m__law_widths K) (snda_box (snda_cons snd_var (snda_cons (snd_call (m__law_pick K) (snda_box (snda_cons (SndL.d (sndl_lst (sndd_cons snd_int (sndd_cons (snd_op ops_Ic snd_int snd_int) sndd_nil)) (by decide))) snda_nil))) snda_nil)))) (snd_call (m__law_lying K) (snda_box (snda_cons snd_var snda_nil)))) (s__law_right_8 K))
def f__law_right : FS := (sSeq (sAsg (eCall F__law_line (aBox 0 (aCons (eC (.int 4)) (aCons (eCall F__law_pick (aBox 0 (aCons (eLst (dCons (eC (.int 9)) (dCons (eBin (gIc CPow fun i j => i ^ j.toNat) (eC (.int 10)) (eC (.int 9))) dNil))) aNil))) aNil)))) (gN 1)) f__law_right_9)
@[irreducible] def F__law_right : FF := mkF 1 9 f__law_right
def t__law_right (K : PySem.W.Frag) : TS := (tSeq (tAsg (tCallG (spD K 103 F__law_line) (tCons (tVar 0) (tCons (tC (.int 4)) (tCons (tCallG (spD K 1 F__law_pick) (tCons (tVar 0) (tCons (tLst (tCons (tC (.int 9)) (tCons (tOp (rI CPow fun i j => .int (i ^ j.toNat)) (tC (.int 10)) (tC (.int 9))) tNil))) tNil))) tNil)))) (gName 1)) (t__law_right_9 K))
theorem s__law_right (K : PySem.W.Frag) : SndS K (t__law_right K) 788 f__law_right := (snds_seq (snds_asg (vs := [1]) (snd_call (m__law_line K) (snda_box (snda_cons snd_int (snda_cons (snd_call (m__law_pick K) (snda_box (snda_cons (SndL.d (sndl_lst (sndd_cons snd_int (sndd_cons (snd_op ops_Ic snd_int snd_int) sndd_nil)) (by decide))) snda_nil))) snda_nil)))) (sndg_name (by decide))) (s__law_right_9 K))
theorem m__law_right (K : PySem.W.Frag) : MonoF F__law_right := by
  unfold F__law_right
  exact mkF_mono (s__law_right K)
end Kc
namespace Kc
open PySem PySem.Spec PyProof.Rows L2 Xg Dv Kd
def f_law : FS := (sSeq (sFold 0 1 3) (sSeq (sFor 100 (fRange1 (eLenS 1)) (gN 2) (sSeq (sBox 3 (aScr 1 (aCons (eVar 2) aNil))) (sIf (fNot (fTest (eCB allD (dCons (eL (fComp 2 (fRange1 (eC (.int 2))) [4] (gN 4) fYes (eCall F__law_right (aBox 3 aNil)))) dNil)))) (sRet (eC (.bool false))) sSkip))) (sRet (eC (.bool true)))))
@[irreducible] def F_law : FF := mkF 1 5 f_law
def t_law (K : PySem.W.Frag) : TS := (tSeq (tAsg (tCallG (spFold K 3) (tCons (tVar 0) (tCons (tC (.int (3 : Nat))) tNil))) (gName 1)) (tSeq (tFor (iRng1 (tCons (tCB (fun xs H Q => ∃ x n, xs = [x] ∧ LenV K x H n ∧ Q (.int n) H) (tCons (tVar 1) tNil)) tNil)) (gName 2) (tSeq (tAsg (tCallG (spBx K) (tCons (tVar 1) (tCons (tVar 2) tNil))) (gName 3)) (tIfS (tNot (tB (tCB (rAll K) (tCons (tLc (iRng1 (tCons (tC (.int 2)) tNil)) (gName 4) tYes (tCallG (spD K 788 F__law_right) (tCons (tVar 3) tNil)) [4]) tNil)))) (tRet (tC (.bl false))) tNext))) (tRet (tC (.bl true)))))
theorem s_law (K : PySem.W.Frag) : SndS K (t_law K) 157600 f_law := (snds_seq snds_fold (snds_seq (snds_for (vs := [2]) (N := 100) (sndi_range1 snd_lenS) (sndg_name (by decide)) (snds_seq (snds_box (snda_scr (snda_cons snd_var snda_nil))) (snds_if (sndt_not (sndt_B (snd_cb cs_all (sndd_cons (SndL.d (sndl_comp (N := 2) (by decide) (sndi_range1 snd_int) (sndg_name (by decide)) sndt_yes (snd_call (m__law_right K) (snda_box snda_nil)))) sndd_nil)))) (snds_ret snd_bl) snds_nil))) (snds_ret snd_bl)))
theorem m_law (K : PySem.W.Frag) : MonoF F_law := by
  unfold F_law
  exact mkF_mono (s_law K)
end Kc
namespace Kc
open PySem PySem.Spec PyProof.Rows L2 Xg Dv Kd
structure Nm (mg : Str → Option Value) : Prop where
  ValueError : mg "ValueError" = none
  abs : mg "abs" = none
  all : mg "all" = none
  bool : mg "bool" = none
  enumerate : mg "enumerate" = none
  int : mg "int" = none
  isinstance : mg "isinstance" = none
  len : mg "len" = none
  list : mg "list" = none
  range : mg "range" = none
  str : mg "str" = none
  tuple : mg "tuple" = none
  zip : mg "zip" = none
section
variable {P : Program} {w : World} {K : PySem.W.Frag} {mg : Str → Option Value} {base : Heap}
theorem sc_BadWord : FnScope ["self", "at"] ["self", "at"] (defScope (inClass (topS 6) 0)) := ⟨rfl, rfl, rfl, by decide +kernel, rfl, by decide +kernel, by decide +kernel⟩
theorem mk_BadWord {C g : Addr} {fd : FuncData} (F : Fun K "__init__" "BadWord.__init__" (inClass (topS 6) 0) g fd) (T : Xv.XC K C "ValueError.__new__" [.type "ValueError", .type "Exception", .type "BaseException", .type "object"] ∧ PySem.W.typeIn K (.ref C) = some (.type "type"))
    (no : PySem.W.findIn K (.ref C) "at" = some none) (iC : PySem.W.findIn K (.ref C) "__init__" = some (some (.ref g))) (tI : PySem.W.typeIn K (.ref g) = some (.type "function"))
    (vB : PySem.W.findCls K (.type "ValueError") (.type "type") "__init__" = some (.val (.builtin "ValueError.__init__"))) (mB : mg "ValueError" = none) (gc : mg "BadWord" = some (.ref C)) :
    Ex.Mk1 P w K mg base "BadWord" "at" C := by
  refine ⟨⟨_, _, _, _, g, fd, T.1, Xv.bfV, iC, tI, ?_, ?_⟩, gc, no, T.1.is, T.2⟩
  · refine F.ok sc_BadWord (fun vs H Q E h => ?_) (fun cdv A outer s H vs Q E hr h => ?_)
    · obtain ⟨a, v, rfl, _⟩ := h
      rfl
    · obtain ⟨a, v, rfl, ea, q⟩ := h
      refine ⟨_, pss_cons (ps_expr (Xv.pe_binit Xv.bfV (by rfl) mB Ex.btV (by decide) (by decide) vB (pa_cons (pv 0) (pa_cons pe_str pa_nil)))) (pss_one (Xv.ps_put Xv.bfV (pv 0) (pv 1))), ?_⟩
      exact ⟨_, rfl, a, C, _, rfl, by show 1 ≤ 1000; decide, T.1, ea, _, rfl, _, rfl, a, C, rfl, T.1, no, ea, fun dx nd ne => q dx nd ne⟩
  · exact F.binds fun _ _ _ _ _ _ us hl => match us, hl with | [_, _], _ => rfl
end
end Kc
namespace Kc
open PySem PySem.Spec PyProof.Rows L2 Xg Dv Kd
section
variable {P : Program} {w : World} {K : PySem.W.Frag} {mg : Str → Option Value} {base : Heap}
theorem sc_width_text : FnScope ["width"] ["width"] (defScope (topS 14)) := ⟨rfl, rfl, rfl, by decide +kernel, rfl, by decide +kernel, by decide +kernel⟩
theorem ok_width_text {f : Addr} {fd : FuncData} (F : Fun K "width_text" "width_text" (topS 14) f fd) (N : Nm mg) (c_WIDE : ∃ u, mg "WIDE" = some u ∧ L2.RelV (.str "~") u) : FnG P w K mg base 1 f fd ["width"] (spD K 0 F_width_text) := by
  unfold F_width_text
  exact okD F sc_width_text (s_width_text K) fun cdv A outer s H hG hr => (pss_one (ps_ret (pe_ifExp (pt_cmpR op_isN (pv 0) pe_non (nomark _)) (pe_con (v := .str "~") (by rfl) c_WIDE) (pe_callTy call_str_int (by rfl) N.str (by decide +kernel) (pa_cons (pv 0) pa_nil)))))
end
end Kc
namespace Kc
open PySem PySem.Spec PyProof.Rows L2 Xg Dv Kd
section
variable {P : Program} {w : World} {K : PySem.W.Frag} {mg : Str → Option Value} {base : Heap}
theorem sc_line_text : FnScope ["line", "widths", "standing", "form", "rooms", "words", "width", "held", "room"] ["line", "widths", "standing"] (defScope (topS 13)) := ⟨rfl, rfl, rfl, by decide +kernel, rfl, by decide +kernel, by decide +kernel⟩
theorem ok_line_text {f : Addr} {fd : FuncData} (F : Fun K "line_text" "line_text" (topS 13) f fd) (N : Nm mg) (c_ROW : ∃ u, mg "ROW" = some u ∧ L2.RelV (.str "row") u) (D_width_text : Df P w K mg base "width_text" ["width"] 1 (spD K 0 F_width_text)) : FnG P w K mg base 2 f fd ["line", "widths", "standing"] (spD K 0 F_line_text) := by
  unfold F_line_text
  exact okD F sc_line_text (s_line_text K) fun cdv A outer s H hG hr => (pss_cons (ps_asg (pv 0) (pg_or (pg_tup rfl (pgs_cons (pg_name (i := 3) sc_line_text.nd rfl (by first | exact .inl rfl | exact .inr rfl)) (pgs_cons (pg_name (i := 4) sc_line_text.nd rfl (by first | exact .inl rfl | exact .inr rfl)) pgs_nil))) (pg_lst rfl (pgs_cons (pg_name (i := 3) sc_line_text.nd rfl (by first | exact .inl rfl | exact .inr rfl)) (pgs_cons (pg_name (i := 4) sc_line_text.nd rfl (by first | exact .inl rfl | exact .inr rfl)) pgs_nil))))) (pss_cons (ps_set (i := 5) sc_line_text.nd rfl (by first | exact .inl rfl | exact .inr rfl) (pe_lst (pa_cons (pv 3) pa_nil))) (pss_cons (ps_for PassesOwn.never rfl (Zq.pi_zip3X (by rfl) N.zip (pa_cons (pv 1) (pa_cons (pv 2) (pa_cons (pv 4) pa_nil)))) (pg_or (pg_tup rfl (pgs_cons (pg_name (i := 6) sc_line_text.nd rfl (by first | exact .inl rfl | exact .inr rfl)) (pgs_cons (pg_name (i := 7) sc_line_text.nd rfl (by first | exact .inl rfl | exact .inr rfl)) (pgs_cons (pg_name (i := 8) sc_line_text.nd rfl (by first | exact .inl rfl | exact .inr rfl)) pgs_nil)))) (pg_lst rfl (pgs_cons (pg_name (i := 6) sc_line_text.nd rfl (by first | exact .inl rfl | exact .inr rfl)) (pgs_cons (pg_name (i := 7) sc_line_text.nd rfl (by first | exact .inl rfl | exact .inr rfl)) (pgs_cons (pg_name (i := 8) sc_line_text.nd rfl (by first | exact .inl rfl | exact .inr rfl)) pgs_nil))))) (pss_one (ps_aug (i := 5) sc_line_text.nd rfl (by first | exact .inl rfl | exact .inr rfl) (pe_lst (pa_cons (pe_df D_width_text hG (hr.mono (by decide)) (by rfl) (pa_cons (pv 6) pa_nil)) (pa_cons (pe_joined (PJ.cons (pe_fmt (pv 7)) (PJ.cons pe_str (PJ.cons (pe_fmt (pv 8)) PJ.nil)))) pa_nil))) iop_ext))) (pss_cons (ps_if (pt_cmpR (op_eqX hr.units) (pv 3) (pe_con (v := .str "row") (by rfl) c_ROW) (nomark _)) (pss_one (ps_expr (pe_bm PySem.F.plainAttrs_list PySem.F.slot_list_append PySem.F.type_list_append mt_append (pv 5) (pa_cons (pe_df D_width_text hG (hr.mono (by decide)) (by rfl) (pa_cons (pe_ix ix_seq (pv 1) (pe_un un_neg pe_int) (fun _ _ => rfl)) pa_nil)) pa_nil)))) pss_nil) (pss_one (ps_ret (pe_join pe_str (pv 5))))))))
end
end Kc
namespace Kc
open PySem PySem.Spec PyProof.Rows L2 Xg Dv Kd
section
variable {P : Program} {w : World} {K : PySem.W.Frag} {mg : Str → Option Value} {base : Heap}
theorem sc_is_whole : FnScope ["words"] ["words"] (defScope (topS 17)) := ⟨rfl, rfl, rfl, by decide +kernel, rfl, by decide +kernel, by decide +kernel⟩
theorem ok_is_whole {f : Addr} {fd : FuncData} (F : Fun K "is_whole" "is_whole" (topS 17) f fd) (N : Nm mg) (c_ROW : ∃ u, mg "ROW" = some u ∧ L2.RelV (.str "row") u) : FnG P w K mg base 1 f fd ["words"] (spD K 0 F_is_whole) := by
  unfold F_is_whole
  exact okD F sc_is_whole (s_is_whole K) fun cdv A outer s H hG hr => (pss_cons (ps_if (pt_cmpR (op_eqX hr.units) (pe_ix ix_seq (pv 0) pe_int (fun _ _ => rfl)) (pe_con (v := .str "row") (by rfl) c_ROW) (nomark _)) (pss_one (ps_ret (pe_and (pe_cmpR op_ge (pe_callB call_len (by rfl) N.len PySem.boot_len (pa_cons (pv 0) pa_nil)) pe_int (nomark _)) (pe_one (pe_cmpR (op_eqX hr.units) (pe_op op_odd (pe_callB call_len (by rfl) N.len PySem.boot_len (pa_cons (pv 0) pa_nil)) pe_int) pe_int (nomark _)))))) pss_nil) (pss_one (ps_ret (pe_and (pe_cmpR op_ge (pe_callB call_len (by rfl) N.len PySem.boot_len (pa_cons (pv 0) pa_nil)) pe_int (nomark _)) (pe_one (pe_cmpR (op_eqX hr.units) (pe_op op_odd (pe_callB call_len (by rfl) N.len PySem.boot_len (pa_cons (pv 0) pa_nil)) pe_int) pe_int (nomark _)))))))
end
end Kc
namespace Kc
open PySem PySem.Spec PyProof.Rows L2 Xg Dv Kd
section
variable {P : Program} {w : World} {K : PySem.W.Frag} {mg : Str → Option Value} {base : Heap}
theorem sc_bin_in : FnScope ["word", "held", "room"] ["word"] (defScope (topS 22)) := ⟨rfl, rfl, rfl, by decide +kernel, rfl, by decide +kernel, by decide +kernel⟩
theorem ok_bin_in {f : Addr} {fd : FuncData} (F : Fun K "bin_in" "bin_in" (topS 22) f fd) (N : Nm mg) : FnG P w K mg base 1 f fd ["word"] (spD K 0 F_bin_in) := by
  unfold F_bin_in
  exact okD F sc_bin_in (s_bin_in K) fun cdv A outer s H hG hr => (pss_cons (ps_asg (pe_split (pv 0) pe_str) (pg_or (pg_tup rfl (pgs_cons (pg_name (i := 1) sc_bin_in.nd rfl (by first | exact .inl rfl | exact .inr rfl)) (pgs_cons (pg_name (i := 2) sc_bin_in.nd rfl (by first | exact .inl rfl | exact .inr rfl)) pgs_nil))) (pg_lst rfl (pgs_cons (pg_name (i := 1) sc_bin_in.nd rfl (by first | exact .inl rfl | exact .inr rfl)) (pgs_cons (pg_name (i := 2) sc_bin_in.nd rfl (by first | exact .inl rfl | exact .inr rfl)) pgs_nil))))) (pss_one (ps_ret (pe_tup (pa_cons (pe_callTy call_int_str (by rfl) N.int (by decide +kernel) (pa_cons (pv 1) pa_nil)) (pa_cons (pe_callTy call_int_str (by rfl) N.int (by decide +kernel) (pa_cons (pv 2) pa_nil)) pa_nil))))))
end
end Kc
namespace Kc
open PySem PySem.Spec PyProof.Rows L2 Xg Dv Kd
section
variable {P : Program} {w : World} {K : PySem.W.Frag} {mg : Str → Option Value} {base : Heap}
theorem sc_is_number_text : FnScope ["word", "most_figures", "sign"] ["word", "most_figures"] (defScope (topS 18)) := ⟨rfl, rfl, rfl, by decide +kernel, rfl, by decide +kernel, by decide +kernel⟩
theorem ok_is_number_text {f : Addr} {fd : FuncData} (F : Fun K "is_number_text" "is_number_text" (topS 18) f fd) (N : Nm mg) (c_FIGURES : ∃ u, mg "FIGURES" = some u ∧ L2.RelV (.str "0123456789") u) : FnG P w K mg base 1 f fd ["word", "most_figures"] (spD K 0 F_is_number_text) := by
  unfold F_is_number_text
  exact okD F sc_is_number_text (s_is_number_text K) fun cdv A outer s H hG hr => (pss_cons (ps_if (L2.PW.pt (pw_or (pt_not (pt_chain op_le op_le pe_int (pe_callB call_len_str (by rfl) N.len (by decide +kernel) (pa_cons (pv 0) pa_nil)) (pv 1))) (pw_or1 (pt_not (pt_val (pe_callB (cr_all rfl) (by rfl) N.all (by decide +kernel) (pa_cons (pe_lc (own := [("sign", 2)]) rfl sc_is_number_text.nd (pi_str (pv 0)) (blkOk_by (N := ["word", "most_figures", "sign"]) (sc := defScope (topS 18)) (by decide +kernel)) (fun _ _ _ _ _ => (pg_name (i := 2) sc_is_number_text.nd rfl (by first | exact .inl rfl | exact .inr rfl))) (fun _ _ _ _ _ => pts_nil) (fun _ _ _ _ _ => (pe_cmpR op_inS (pv 2) (pe_con (v := .str "0123456789") (by rfl) c_FIGURES) (by rfl)))) pa_nil))))))) (pss_one (ps_ret pe_bl)) pss_nil) (pss_one (ps_ret (L2.pe_or (pe_cmpR (op_eqX hr.units) (pv 0) pe_str (nomark _)) (pe_one (pe_cmpR (op_neX hr.units) (pe_ix ix_str (pv 0) pe_int (fun _ _ => rfl)) pe_str (nomark _)))))))
end
end Kc
namespace Kc
open PySem PySem.Spec PyProof.Rows L2 Xg Dv Kd
section
variable {P : Program} {w : World} {K : PySem.W.Frag} {mg : Str → Option Value} {base : Heap}
theorem sc_is_width_text : FnScope ["word", "most_figures"] ["word", "most_figures"] (defScope (topS 19)) := ⟨rfl, rfl, rfl, by decide +kernel, rfl, by decide +kernel, by decide +kernel⟩
theorem ok_is_width_text {f : Addr} {fd : FuncData} (F : Fun K "is_width_text" "is_width_text" (topS 19) f fd) (N : Nm mg) (c_WIDE : ∃ u, mg "WIDE" = some u ∧ L2.RelV (.str "~") u) (D_is_number_text : Df P w K mg base "is_number_text" ["word", "most_figures"] 1 (spD K 0 F_is_number_text)) : FnG P w K mg base 2 f fd ["word", "most_figures"] (spD K 0 F_is_width_text) := by
  unfold F_is_width_text
  exact okD F sc_is_width_text (s_is_width_text K) fun cdv A outer s H hG hr => (pss_one (ps_ret (L2.pe_or (pe_cmpR (op_eqX hr.units) (pv 0) (pe_con (v := .str "~") (by rfl) c_WIDE) (nomark _)) (pe_one (pe_df D_is_number_text hG (hr.mono (by decide)) (by rfl) (pa_cons (pv 0) (pa_cons (pv 1) pa_nil)))))))
end
end Kc
namespace Kc
open PySem PySem.Spec PyProof.Rows L2 Xg Dv Kd
section
variable {P : Program} {w : World} {K : PySem.W.Frag} {mg : Str → Option Value} {base : Heap}
theorem sc_is_bin_text : FnScope ["word", "parts", "held", "room", "part"] ["word"] (defScope (topS 21)) := ⟨rfl, rfl, rfl, by decide +kernel, rfl, by decide +kernel, by decide +kernel⟩
theorem ok_is_bin_text {f : Addr} {fd : FuncData} (F : Fun K "is_bin_text" "is_bin_text" (topS 21) f fd) (N : Nm mg) (c_LINE_FIGURES : ∃ u, mg "LINE_FIGURES" = some u ∧ L2.RelV (.int 10) u) (D_bin_in : Df P w K mg base "bin_in" ["word"] 1 (spD K 0 F_bin_in)) (D_is_number_text : Df P w K mg base "is_number_text" ["word", "most_figures"] 1 (spD K 0 F_is_number_text)) : FnG P w K mg base 2 f fd ["word"] (spD K 0 F_is_bin_text) := by
  unfold F_is_bin_text
  exact okD F sc_is_bin_text (s_is_bin_text K) fun cdv A outer s H hG hr => (pss_cons (ps_set (i := 1) sc_is_bin_text.nd rfl (by first | exact .inl rfl | exact .inr rfl) (pe_split (pv 0) pe_str)) (pss_cons (ps_if (L2.PW.pt (pw_or (pt_cmpR (op_neX hr.units) (pe_callB call_len (by rfl) N.len PySem.boot_len (pa_cons (pv 1) pa_nil)) pe_int (nomark _)) (pw_or1 (pt_not (pt_val (pe_callB (cr_all rfl) (by rfl) N.all (by decide +kernel) (pa_cons (pe_lc (own := [("part", 4)]) rfl sc_is_bin_text.nd (Pw.pi_seq (pv 1)) (blkOk_by (N := ["word", "parts", "held", "room", "part"]) (sc := defScope (topS 21)) (by decide +kernel)) (fun _ _ _ _ _ => (pg_name (i := 4) sc_is_bin_text.nd rfl (by first | exact .inl rfl | exact .inr rfl))) (fun _ _ _ _ _ => pts_nil) (fun _ _ _ _ _ => (pe_df D_is_number_text hG (hr.mono (by decide)) (by rfl) (pa_cons (pv 4) (pa_cons (pe_con (v := .int 10) (by rfl) c_LINE_FIGURES) pa_nil))))) pa_nil))))))) (pss_one (ps_ret pe_bl)) pss_nil) (pss_cons (ps_asg (pe_df D_bin_in hG (hr.mono (by decide)) (by rfl) (pa_cons (pv 0) pa_nil)) (pg_or (pg_tup rfl (pgs_cons (pg_name (i := 2) sc_is_bin_text.nd rfl (by first | exact .inl rfl | exact .inr rfl)) (pgs_cons (pg_name (i := 3) sc_is_bin_text.nd rfl (by first | exact .inl rfl | exact .inr rfl)) pgs_nil))) (pg_lst rfl (pgs_cons (pg_name (i := 2) sc_is_bin_text.nd rfl (by first | exact .inl rfl | exact .inr rfl)) (pgs_cons (pg_name (i := 3) sc_is_bin_text.nd rfl (by first | exact .inl rfl | exact .inr rfl)) pgs_nil))))) (pss_one (ps_ret (pe_and (pe_cmpR op_ge (pv 3) pe_int (nomark _)) (pe_one (pe_cmpR op_le (pv 2) (pv 3) (nomark _)))))))))
end
end Kc
namespace Kc
open PySem PySem.Spec PyProof.Rows L2 Xg Dv Kd
section
variable {P : Program} {w : World} {K : PySem.W.Frag} {mg : Str → Option Value} {base : Heap}
theorem sc_can_stand : FnScope ["word", "at"] ["word", "at"] (defScope (topS 16)) := ⟨rfl, rfl, rfl, by decide +kernel, rfl, by decide +kernel, by decide +kernel⟩
theorem ok_can_stand {f : Addr} {fd : FuncData} (F : Fun K "can_stand" "can_stand" (topS 16) f fd) (N : Nm mg) (c_LINE_FIGURES : ∃ u, mg "LINE_FIGURES" = some u ∧ L2.RelV (.int 10) u) (c_RING : ∃ u, mg "RING" = some u ∧ L2.RelV (.str "ring") u) (c_ROW : ∃ u, mg "ROW" = some u ∧ L2.RelV (.str "row") u) (D_is_bin_text : Df P w K mg base "is_bin_text" ["word"] 2 (spD K 0 F_is_bin_text)) (D_is_width_text : Df P w K mg base "is_width_text" ["word", "most_figures"] 2 (spD K 0 F_is_width_text)) : FnG P w K mg base 3 f fd ["word", "at"] (spD K 0 F_can_stand) := by
  unfold F_can_stand
  exact okD F sc_can_stand (s_can_stand K) fun cdv A outer s H hG hr => (pss_cons (ps_if (pt_cmpR (op_eqX hr.units) (pv 1) pe_int (nomark _)) (pss_one (ps_ret (L2.pe_or (pe_cmpR (op_eqX hr.units) (pv 0) (pe_con (v := .str "row") (by rfl) c_ROW) (nomark _)) (pe_one (pe_cmpR (op_eqX hr.units) (pv 0) (pe_con (v := .str "ring") (by rfl) c_RING) (nomark _)))))) pss_nil) (pss_one (ps_ret (pe_ifExp (pt_truth (pe_op op_odd (pv 1) pe_int) (by intro _; rfl)) (pe_df D_is_width_text hG (hr.mono (by decide)) (by rfl) (pa_cons (pv 0) (pa_cons (pe_con (v := .int 10) (by rfl) c_LINE_FIGURES) pa_nil))) (pe_df D_is_bin_text hG (hr.mono (by decide)) (by rfl) (pa_cons (pv 0) pa_nil))))))
end
end Kc
namespace Kc
open PySem PySem.Spec PyProof.Rows L2 Xg Dv Kd
section
variable {P : Program} {w : World} {K : PySem.W.Frag} {mg : Str → Option Value} {base : Heap}
theorem sc_width_in : FnScope ["word"] ["word"] (defScope (topS 20)) := ⟨rfl, rfl, rfl, by decide +kernel, rfl, by decide +kernel, by decide +kernel⟩
theorem ok_width_in {f : Addr} {fd : FuncData} (F : Fun K "width_in" "width_in" (topS 20) f fd) (N : Nm mg) (c_WIDE : ∃ u, mg "WIDE" = some u ∧ L2.RelV (.str "~") u) : FnG P w K mg base 1 f fd ["word"] (spD K 0 F_width_in) := by
  unfold F_width_in
  exact okD F sc_width_in (s_width_in K) fun cdv A outer s H hG hr => (pss_one (ps_ret (pe_ifExp (pt_cmpR (op_eqX hr.units) (pv 0) (pe_con (v := .str "~") (by rfl) c_WIDE) (nomark _)) pe_non (pe_callTy call_int_str (by rfl) N.int (by decide +kernel) (pa_cons (pv 0) pa_nil)))))
end
end Kc
namespace Kc
open PySem PySem.Spec PyProof.Rows L2 Xg Dv Kd
section
variable {P : Program} {w : World} {K : PySem.W.Frag} {mg : Str → Option Value} {base : Heap}
theorem sc_line_in : FnScope ["text", "words", "at", "word", "bins", "rooms", "standing", "held", "room"] ["text"] (defScope (topS 15)) := ⟨rfl, rfl, rfl, by decide +kernel, rfl, by decide +kernel, by decide +kernel⟩
theorem ok_line_in {f : Addr} {fd : FuncData} (F : Fun K "line_in" "line_in" (topS 15) f fd) (N : Nm mg) (D_bin_in : Df P w K mg base "bin_in" ["word"] 1 (spD K 0 F_bin_in)) (D_can_stand : Df P w K mg base "can_stand" ["word", "at"] 3 (spD K 0 F_can_stand)) (D_is_whole : Df P w K mg base "is_whole" ["words"] 1 (spD K 0 F_is_whole)) (D_width_in : Df P w K mg base "width_in" ["word"] 1 (spD K 0 F_width_in)) : FnG P w K mg base 4 f fd ["text"] (spD K 0 F_line_in) := by
  unfold F_line_in
  exact okD F sc_line_in (s_line_in K) fun cdv A outer s H hG hr => (pss_cons (ps_set (i := 1) sc_line_in.nd rfl (by first | exact .inl rfl | exact .inr rfl) (pe_split (pv 0) pe_str)) (pss_cons (ps_for PassesOwn.never rfl (Pw.pi_enumX (by rfl) N.enumerate (pa_cons (pv 1) pa_nil)) (pg_or (pg_tup rfl (pgs_cons (pg_name (i := 2) sc_line_in.nd rfl (by first | exact .inl rfl | exact .inr rfl)) (pgs_cons (pg_name (i := 3) sc_line_in.nd rfl (by first | exact .inl rfl | exact .inr rfl)) pgs_nil))) (pg_lst rfl (pgs_cons (pg_name (i := 2) sc_line_in.nd rfl (by first | exact .inl rfl | exact .inr rfl)) (pgs_cons (pg_name (i := 3) sc_line_in.nd rfl (by first | exact .inl rfl | exact .inr rfl)) pgs_nil)))) (pss_one (ps_if (pt_not (pt_val (pe_df D_can_stand hG (hr.mono (by decide)) (by rfl) (pa_cons (pv 3) (pa_cons (pv 2) pa_nil))))) (pss_one Dv.ps_never) pss_nil))) (pss_cons (ps_if (pt_not (pt_val (pe_df D_is_whole hG (hr.mono (by decide)) (by rfl) (pa_cons (pv 1) pa_nil)))) (pss_one Dv.ps_never) pss_nil) (pss_cons (ps_setLc (i := 4) (own := [("word", 3)]) rfl sc_line_in.nd rfl rfl (sw_true rfl rfl rfl (by decide +kernel)) (Pw.pi_seq (pe_stp2 (pv 1))) (blkOk_by (N := ["text", "words", "at", "word", "bins", "rooms", "standing", "held", "room"]) (sc := defScope (topS 15)) (by decide +kernel)) (fun _ _ _ _ _ => (pg_name (i := 3) sc_line_in.nd rfl (by first | exact .inl rfl | exact .inr rfl))) (fun _ _ _ _ _ => pts_nil) (fun _ _ _ _ _ => (pe_df D_bin_in hG (hr.mono (by decide)) (by rfl) (pa_cons (pv 3) pa_nil)))) (pss_cons (ps_set (i := 5) sc_line_in.nd rfl (by first | exact .inl rfl | exact .inr rfl) (pe_tupleOf (by rfl) N.tuple (pe_lc (own := [("held", 7), ("room", 8)]) rfl sc_line_in.nd (Pw.pi_seq (pv 4)) (blkOk_by (N := ["text", "words", "at", "word", "bins", "rooms", "standing", "held", "room"]) (sc := defScope (topS 15)) (by decide +kernel)) (fun _ _ _ _ _ => (pg_or (pg_tup rfl (pgs_cons (pg_name (i := 7) sc_line_in.nd rfl (by first | exact .inl rfl | exact .inr rfl)) (pgs_cons (pg_name (i := 8) sc_line_in.nd rfl (by first | exact .inl rfl | exact .inr rfl)) pgs_nil))) (pg_lst rfl (pgs_cons (pg_name (i := 7) sc_line_in.nd rfl (by first | exact .inl rfl | exact .inr rfl)) (pgs_cons (pg_name (i := 8) sc_line_in.nd rfl (by first | exact .inl rfl | exact .inr rfl)) pgs_nil))))) (fun _ _ _ _ _ => pts_nil) (fun _ _ _ _ _ => (pv 8))))) (pss_cons (ps_set (i := 6) sc_line_in.nd rfl (by first | exact .inl rfl | exact .inr rfl) (pe_tupleOf (by rfl) N.tuple (pe_lc (own := [("held", 7), ("room", 8)]) rfl sc_line_in.nd (Pw.pi_seq (pv 4)) (blkOk_by (N := ["text", "words", "at", "word", "bins", "rooms", "standing", "held", "room"]) (sc := defScope (topS 15)) (by decide +kernel)) (fun _ _ _ _ _ => (pg_or (pg_tup rfl (pgs_cons (pg_name (i := 7) sc_line_in.nd rfl (by first | exact .inl rfl | exact .inr rfl)) (pgs_cons (pg_name (i := 8) sc_line_in.nd rfl (by first | exact .inl rfl | exact .inr rfl)) pgs_nil))) (pg_lst rfl (pgs_cons (pg_name (i := 7) sc_line_in.nd rfl (by first | exact .inl rfl | exact .inr rfl)) (pgs_cons (pg_name (i := 8) sc_line_in.nd rfl (by first | exact .inl rfl | exact .inr rfl)) pgs_nil))))) (fun _ _ _ _ _ => pts_nil) (fun _ _ _ _ _ => (pv 7))))) (pss_one (ps_ret (pe_tup (pa_cons (pe_tup (pa_cons (pe_ix ix_seq (pv 1) pe_int (fun _ _ => rfl)) (pa_cons (pv 5) pa_nil))) (pa_cons (pe_tupleOf (by rfl) N.tuple (pe_lc (own := [("word", 3)]) rfl sc_line_in.nd (Pw.pi_seq (pe_stp2 (pv 1))) (blkOk_by (N := ["text", "words", "at", "word", "bins", "rooms", "standing", "held", "room"]) (sc := defScope (topS 15)) (by decide +kernel)) (fun _ _ _ _ _ => (pg_name (i := 3) sc_line_in.nd rfl (by first | exact .inl rfl | exact .inr rfl))) (fun _ _ _ _ _ => pts_nil) (fun _ _ _ _ _ => (pe_df D_width_in hG (hr.mono (by decide)) (by rfl) (pa_cons (pv 3) pa_nil))))) (pa_cons (pv 6) pa_nil))))))))))))
theorem okR_line_in {f : Addr} {fd : FuncData} (F : Fun K "line_in" "line_in" (topS 15) f fd) (N : Nm mg) (D_can_stand : Df P w K mg base "can_stand" ["word", "at"] 3 (spD K 0 F_can_stand)) (D_is_whole : Df P w K mg base "is_whole" ["words"] 1 (spD K 0 F_is_whole)) (MX_BadWord : Ex.Mk1 P w K mg base "BadWord" "at" (Ex.ca K "BadWord")) : Ex.FnX P w K mg base 4 f fd ["text"] (Ex.spR K 0 R_line_in) := by
  unfold R_line_in
  exact Ex.okR F sc_line_in (srr_line_in K) fun cdv A outer s H E hG hr W tk => (pss_cons (ps_set (i := 1) sc_line_in.nd rfl (by first | exact .inl rfl | exact .inr rfl) (pe_split (pv 0) pe_str)) (Ex.pss_or (pss_cons (ps_for (passes_of rfl) rfl (Pw.pi_enumX (by rfl) N.enumerate (pa_cons (pv 1) pa_nil)) (pg_or (pg_tup rfl (pgs_cons (pg_name (i := 2) sc_line_in.nd rfl (by first | exact .inl rfl | exact .inr rfl)) (pgs_cons (pg_name (i := 3) sc_line_in.nd rfl (by first | exact .inl rfl | exact .inr rfl)) pgs_nil))) (pg_lst rfl (pgs_cons (pg_name (i := 2) sc_line_in.nd rfl (by first | exact .inl rfl | exact .inr rfl)) (pgs_cons (pg_name (i := 3) sc_line_in.nd rfl (by first | exact .inl rfl | exact .inr rfl)) pgs_nil)))) (pss_one (ps_if (pt_not (pt_val (pe_df D_can_stand hG (hr.mono (by decide)) (by rfl) (pa_cons (pv 3) (pa_cons (pv 2) pa_nil))))) (pss_one (ps_raise rfl tk (Ex.pmk_new MX_BadWord (hr.mono (by decide)) (by rfl) (pv 2)))) pss_nil))) (pss_cons Dv.ps_never (pss_cons Dv.ps_never (pss_cons Dv.ps_never (pss_cons Dv.ps_never (pss_one Dv.ps_never)))))) (pss_cons (ps_for (passes_of rfl) rfl (Pw.pi_enumX (by rfl) N.enumerate (pa_cons (pv 1) pa_nil)) (pg_or (pg_tup rfl (pgs_cons (pg_name (i := 2) sc_line_in.nd rfl (by first | exact .inl rfl | exact .inr rfl)) (pgs_cons (pg_name (i := 3) sc_line_in.nd rfl (by first | exact .inl rfl | exact .inr rfl)) pgs_nil))) (pg_lst rfl (pgs_cons (pg_name (i := 2) sc_line_in.nd rfl (by first | exact .inl rfl | exact .inr rfl)) (pgs_cons (pg_name (i := 3) sc_line_in.nd rfl (by first | exact .inl rfl | exact .inr rfl)) pgs_nil)))) (pss_one (ps_if (pt_not (pt_val (pe_df D_can_stand hG (hr.mono (by decide)) (by rfl) (pa_cons (pv 3) (pa_cons (pv 2) pa_nil))))) (pss_one Dv.ps_never) pss_nil))) (pss_cons (ps_if (pt_not (pt_val (pe_df D_is_whole hG (hr.mono (by decide)) (by rfl) (pa_cons (pv 1) pa_nil)))) (pss_one (ps_raise rfl tk (Ex.pmk_new MX_BadWord (hr.mono (by decide)) (by rfl) (pe_callB call_len (by rfl) N.len PySem.boot_len (pa_cons (pv 1) pa_nil))))) pss_nil) (pss_cons Dv.ps_never (pss_cons Dv.ps_never (pss_cons Dv.ps_never (pss_one Dv.ps_never))))))))
end
end Kc
namespace Kc
open PySem PySem.Spec PyProof.Rows L2 Xg Dv Kd
section
variable {P : Program} {w : World} {K : PySem.W.Frag} {mg : Str → Option Value} {base : Heap}
theorem sc__law_pick : FnScope ["_law_box_here", "_law_some"] ["_law_box_here", "_law_some"] (defScope (topS 26)) := ⟨rfl, rfl, rfl, by decide +kernel, rfl, by decide +kernel, by decide +kernel⟩
theorem ok__law_pick {f : Addr} {fd : FuncData} (F : Fun K "_law_pick" "_law_pick" (topS 26) f fd) (N : Nm mg) (D__law_take : Df P w K mg base "_law_take" ["_law_box_here", "_law_size"] 1 (spD K 1 F_take)) : FnG P w K mg base 2 f fd ["_law_box_here", "_law_some"] (spD K 1 F__law_pick) := by
  unfold F__law_pick
  exact okD F sc__law_pick (s__law_pick K) fun cdv A outer s H hG hr => (pss_one (ps_ret (pe_ix ix_seq (pv 1) (pe_df D__law_take hG (hr.mono (by decide)) (by rfl) (pa_cons (pv 0) (pa_cons (pe_callB call_len (by rfl) N.len PySem.boot_len (pa_cons (pv 1) pa_nil)) pa_nil))) (fun _ _ => rfl))))
end
end Kc
namespace Kc
open PySem PySem.Spec PyProof.Rows L2 Xg Dv Kd
section
variable {P : Program} {w : World} {K : PySem.W.Frag} {mg : Str → Option Value} {base : Heap}
theorem sc__law_pick__x : FnScope ["_law_box_here", "_law_some"] ["_law_box_here", "_law_some"] (defScope (topS 26)) := ⟨rfl, rfl, rfl, by decide +kernel, rfl, by decide +kernel, by decide +kernel⟩
theorem ok__law_pick__x {f : Addr} {fd : FuncData} (F : Fun K "_law_pick" "_law_pick" (topS 26) f fd) (N : Nm mg) (D__law_take : Df P w K mg base "_law_take" ["_law_box_here", "_law_size"] 1 (spD K 1 F_take)) : FnG P w K mg base 2 f fd ["_law_box_here", "_law_some"] (spD K 1 F__law_pick__x) := by
  unfold F__law_pick__x
  exact okD F sc__law_pick__x (s__law_pick__x K) fun cdv A outer s H hG hr => (pss_one (ps_ret (pe_ix ix_str (pv 1) (pe_df D__law_take hG (hr.mono (by decide)) (by rfl) (pa_cons (pv 0) (pa_cons (pe_callB call_len_str (by rfl) N.len (by decide +kernel) (pa_cons (pv 1) pa_nil)) pa_nil))) (fun _ _ => rfl))))
end
end Kc
namespace Kc
open PySem PySem.Spec PyProof.Rows L2 Xg Dv Kd
section
variable {P : Program} {w : World} {K : PySem.W.Frag} {mg : Str → Option Value} {base : Heap}
theorem sc__law_line : FnScope ["_law_box_here", "_law_most", "_law_wide", "_law_form", "_law_least", "_law_top", "_law_k"] ["_law_box_here", "_law_most", "_law_wide"] (defScope (topS 29)) := ⟨rfl, rfl, rfl, by decide +kernel, rfl, by decide +kernel, by decide +kernel⟩
theorem ok__law_line {f : Addr} {fd : FuncData} (F : Fun K "_law_line" "_law_line" (topS 29) f fd) (N : Nm mg) (D__law_pick : Df P w K mg base "_law_pick" ["_law_box_here", "_law_some"] 2 (spD K 1 F__law_pick)) (D__law_take : Df P w K mg base "_law_take" ["_law_box_here", "_law_size"] 1 (spD K 1 F_take)) : FnG P w K mg base 3 f fd ["_law_box_here", "_law_most", "_law_wide"] (spD K 103 F__law_line) := by
  unfold F__law_line
  exact okD F sc__law_line (s__law_line K) fun cdv A outer s H hG hr => (pss_cons (ps_set (i := 3) sc__law_line.nd rfl (by first | exact .inl rfl | exact .inr rfl) (pe_df D__law_pick hG (hr.mono (by decide)) (by rfl) (pa_cons (pv 0) (pa_cons (pe_lst (pa_cons pe_str (pa_cons pe_str (pa_cons pe_str pa_nil)))) pa_nil)))) (pss_cons (ps_set (i := 4) sc__law_line.nd rfl (by first | exact .inl rfl | exact .inr rfl) (pe_op op_addX pe_int (pe_callTy call_int1 (by rfl) N.int (by decide +kernel) (pa_cons (pe_cmpR (op_eqX hr.units) (pv 3) pe_str (nomark _)) pa_nil)))) (pss_cons (ps_set (i := 5) sc__law_line.nd rfl (by first | exact .inl rfl | exact .inr rfl) (pe_df D__law_pick hG (hr.mono (by decide)) (by rfl) (pa_cons (pv 0) (pa_cons (pe_lst (pa_cons pe_int (pa_cons pe_int (pa_cons pe_int (pa_cons (pv 2) (pa_cons (pv 2) pa_nil)))))) pa_nil)))) (pss_one (ps_ret (pe_tup (pa_cons (pv 3) (pa_cons (pe_tupleOf (by rfl) N.tuple (pe_lc (own := [("_law_k", 6)]) rfl sc__law_line.nd (pi_range1 (by rfl) N.range (pa_cons (pe_op op_addX (pv 4) (pe_df D__law_take hG (hr.mono (by decide)) (by rfl) (pa_cons (pv 0) (pa_cons (pe_op op_sub (pe_op op_addX (pv 1) pe_int) (pv 4)) pa_nil)))) pa_nil)) (blkOk_by (N := ["_law_box_here", "_law_most", "_law_wide", "_law_form", "_law_least", "_law_top", "_law_k"]) (sc := defScope (topS 29)) (by decide +kernel)) (fun _ _ _ _ _ => (pg_name (i := 6) sc__law_line.nd rfl (by first | exact .inl rfl | exact .inr rfl))) (fun _ _ _ _ _ => pts_nil) (fun _ _ _ _ _ => (pe_op op_addX pe_int (pe_df D__law_take hG (hr.mono (by decide)) (by rfl) (pa_cons (pv 0) (pa_cons (pv 5) pa_nil))))))) pa_nil))))))))
end
end Kc
namespace Kc
open PySem PySem.Spec PyProof.Rows L2 Xg Dv Kd
section
variable {P : Program} {w : World} {K : PySem.W.Frag} {mg : Str → Option Value} {base : Heap}
theorem sc__law_gates : FnScope ["_law_line_here"] ["_law_line_here"] (defScope (topS 30)) := ⟨rfl, rfl, rfl, by decide +kernel, rfl, by decide +kernel, by decide +kernel⟩
theorem ok__law_gates {f : Addr} {fd : FuncData} (F : Fun K "_law_gates" "_law_gates" (topS 30) f fd) (N : Nm mg) : FnG P w K mg base 1 f fd ["_law_line_here"] (spD K 0 F__law_gates) := by
  unfold F__law_gates
  exact okD F sc__law_gates (s__law_gates K) fun cdv A outer s H hG hr => (pss_one (ps_ret (pe_op op_addX (pe_callB call_len (by rfl) N.len PySem.boot_len (pa_cons (pe_ix ix_seq (pv 0) pe_int (fun _ _ => rfl)) pa_nil)) (pe_callTy call_int1 (by rfl) N.int (by decide +kernel) (pa_cons (pe_cmpR (op_eqX hr.units) (pe_ix ix_seq (pv 0) pe_int (fun _ _ => rfl)) pe_str (nomark _)) pa_nil)))))
end
end Kc
namespace Kc
open PySem PySem.Spec PyProof.Rows L2 Xg Dv Kd
section
variable {P : Program} {w : World} {K : PySem.W.Frag} {mg : Str → Option Value} {base : Heap}
theorem sc__law_widths : FnScope ["_law_box_here", "_law_line_here", "_law_wide", "_law_odds", "_law_found", "_law_gate", "_law_width"] ["_law_box_here", "_law_line_here", "_law_wide"] (defScope (topS 31)) := ⟨rfl, rfl, rfl, by decide +kernel, rfl, by decide +kernel, by decide +kernel⟩
theorem ok__law_widths {f : Addr} {fd : FuncData} (F : Fun K "_law_widths" "_law_widths" (topS 31) f fd) (N : Nm mg) (D__law_gates : Df P w K mg base "_law_gates" ["_law_line_here"] 1 (spD K 0 F__law_gates)) (D__law_pick : Df P w K mg base "_law_pick" ["_law_box_here", "_law_some"] 2 (spD K 1 F__law_pick)) (D__law_take : Df P w K mg base "_law_take" ["_law_box_here", "_law_size"] 1 (spD K 1 F_take)) : FnG P w K mg base 3 f fd ["_law_box_here", "_law_line_here", "_law_wide"] (spD K 202 F__law_widths) := by
  unfold F__law_widths
  exact okD F sc__law_widths (s__law_widths K) fun cdv A outer s H hG hr => (pss_cons (ps_set (i := 3) sc__law_widths.nd rfl (by first | exact .inl rfl | exact .inr rfl) (pe_df D__law_pick hG (hr.mono (by decide)) (by rfl) (pa_cons (pv 0) (pa_cons (pe_lst (pa_cons (pe_lst (pa_cons pe_non pa_nil)) (pa_cons (pe_lst (pa_cons pe_non (pa_cons pe_non (pa_cons (pv 2) pa_nil)))) (pa_cons (pe_lst (pa_cons (pv 2) pa_nil)) (pa_cons (pe_lst (pa_cons pe_int (pa_cons pe_int (pa_cons (pv 2) (pa_cons pe_non pa_nil))))) (pa_cons (pe_lst (pa_cons pe_int (pa_cons pe_int (pa_cons (pv 2) pa_nil)))) pa_nil)))))) pa_nil)))) (pss_cons (ps_set (i := 4) sc__law_widths.nd rfl (by first | exact .inl rfl | exact .inr rfl) (pe_lst pa_nil)) (pss_cons (ps_for PassesOwn.never rfl (pi_range1 (by rfl) N.range (pa_cons (pe_df D__law_gates hG (hr.mono (by decide)) (by rfl) (pa_cons (pv 1) pa_nil)) pa_nil)) (pg_name (i := 5) sc__law_widths.nd rfl (by first | exact .inl rfl | exact .inr rfl)) (pss_cons (ps_set (i := 6) sc__law_widths.nd rfl (by first | exact .inl rfl | exact .inr rfl) (pe_df D__law_pick hG (hr.mono (by decide)) (by rfl) (pa_cons (pv 0) (pa_cons (pv 3) pa_nil)))) (pss_one (ps_expr (pe_bm PySem.F.plainAttrs_list PySem.F.slot_list_append PySem.F.type_list_append mt_append (pv 4) (pa_cons (pe_ifExp (L2.PW.pt (pw_or (pt_cmpR op_isN (pv 6) pe_non (nomark _)) (pw_or1 (pt_cmpR op_lt (pv 6) pe_int (nomark _))))) (pv 6) (pe_op op_addX pe_int (pe_df D__law_take hG (hr.mono (by decide)) (by rfl) (pa_cons (pv 0) (pa_cons (pv 6) pa_nil))))) pa_nil)))))) (pss_cons (ps_if (L2.PW.pt (pw_and (pt_cmpR (op_eqX hr.units) (pe_ix ix_seq (pv 1) pe_int (fun _ _ => rfl)) pe_str (nomark _)) (pw_and1 (pt_cmpR (op_eqX hr.units) (pe_df D__law_take hG (hr.mono (by decide)) (by rfl) (pa_cons (pv 0) (pa_cons pe_int pa_nil))) pe_int (nomark _))))) (pss_one (ps_set (i := 4) sc__law_widths.nd rfl (by first | exact .inl rfl | exact .inr rfl) (pe_op op_cat (pe_op op_addX (pe_lst (pa_cons pe_int pa_nil)) (pe_slice sl_X (pv 4) (po_some pe_int) (po_some (pe_un un_neg pe_int)))) (pe_lst (pa_cons pe_int pa_nil))))) pss_nil) (pss_one (ps_ret (pe_tupleOf (by rfl) N.tuple (pv 4))))))))
end
end Kc
namespace Kc
open PySem PySem.Spec PyProof.Rows L2 Xg Dv Kd
section
variable {P : Program} {w : World} {K : PySem.W.Frag} {mg : Str → Option Value} {base : Heap}
theorem sc__law_lying : FnScope ["_law_box_here", "_law_line_here", "_law_odds", "_law_found", "_law_room"] ["_law_box_here", "_law_line_here"] (defScope (topS 32)) := ⟨rfl, rfl, rfl, by decide +kernel, rfl, by decide +kernel, by decide +kernel⟩
theorem ok__law_lying {f : Addr} {fd : FuncData} (F : Fun K "_law_lying" "_law_lying" (topS 32) f fd) (N : Nm mg) (D__law_pick : Df P w K mg base "_law_pick" ["_law_box_here", "_law_some"] 2 (spD K 1 F__law_pick)) (D__law_take : Df P w K mg base "_law_take" ["_law_box_here", "_law_size"] 1 (spD K 1 F_take)) : FnG P w K mg base 3 f fd ["_law_box_here", "_law_line_here"] (spD K 301 F__law_lying) := by
  unfold F__law_lying
  exact okD F sc__law_lying (s__law_lying K) fun cdv A outer s H hG hr => (pss_cons (ps_set (i := 2) sc__law_lying.nd rfl (by first | exact .inl rfl | exact .inr rfl) (pe_df D__law_pick hG (hr.mono (by decide)) (by rfl) (pa_cons (pv 0) (pa_cons (pe_lst (pa_cons (pe_lst (pa_cons pe_int (pa_cons pe_int (pa_cons pe_int pa_nil)))) (pa_cons (pe_lst (pa_cons pe_int pa_nil)) (pa_cons (pe_lst (pa_cons pe_int pa_nil)) (pa_cons (pe_lst (pa_cons pe_int (pa_cons pe_int pa_nil))) (pa_cons (pe_lst (pa_cons pe_int (pa_cons pe_int pa_nil))) pa_nil)))))) pa_nil)))) (pss_cons (ps_set (i := 3) sc__law_lying.nd rfl (by first | exact .inl rfl | exact .inr rfl) (pe_lst pa_nil)) (pss_cons (ps_for PassesOwn.never rfl (Pw.pi_seq (pe_ix ix_seq (pv 1) pe_int (fun _ _ => rfl))) (pg_name (i := 4) sc__law_lying.nd rfl (by first | exact .inl rfl | exact .inr rfl)) (pss_one (ps_expr (pe_bm PySem.F.plainAttrs_list PySem.F.slot_list_append PySem.F.type_list_append mt_append (pv 3) (pa_cons (pe_df D__law_pick hG (hr.mono (by decide)) (by rfl) (pa_cons (pv 0) (pa_cons (pe_slice sl_X (pe_lst (pa_cons pe_int (pa_cons (pv 4) (pa_cons (pe_df D__law_take hG (hr.mono (by decide)) (by rfl) (pa_cons (pv 0) (pa_cons (pe_op op_addX (pv 4) pe_int) pa_nil))) pa_nil)))) po_none (po_some (pe_op op_addX pe_int (pe_df D__law_pick hG (hr.mono (by decide)) (by rfl) (pa_cons (pv 0) (pa_cons (pv 2) pa_nil)))))) pa_nil))) pa_nil))))) (pss_one (ps_ret (pe_tupleOf (by rfl) N.tuple (pv 3)))))))
end
end Kc
namespace Kc
open PySem PySem.Spec PyProof.Rows L2 Xg Dv Kd
section
variable {P : Program} {w : World} {K : PySem.W.Frag} {mg : Str → Option Value} {base : Heap}
theorem sc__law_number : FnScope ["_law_word", "_law_figures", "_law_sign"] ["_law_word", "_law_figures"] (defScope (topS 33)) := ⟨rfl, rfl, rfl, by decide +kernel, rfl, by decide +kernel, by decide +kernel⟩
theorem ok__law_number {f : Addr} {fd : FuncData} (F : Fun K "_law_number" "_law_number" (topS 33) f fd) (N : Nm mg) : FnG P w K mg base 1 f fd ["_law_word", "_law_figures"] (spD K 0 F__law_number) := by
  unfold F__law_number
  exact okD F sc__law_number (s__law_number K) fun cdv A outer s H hG hr => (pss_cons (ps_if (L2.PW.pt (pw_or (pt_not (pt_chain op_lt op_le pe_int (pe_callB call_len_str (by rfl) N.len (by decide +kernel) (pa_cons (pv 0) pa_nil)) (pv 1))) (pw_or1 (pt_not (pt_val (pe_callB (cr_all rfl) (by rfl) N.all (by decide +kernel) (pa_cons (pe_lc (own := [("_law_sign", 2)]) rfl sc__law_number.nd (pi_str (pv 0)) (blkOk_by (N := ["_law_word", "_law_figures", "_law_sign"]) (sc := defScope (topS 33)) (by decide +kernel)) (fun _ _ _ _ _ => (pg_name (i := 2) sc__law_number.nd rfl (by first | exact .inl rfl | exact .inr rfl))) (fun _ _ _ _ _ => pts_nil) (fun _ _ _ _ _ => (pe_cmpR op_inS (pv 2) pe_str (by rfl)))) pa_nil))))))) (pss_one (ps_ret pe_non)) pss_nil) (pss_one (ps_ret (pe_ifExp (L2.PW.pt (pw_or (pt_cmpR (op_eqX hr.units) (pv 0) pe_str (nomark _)) (pw_or1 (pt_cmpR (op_neX hr.units) (pe_ix ix_str (pv 0) pe_int (fun _ _ => rfl)) pe_str (nomark _))))) (pe_callTy call_int_str (by rfl) N.int (by decide +kernel) (pa_cons (pv 0) pa_nil)) pe_non))))
end
end Kc
namespace Kc
open PySem PySem.Spec PyProof.Rows L2 Xg Dv Kd
section
variable {P : Program} {w : World} {K : PySem.W.Frag} {mg : Str → Option Value} {base : Heap}
theorem sc__law_spoilt : FnScope ["_law_box_here", "_law_text_here", "_law_signs", "_law_words", "_law_way", "_law_at", "_law_spot", "_law_some", "_law_word"] ["_law_box_here", "_law_text_here"] (defScope (topS 34)) := ⟨rfl, rfl, rfl, by decide +kernel, rfl, by decide +kernel, by decide +kernel⟩
theorem ok__law_spoilt {f : Addr} {fd : FuncData} (F : Fun K "_law_spoilt" "_law_spoilt" (topS 34) f fd) (N : Nm mg) (D__law_pick : Df P w K mg base "_law_pick" ["_law_box_here", "_law_some"] 2 (spD K 1 F__law_pick)) (D__law_pick__x : Df P w K mg base "_law_pick" ["_law_box_here", "_law_some"] 2 (spD K 1 F__law_pick__x)) (D__law_take : Df P w K mg base "_law_take" ["_law_box_here", "_law_size"] 1 (spD K 1 F_take)) : FnG P w K mg base 3 f fd ["_law_box_here", "_law_text_here"] (spD K 7 F__law_spoilt) := by
  unfold F__law_spoilt
  exact okD F sc__law_spoilt (s__law_spoilt K) fun cdv A outer s H hG hr => (pss_cons (ps_par (i := 2) (j := 3) rfl sc__law_spoilt.nd rfl rfl (by decide) rfl rfl (pa_cons pe_str (pa_cons (pe_split (pv 1) pe_str) pa_nil)) (by rfl)) (pss_cons (ps_par3 (i := 4) (j := 5) (l := 6) rfl sc__law_spoilt.nd rfl rfl rfl (by decide) (by decide) (by decide) rfl rfl rfl (pa_cons (pe_df D__law_take hG (hr.mono (by decide)) (by rfl) (pa_cons (pv 0) (pa_cons pe_int pa_nil))) (pa_cons (pe_df D__law_take hG (hr.mono (by decide)) (by rfl) (pa_cons (pv 0) (pa_cons (pe_op op_addX (pe_callB call_len_str (by rfl) N.len (by decide +kernel) (pa_cons (pv 1) pa_nil)) pe_int) pa_nil))) (pa_cons (pe_df D__law_take hG (hr.mono (by decide)) (by rfl) (pa_cons (pv 0) (pa_cons (pe_callB call_len (by rfl) N.len PySem.boot_len (pa_cons (pv 3) pa_nil)) pa_nil))) pa_nil))) (by rfl)) (pss_cons (ps_set (i := 7) sc__law_spoilt.nd rfl (by first | exact .inl rfl | exact .inr rfl) (pe_lst (pa_cons pe_str (pa_cons pe_str (pa_cons pe_str (pa_cons pe_str (pa_cons pe_str (pa_cons pe_str (pa_cons pe_str (pa_cons pe_str (pa_cons pe_str (pa_cons pe_str (pa_cons pe_str (pa_cons pe_str (pa_cons (pe_op op_mulS pe_str pe_int) (pa_cons (pe_ix ix_seq (pv 3) pe_int (fun _ _ => rfl)) pa_nil)))))))))))))))) (pss_cons (ps_set (i := 7) sc__law_spoilt.nd rfl (by first | exact .inl rfl | exact .inr rfl) (pe_op op_addX (pv 7) (pe_lst (pa_cons (pe_op op_mulS pe_str pe_int) (pa_cons (pe_op op_mulS pe_str pe_int) (pa_cons (pe_op op_addS pe_str (pe_op op_mulS pe_str pe_int)) (pa_cons (pe_op op_addS pe_str (pe_op op_mulS pe_str pe_int)) (pa_cons (pe_op op_mulS pe_str pe_int) pa_nil)))))))) (pss_cons (ps_set (i := 8) sc__law_spoilt.nd rfl (by first | exact .inl rfl | exact .inr rfl) (pe_df D__law_pick hG (hr.mono (by decide)) (by rfl) (pa_cons (pv 0) (pa_cons (pv 7) pa_nil)))) (pss_cons (ps_if (pt_cmpR (op_eqX hr.units) (pv 4) pe_int (nomark _)) (pss_one (ps_ret (pe_op op_addS (pe_slice sl_str (pv 1) po_none (po_some (pv 5))) (pe_slice sl_str (pv 1) (po_some (pe_op op_addX (pv 5) pe_int)) po_none)))) pss_nil) (pss_cons (ps_if (pt_cmpR (op_eqX hr.units) (pv 4) pe_int (nomark _)) (pss_one (ps_ret (pe_op op_addS (pe_op op_addS (pe_slice sl_str (pv 1) po_none (po_some (pv 5))) (pe_df D__law_pick__x hG (hr.mono (by decide)) (by rfl) (pa_cons (pv 0) (pa_cons (pv 2) pa_nil)))) (pe_slice sl_str (pv 1) (po_some (pv 5)) po_none)))) pss_nil) (pss_cons (ps_if (pt_cmpR (op_eqX hr.units) (pv 4) pe_int (nomark _)) (pss_one (ps_ret (pe_op op_addS (pe_op op_addS (pe_slice sl_str (pv 1) po_none (po_some (pv 5))) (pe_df D__law_pick__x hG (hr.mono (by decide)) (by rfl) (pa_cons (pv 0) (pa_cons (pv 2) pa_nil)))) (pe_slice sl_str (pv 1) (po_some (pe_op op_addX (pv 5) pe_int)) po_none)))) pss_nil) (pss_cons (ps_if (pt_cmpR (op_eqX hr.units) (pv 4) pe_int (nomark _)) (pss_one (ps_ret (pe_join pe_str (pe_op op_addX (pe_slice sl_X (pv 3) po_none (po_some (pv 6))) (pe_slice sl_X (pv 3) (po_some (pe_op op_addX (pv 6) pe_int)) po_none))))) pss_nil) (pss_cons (ps_if (pt_cmpR (op_eqX hr.units) (pv 4) pe_int (nomark _)) (pss_one (ps_ret (pe_join pe_str (pe_op op_addX (pe_slice sl_X (pv 3) po_none (po_some (pe_op op_addX (pv 6) pe_int))) (pe_slice sl_X (pv 3) (po_some (pv 6)) po_none))))) pss_nil) (pss_cons (ps_if (pt_cmpR (op_eqX hr.units) (pv 4) pe_int (nomark _)) (pss_one (ps_ret (pe_join pe_str (pe_op op_addX (pe_op op_addX (pe_slice sl_X (pv 3) po_none (po_some (pv 6))) (pe_lst (pa_cons (pv 8) pa_nil))) (pe_slice sl_X (pv 3) (po_some (pe_op op_addX (pv 6) pe_int)) po_none))))) pss_nil) (pss_cons (ps_if (pt_cmpR (op_eqX hr.units) (pv 4) pe_int (nomark _)) (pss_one (ps_ret (pe_join pe_str (pe_op op_addX (pe_op op_addX (pe_slice sl_X (pv 3) po_none (po_some (pv 6))) (pe_lst (pa_cons (pv 8) pa_nil))) (pe_slice sl_X (pv 3) (po_some (pv 6)) po_none))))) pss_nil) (pss_one (ps_ret (pe_ifExp (pt_cmpR (op_eqX hr.units) (pv 4) pe_int (nomark _)) (pe_slice sl_str (pv 1) po_none (po_some (pv 5))) (pe_op op_addS (pv 1) (pe_df D__law_pick hG (hr.mono (by decide)) (by rfl) (pa_cons (pv 0) (pa_cons (pe_lst (pa_cons pe_str (pa_cons pe_str (pa_cons pe_str (pa_cons pe_str pa_nil))))) pa_nil)))))))))))))))))))
end
end Kc
namespace Kc
open PySem PySem.Spec PyProof.Rows L2 Xg Dv Kd
section
variable {P : Program} {w : World} {K : PySem.W.Frag} {mg : Str → Option Value} {base : Heap}
theorem sc__law_text : FnScope ["_law_line_here", "_law_widths_here", "_law_lot", "_law_words", "_law_gate", "_law_part"] ["_law_line_here", "_law_widths_here", "_law_lot"] (defScope (topS 35)) := ⟨rfl, rfl, rfl, by decide +kernel, rfl, by decide +kernel, by decide +kernel⟩
theorem ok__law_text {f : Addr} {fd : FuncData} (F : Fun K "_law_text" "_law_text" (topS 35) f fd) (N : Nm mg) : FnG P w K mg base 1 f fd ["_law_line_here", "_law_widths_here", "_law_lot"] (spD K 0 F__law_text) := by
  unfold F__law_text
  exact okD F sc__law_text (s__law_text K) fun cdv A outer s H hG hr => (pss_cons (ps_set (i := 3) sc__law_text.nd rfl (by first | exact .inl rfl | exact .inr rfl) (pe_lst (pa_cons (pe_ix ix_seq (pv 0) pe_int (fun _ _ => rfl)) pa_nil))) (pss_cons (ps_for PassesOwn.never rfl (Pw.pi_enumX (by rfl) N.enumerate (pa_cons (pv 2) pa_nil)) (pg_or (pg_tup rfl (pgs_cons (pg_name (i := 4) sc__law_text.nd rfl (by first | exact .inl rfl | exact .inr rfl)) (pgs_cons (pg_name (i := 5) sc__law_text.nd rfl (by first | exact .inl rfl | exact .inr rfl)) pgs_nil))) (pg_lst rfl (pgs_cons (pg_name (i := 4) sc__law_text.nd rfl (by first | exact .inl rfl | exact .inr rfl)) (pgs_cons (pg_name (i := 5) sc__law_text.nd rfl (by first | exact .inl rfl | exact .inr rfl)) pgs_nil)))) (pss_one (ps_expr (pe_bm PySem.F.plainAttrs_list PySem.F.slot_list_extend PySem.F.type_list_extend mt_extend (pv 3) (pa_cons (pe_lst (pa_cons (pe_ifExp (pt_cmpR op_isN (pe_ix ix_seq (pv 1) (pv 4) (fun _ _ => rfl)) pe_non (nomark _)) pe_str (pe_callTy call_str_int (by rfl) N.str (by decide +kernel) (pa_cons (pe_ix ix_seq (pv 1) (pv 4) (fun _ _ => rfl)) pa_nil))) (pa_cons (pe_op op_addS (pe_op op_addS (pe_callTy call_str_int (by rfl) N.str (by decide +kernel) (pa_cons (pv 5) pa_nil)) pe_str) (pe_callTy call_str_int (by rfl) N.str (by decide +kernel) (pa_cons (pe_ix ix_seq (pe_ix ix_seq (pv 0) pe_int (fun _ _ => rfl)) (pv 4) (fun _ _ => rfl)) pa_nil))) pa_nil))) pa_nil))))) (pss_cons (ps_if (pt_cmpR (op_eqX hr.units) (pe_ix ix_seq (pv 0) pe_int (fun _ _ => rfl)) pe_str (nomark _)) (pss_one (ps_expr (pe_bm PySem.F.plainAttrs_list PySem.F.slot_list_append PySem.F.type_list_append mt_append (pv 3) (pa_cons (pe_ifExp (pt_cmpR op_isN (pe_ix ix_seq (pv 1) (pe_un un_neg pe_int) (fun _ _ => rfl)) pe_non (nomark _)) pe_str (pe_callTy call_str_int (by rfl) N.str (by decide +kernel) (pa_cons (pe_ix ix_seq (pv 1) (pe_un un_neg pe_int) (fun _ _ => rfl)) pa_nil))) pa_nil)))) pss_nil) (pss_one (ps_ret (pe_join pe_str (pv 3)))))))
end
end Kc
namespace Kc
open PySem PySem.Spec PyProof.Rows L2 Xg Dv Kd
section
variable {P : Program} {w : World} {K : PySem.W.Frag} {mg : Str → Option Value} {base : Heap}
theorem sc__law_bin : FnScope ["_law_word", "_law_parts", "_law_part"] ["_law_word"] (defScope (topS 36)) := ⟨rfl, rfl, rfl, by decide +kernel, rfl, by decide +kernel, by decide +kernel⟩
theorem ok__law_bin {f : Addr} {fd : FuncData} (F : Fun K "_law_bin" "_law_bin" (topS 36) f fd) (N : Nm mg) (D__law_number : Df P w K mg base "_law_number" ["_law_word", "_law_figures"] 1 (spD K 0 F__law_number)) : FnG P w K mg base 2 f fd ["_law_word"] (spD K 0 F__law_bin) := by
  unfold F__law_bin
  exact okD F sc__law_bin (s__law_bin K) fun cdv A outer s H hG hr => (pss_cons (ps_setLc (i := 1) (own := [("_law_part", 2)]) rfl sc__law_bin.nd rfl rfl (sw_true rfl rfl rfl (by decide +kernel)) (Pw.pi_seq (pe_split (pv 0) pe_str)) (blkOk_by (N := ["_law_word", "_law_parts", "_law_part"]) (sc := defScope (topS 36)) (by decide +kernel)) (fun _ _ _ _ _ => (pg_name (i := 2) sc__law_bin.nd rfl (by first | exact .inl rfl | exact .inr rfl))) (fun _ _ _ _ _ => pts_nil) (fun _ _ _ _ _ => (pe_df D__law_number hG (hr.mono (by decide)) (by rfl) (pa_cons (pv 2) (pa_cons pe_int pa_nil))))) (pss_cons (ps_if (L2.PW.pt (pw_or (pt_cmpR (op_neX hr.units) (pe_callB call_len (by rfl) N.len PySem.boot_len (pa_cons (pv 1) pa_nil)) pe_int (nomark _)) (pw_or (pt_cmpR (op_inD (un65 hr)) pe_non (pv 1) (by rfl)) (pw_or (pt_cmpR op_lt (pe_ix ix_seq (pv 1) pe_int (fun _ _ => rfl)) pe_int (nomark _)) (pw_or1 (pt_cmpR op_gt (pe_ix ix_seq (pv 1) pe_int (fun _ _ => rfl)) (pe_ix ix_seq (pv 1) pe_int (fun _ _ => rfl)) (nomark _))))))) (pss_one (ps_ret pe_non)) pss_nil) (pss_one (ps_ret (pv 1)))))
end
end Kc
namespace Kc
open PySem PySem.Spec PyProof.Rows L2 Xg Dv Kd
section
variable {P : Program} {w : World} {K : PySem.W.Frag} {mg : Str → Option Value} {base : Heap}
theorem sc__law_read : FnScope ["_law_text_here", "_law_words", "_law_rooms", "_law_widths_here", "_law_lot", "_law_at", "_law_word", "_law_least", "_law_parts"] ["_law_text_here"] (defScope (topS 37)) := ⟨rfl, rfl, rfl, by decide +kernel, rfl, by decide +kernel, by decide +kernel⟩
theorem ok__law_read {f : Addr} {fd : FuncData} (F : Fun K "_law_read" "_law_read" (topS 37) f fd) (N : Nm mg) (D__law_bin : Df P w K mg base "_law_bin" ["_law_word"] 2 (spD K 0 F__law_bin)) (D__law_number : Df P w K mg base "_law_number" ["_law_word", "_law_figures"] 1 (spD K 0 F__law_number)) : FnG P w K mg base 3 f fd ["_law_text_here"] (spD K 0 F__law_read) := by
  unfold F__law_read
  exact okD F sc__law_read (s__law_read K) fun cdv A outer s H hG hr => (pss_cons (ps_asg (pe_tup (pa_cons (pe_split (pv 0) pe_str) (pa_cons (pe_lst pa_nil) (pa_cons (pe_lst pa_nil) (pa_cons (pe_lst pa_nil) pa_nil))))) (pg_tup rfl (pgs_cons (pg_name (i := 1) sc__law_read.nd rfl (by first | exact .inl rfl | exact .inr rfl)) (pgs_cons (pg_name (i := 2) sc__law_read.nd rfl (by first | exact .inl rfl | exact .inr rfl)) (pgs_cons (pg_name (i := 3) sc__law_read.nd rfl (by first | exact .inl rfl | exact .inr rfl)) (pgs_cons (pg_name (i := 4) sc__law_read.nd rfl (by first | exact .inl rfl | exact .inr rfl)) pgs_nil)))))) (pss_cons (ps_if (pt_cmpR op_notIn_seq (pe_ix ix_seq (pv 1) pe_int (fun _ _ => rfl)) (pe_tup (pa_cons pe_str (pa_cons pe_str pa_nil))) (by rfl)) (pss_one (ps_ret pe_int)) pss_nil) (pss_cons (ps_for PassesOwn.never rfl (Pw.pi_enumX (by rfl) N.enumerate (pa_cons (pe_slice sl_X (pv 1) (po_some pe_int) po_none) pa_nil)) (pg_or (pg_tup rfl (pgs_cons (pg_name (i := 5) sc__law_read.nd rfl (by first | exact .inl rfl | exact .inr rfl)) (pgs_cons (pg_name (i := 6) sc__law_read.nd rfl (by first | exact .inl rfl | exact .inr rfl)) pgs_nil))) (pg_lst rfl (pgs_cons (pg_name (i := 5) sc__law_read.nd rfl (by first | exact .inl rfl | exact .inr rfl)) (pgs_cons (pg_name (i := 6) sc__law_read.nd rfl (by first | exact .inl rfl | exact .inr rfl)) pgs_nil)))) (pss_one (ps_if (pt_cmpR (op_eqX hr.units) (pe_op op_mod (pv 5) pe_int) pe_int (nomark _)) (pss_cons (ps_if (L2.PW.pt (pw_and (pt_cmpR (op_neX hr.units) (pv 6) pe_str (nomark _)) (pw_and1 (pt_cmpR op_isN (pe_df D__law_number hG (hr.mono (by decide)) (by rfl) (pa_cons (pv 6) (pa_cons pe_int pa_nil))) pe_non (nomark _))))) (pss_one (ps_ret (pe_op op_addX (pv 5) pe_int))) pss_nil) (pss_one (ps_expr (pe_bm PySem.F.plainAttrs_list PySem.F.slot_list_append PySem.F.type_list_append mt_append (pv 3) (pa_cons (pe_ifExp (pt_cmpR (op_eqX hr.units) (pv 6) pe_str (nomark _)) pe_non (pe_callTy call_int_str (by rfl) N.int (by decide +kernel) (pa_cons (pv 6) pa_nil))) pa_nil))))) (pss_cons (ps_set (i := 8) sc__law_read.nd rfl (by first | exact .inl rfl | exact .inr rfl) (pe_df D__law_bin hG (hr.mono (by decide)) (by rfl) (pa_cons (pv 6) pa_nil))) (pss_cons (ps_if (pt_cmpR op_isN (pv 8) pe_non (nomark _)) (pss_one (ps_ret (pe_op op_addX (pv 5) pe_int))) pss_nil) (pss_cons (ps_expr (pe_bm PySem.F.plainAttrs_list PySem.F.slot_list_append PySem.F.type_list_append mt_append (pv 4) (pa_cons (pe_ix ix_seq (pv 8) pe_int (fun _ _ => rfl)) pa_nil))) (pss_one (ps_expr (pe_bm PySem.F.plainAttrs_list PySem.F.slot_list_append PySem.F.type_list_append mt_append (pv 2) (pa_cons (pe_ix ix_seq (pv 8) pe_int (fun _ _ => rfl)) pa_nil)))))))))) (pss_cons (ps_set (i := 7) sc__law_read.nd rfl (by first | exact .inl rfl | exact .inr rfl) (pe_ifExp (pt_cmpR (op_eqX hr.units) (pe_ix ix_seq (pv 1) pe_int (fun _ _ => rfl)) pe_str (nomark _)) pe_int pe_int)) (pss_cons (ps_if (L2.PW.pt (pw_or (pt_cmpR op_lt (pe_callB call_len (by rfl) N.len PySem.boot_len (pa_cons (pv 2) pa_nil)) (pv 7) (nomark _)) (pw_or1 (pt_cmpR (op_neX hr.units) (pe_callB call_len (by rfl) N.len PySem.boot_len (pa_cons (pv 3) pa_nil)) (pe_op op_addX (pe_callB call_len (by rfl) N.len PySem.boot_len (pa_cons (pv 2) pa_nil)) (pe_callTy call_int1 (by rfl) N.int (by decide +kernel) (pa_cons (pe_cmpR (op_eqX hr.units) (pe_ix ix_seq (pv 1) pe_int (fun _ _ => rfl)) pe_str (nomark _)) pa_nil))) (nomark _))))) (pss_one (ps_ret (pe_callB call_len (by rfl) N.len PySem.boot_len (pa_cons (pv 1) pa_nil)))) pss_nil) (pss_one (ps_ret (pe_tup (pa_cons (pe_tup (pa_cons (pe_ix ix_seq (pv 1) pe_int (fun _ _ => rfl)) (pa_cons (pe_tupleOf (by rfl) N.tuple (pv 2)) pa_nil))) (pa_cons (pe_tupleOf (by rfl) N.tuple (pv 3)) (pa_cons (pe_tupleOf (by rfl) N.tuple (pv 4)) pa_nil)))))))))))
end
end Kc
namespace Kc
open PySem PySem.Spec PyProof.Rows L2 Xg Dv Kd
section
variable {P : Program} {w : World} {K : PySem.W.Frag} {mg : Str → Option Value} {base : Heap}
theorem sc__law_told : FnScope ["_law_text_here", "_law_found", "_law_caught", "_law_fine", "error"] ["_law_text_here"] (defScope (topS 38)) := ⟨rfl, rfl, rfl, by decide +kernel, rfl, by decide +kernel, by decide +kernel⟩
theorem ok__law_told {f : Addr} {fd : FuncData} (F : Fun K "_law_told" "_law_told" (topS 38) f fd) (N : Nm mg) (D_line_in : Df P w K mg base "line_in" ["text"] 4 (spD K 0 F_line_in)) (DB_line_in : Ex.DfB P w K mg base "line_in" ["text"] 4 4 (spD K 0 F_line_in) (Ex.spR K 0 R_line_in)) (gc_BadDeed : mg "BadDeed" = some (.ref (Ex.ca K "BadDeed"))) (gc_BadRow : mg "BadRow" = some (.ref (Ex.ca K "BadRow"))) (gc_BadWord : mg "BadWord" = some (.ref (Ex.ca K "BadWord"))) (gc_NoStep : mg "NoStep" = some (.ref (Ex.ca K "NoStep"))) (gc_NotAlike : mg "NotAlike" = some (.ref (Ex.ca K "NotAlike"))) (gc_Unlike : mg "Unlike" = some (.ref (Ex.ca K "Unlike"))) (XF_0 : ∀ x ∈ (["BadWord"] : List Str), ExcC K (Ex.ca K x)) (XF_1 : ∀ x ∈ (["BadWord"] : List Str), PySem.W.exmAny K (.ref (Ex.ca K x)) [.ref (Ex.ca K "BadDeed"), .ref (Ex.ca K "BadRow"), .ref (Ex.ca K "BadWord"), .ref (Ex.ca K "NoStep"), .ref (Ex.ca K "NotAlike"), .ref (Ex.ca K "Unlike")] = some true) (XF_2 : ∀ x ∈ (["BadWord"] : List Str), PySem.W.kitOne K (.ref (Ex.ca K x)) (.ref (Ex.ca K "BadWord")) = some (decide (x = "BadWord"))) (XF_3 : ∀ x ∈ (["BadWord"] : List Str), PySem.W.kitOne K (.ref (Ex.ca K x)) (.type "ValueError") = some true) (XF_4 : ∀ x ∈ (["BadWord"] : List Str), PySem.W.kitAny K (.ref (Ex.ca K x)) ((["BadDeed", "BadRow", "NoStep", "NotAlike", "Unlike"] : List Str).map fun y => .ref (Ex.ca K y)) = some ((["BadDeed", "BadRow", "NoStep", "NotAlike", "Unlike"] : List Str).contains x)) (XF_5 : ∀ x ∈ (["BadWord"] : List Str), PySem.W.findIn K (.ref (Ex.ca K x)) "at" = some none) : FnG P w K mg base 5 f fd ["_law_text_here"] (spD K 0 F__law_told) := by
  unfold F__law_told
  exact okD F sc__law_told (s__law_told K) fun cdv A outer s H hG hr => (pss_cons (ps_asg (pe_tup (pa_cons pe_non (pa_cons pe_non pa_nil))) (pg_or (pg_tup rfl (pgs_cons (pg_name (i := 1) sc__law_told.nd rfl (by first | exact .inl rfl | exact .inr rfl)) (pgs_cons (pg_name (i := 2) sc__law_told.nd rfl (by first | exact .inl rfl | exact .inr rfl)) pgs_nil))) (pg_lst rfl (pgs_cons (pg_name (i := 1) sc__law_told.nd rfl (by first | exact .inl rfl | exact .inr rfl)) (pgs_cons (pg_name (i := 2) sc__law_told.nd rfl (by first | exact .inl rfl | exact .inr rfl)) pgs_nil))))) (pss_cons (Ex.ps_given XF_0 (Ex.ps_tryS (i := 4) (j := 2) rfl rfl rfl sc__law_told.nd rfl rfl (fun x hx => Ex.ht_tup6 (by rfl) (by rfl) (by rfl) (by rfl) (by rfl) (by rfl) gc_BadDeed gc_BadRow gc_BadWord gc_NoStep gc_NotAlike gc_Unlike (XF_1 x hx)) (fun W pn xe tk => (pss_one (ps_set (i := 1) sc__law_told.nd rfl (by first | exact .inl rfl | exact .inr rfl) (Ex.pe_dfB DB_line_in hG (hr.mono (by decide)) (hr.mono (by decide)) tk (by rfl) (pa_cons (pv 0) pa_nil))))) (fun a pn => (pss_one (ps_set (i := 2) sc__law_told.nd rfl (by first | exact .inl rfl | exact .inr rfl) (pv 4)))))) (pss_cons (ps_if (pt_cmpR op_isN (pv 2) pe_non (nomark _)) (pss_one (ps_ret (pv 1))) pss_nil) (pss_cons (ps_set (i := 3) sc__law_told.nd rfl (by first | exact .inl rfl | exact .inr rfl) (pe_and (Ex.pe_given XF_2 (pe_callB Ex.call_isX (by rfl) N.isinstance (by decide +kernel) (pa_cons (pv 2) (pa_cons (pe_glob (v := .ref (Ex.ca K "BadWord")) (by rfl) gc_BadWord rfl) pa_nil)))) (pe_one (Ex.pe_given XF_3 (pe_callB Ex.call_isX (by rfl) N.isinstance (by decide +kernel) (pa_cons (pv 2) (pa_cons (pe_bltn (v := .ty "ValueError") (by rfl) N.ValueError (by decide +kernel) rfl) pa_nil))))))) (pss_one (ps_ret (pe_ifExp (L2.PW.pt (pw_and (pt_truth (pv 3) (by intro _; rfl)) (pw_and1 (pt_not (pt_val (Ex.pe_given XF_4 (pe_callB Ex.call_isXT (by rfl) N.isinstance (by decide +kernel) (pa_cons (pv 2) (pa_cons (pe_tup (pa_cons (pe_glob (v := .ref (Ex.ca K "BadDeed")) (by rfl) gc_BadDeed rfl) (pa_cons (pe_glob (v := .ref (Ex.ca K "BadRow")) (by rfl) gc_BadRow rfl) (pa_cons (pe_glob (v := .ref (Ex.ca K "NoStep")) (by rfl) gc_NoStep rfl) (pa_cons (pe_glob (v := .ref (Ex.ca K "NotAlike")) (by rfl) gc_NotAlike rfl) (pa_cons (pe_glob (v := .ref (Ex.ca K "Unlike")) (by rfl) gc_Unlike rfl) pa_nil)))))) pa_nil))))))))) (Ex.pe_given XF_5 (Ex.pe_get (pv 2))) pe_non)))))))
end
end Kc
namespace Kc
open PySem PySem.Spec PyProof.Rows L2 Xg Dv Kd
section
variable {P : Program} {w : World} {K : PySem.W.Frag} {mg : Str → Option Value} {base : Heap}
theorem sc__law_right : FnScope ["_law_box_here", "_law_line_here", "_law_widths_here", "_law_lot", "_law_due", "_law_plain", "_law_texts", "_law_turn", "_law_text_here"] ["_law_box_here"] (defScope (topS 39)) := ⟨rfl, rfl, rfl, by decide +kernel, rfl, by decide +kernel, by decide +kernel⟩
theorem ok__law_right {f : Addr} {fd : FuncData} (F : Fun K "_law_right" "_law_right" (topS 39) f fd) (N : Nm mg) (D__law_line : Df P w K mg base "_law_line" ["_law_box_here", "_law_most", "_law_wide"] 3 (spD K 103 F__law_line)) (D__law_lying : Df P w K mg base "_law_lying" ["_law_box_here", "_law_line_here"] 3 (spD K 301 F__law_lying)) (D__law_pick : Df P w K mg base "_law_pick" ["_law_box_here", "_law_some"] 2 (spD K 1 F__law_pick)) (D__law_read : Df P w K mg base "_law_read" ["_law_text_here"] 3 (spD K 0 F__law_read)) (D__law_same : Df P w K mg base "_law_same" ["_law_found", "_law_due"] 6 (spD K 0 F_same)) (D__law_spoilt : Df P w K mg base "_law_spoilt" ["_law_box_here", "_law_text_here"] 3 (spD K 7 F__law_spoilt)) (D__law_take : Df P w K mg base "_law_take" ["_law_box_here", "_law_size"] 1 (spD K 1 F_take)) (D__law_text : Df P w K mg base "_law_text" ["_law_line_here", "_law_widths_here", "_law_lot"] 1 (spD K 0 F__law_text)) (D__law_told : Df P w K mg base "_law_told" ["_law_text_here"] 5 (spD K 0 F__law_told)) (D__law_widths : Df P w K mg base "_law_widths" ["_law_box_here", "_law_line_here", "_law_wide"] 3 (spD K 202 F__law_widths)) (D_line_text : Df P w K mg base "line_text" ["line", "widths", "standing"] 2 (spD K 0 F_line_text)) : FnG P w K mg base 7 f fd ["_law_box_here"] (spD K 788 F__law_right) := by
  unfold F__law_right
  exact okD F sc__law_right (s__law_right K) fun cdv A outer s H hG hr => (pss_cons (ps_set (i := 1) sc__law_right.nd rfl (by first | exact .inl rfl | exact .inr rfl) (pe_df D__law_line hG (hr.mono (by decide)) (by rfl) (pa_cons (pv 0) (pa_cons pe_int (pa_cons (pe_df D__law_pick hG (hr.mono (by decide)) (by rfl) (pa_cons (pv 0) (pa_cons (pe_lst (pa_cons pe_int (pa_cons (pe_op op_pow pe_int pe_int) pa_nil))) pa_nil))) pa_nil))))) (pss_cons (ps_par (i := 2) (j := 3) rfl sc__law_right.nd rfl rfl (by decide) rfl rfl (pa_cons (pe_df D__law_widths hG (hr.mono (by decide)) (by rfl) (pa_cons (pv 0) (pa_cons (pv 1) (pa_cons (pe_df D__law_pick hG (hr.mono (by decide)) (by rfl) (pa_cons (pv 0) (pa_cons (pe_lst (pa_cons pe_int (pa_cons (pe_op op_pow pe_int pe_int) pa_nil))) pa_nil))) pa_nil)))) (pa_cons (pe_df D__law_lying hG (hr.mono (by decide)) (by rfl) (pa_cons (pv 0) (pa_cons (pv 1) pa_nil))) pa_nil)) (by rfl)) (pss_cons (ps_set (i := 4) sc__law_right.nd rfl (by first | exact .inl rfl | exact .inr rfl) (pe_df D__law_text hG (hr.mono (by decide)) (by rfl) (pa_cons (pv 1) (pa_cons (pv 2) (pa_cons (pv 3) pa_nil))))) (pss_cons (ps_set (i := 5) sc__law_right.nd rfl (by first | exact .inl rfl | exact .inr rfl) (pe_tup (pa_cons (pe_lst (pa_cons (pe_ix ix_seq (pv 1) pe_int (fun _ _ => rfl)) (pa_cons (pe_callTy call_list_of (by rfl) N.list (by decide +kernel) (pa_cons (pe_ix ix_seq (pv 1) pe_int (fun _ _ => rfl)) pa_nil)) pa_nil))) (pa_cons (pe_callTy call_list_of (by rfl) N.list (by decide +kernel) (pa_cons (pv 2) pa_nil)) (pa_cons (pe_callTy call_list_of (by rfl) N.list (by decide +kernel) (pa_cons (pv 3) pa_nil)) pa_nil))))) (pss_cons (ps_if (pt_not (pt_val (pe_df D__law_same hG (hr.mono (by decide)) (by rfl) (pa_cons (pe_lst (pa_cons (pe_df D_line_text hG (hr.mono (by decide)) (by rfl) (pa_cons (pv 1) (pa_cons (pv 2) (pa_cons (pv 3) pa_nil)))) (pa_cons (pe_df D_line_text hG (hr.mono (by decide)) (by rfl) (pa_cons (pe_ix ix_seq (pv 5) pe_int (fun _ _ => rfl)) (pa_cons (pe_ix ix_seq (pv 5) pe_int (fun _ _ => rfl)) (pa_cons (pe_ix ix_seq (pv 5) pe_int (fun _ _ => rfl)) pa_nil)))) pa_nil))) (pa_cons (pe_lst (pa_cons (pv 4) (pa_cons (pv 4) pa_nil))) pa_nil))))) (pss_one (ps_ret pe_bl)) pss_nil) (pss_cons (ps_if (pt_not (pt_val (pe_df D__law_same hG (hr.mono (by decide)) (by rfl) (pa_cons (pe_lst (pa_cons (pe_df D__law_told hG (hr.mono (by decide)) (by rfl) (pa_cons (pv 4) pa_nil)) (pa_cons (pe_df D__law_read hG (hr.mono (by decide)) (by rfl) (pa_cons (pv 4) pa_nil)) pa_nil))) (pa_cons (pe_op op_mulX (pe_lst (pa_cons (pe_tup (pa_cons (pv 1) (pa_cons (pv 2) (pa_cons (pv 3) pa_nil)))) pa_nil)) pe_int) pa_nil))))) (pss_one (ps_ret pe_bl)) pss_nil) (pss_cons (ps_set (i := 6) sc__law_right.nd rfl (by first | exact .inl rfl | exact .inr rfl) (pe_lst (pa_cons pe_str (pa_cons pe_str (pa_cons pe_str (pa_cons pe_str (pa_cons pe_str (pa_cons pe_str (pa_cons pe_str (pa_cons pe_str (pa_cons (pe_op op_addS pe_str (pv 4)) pa_nil))))))))))) (pss_cons (ps_set (i := 6) sc__law_right.nd rfl (by first | exact .inl rfl | exact .inr rfl) (pe_op op_cat (pv 6) (pe_lst (pa_cons pe_str (pa_cons pe_str (pa_cons pe_str pa_nil)))))) (pss_cons (ps_for PassesOwn.never rfl (pi_range1 (by rfl) N.range (pa_cons pe_int pa_nil)) (pg_name (i := 7) sc__law_right.nd rfl (by first | exact .inl rfl | exact .inr rfl)) (pss_cons (ps_set (i := 8) sc__law_right.nd rfl (by first | exact .inl rfl | exact .inr rfl) (pe_df D__law_spoilt hG (hr.mono (by decide)) (by rfl) (pa_cons (pv 0) (pa_cons (pv 4) pa_nil)))) (pss_one (ps_expr (pe_bm PySem.F.plainAttrs_list PySem.F.slot_list_append PySem.F.type_list_append mt_append (pv 6) (pa_cons (pe_ifExp (pt_cmpR (op_eqX hr.units) (pe_df D__law_take hG (hr.mono (by decide)) (by rfl) (pa_cons (pv 0) (pa_cons pe_int pa_nil))) pe_int (nomark _)) (pe_df D__law_spoilt hG (hr.mono (by decide)) (by rfl) (pa_cons (pv 0) (pa_cons (pv 8) pa_nil))) (pv 8)) pa_nil)))))) (pss_one (ps_ret (pe_callB (cr_all rfl) (by rfl) N.all (by decide +kernel) (pa_cons (pe_lc (own := [("_law_text_here", 8)]) rfl sc__law_right.nd (Pw.pi_seq (pv 6)) (blkOk_by (N := ["_law_box_here", "_law_line_here", "_law_widths_here", "_law_lot", "_law_due", "_law_plain", "_law_texts", "_law_turn", "_law_text_here"]) (sc := defScope (topS 39)) (by decide +kernel)) (fun _ _ _ _ _ => (pg_name (i := 8) sc__law_right.nd rfl (by first | exact .inl rfl | exact .inr rfl))) (fun _ _ _ _ _ => pts_nil) (fun _ _ _ _ _ => (pe_df D__law_same hG (hr.mono (by decide)) (by rfl) (pa_cons (pe_df D__law_told hG (hr.mono (by decide)) (by rfl) (pa_cons (pv 8) pa_nil)) (pa_cons (pe_df D__law_read hG (hr.mono (by decide)) (by rfl) (pa_cons (pv 8) pa_nil)) pa_nil))))) pa_nil)))))))))))))
end
end Kc
namespace Kc
open PySem PySem.Spec PyProof.Rows L2 Xg Dv Kd
section
variable {P : Program} {w : World} {K : PySem.W.Frag} {mg : Str → Option Value} {base : Heap}
theorem sc_law : FnScope ["_law_script", "_law_cells", "_law_k", "_law_box_here", "_law_turn"] ["_law_script"] (defScope (topS 40)) := ⟨rfl, rfl, rfl, by decide +kernel, rfl, by decide +kernel, by decide +kernel⟩
theorem ok_law {f : Addr} {fd : FuncData} (F : Fun K "law" "law" (topS 40) f fd) (N : Nm mg) (D__law_box : Df P w K mg base "_law_box" ["_law_script", "_law_k"] 1 (spBx K)) (D__law_folded : Df P w K mg base "_law_folded" ["_law_script", "_law_size"] 1 (spFold K 3)) (D__law_right : Df P w K mg base "_law_right" ["_law_box_here"] 7 (spD K 788 F__law_right)) : FnG P w K mg base 8 f fd ["_law_script"] (spD K 157600 F_law) := by
  unfold F_law
  exact okD F sc_law (s_law K) fun cdv A outer s H hG hr => (pss_cons (ps_set (i := 1) sc_law.nd rfl (by first | exact .inl rfl | exact .inr rfl) (pe_df D__law_folded hG (hr.mono (by decide)) (by rfl) (pa_cons (pv 0) (pa_cons pe_int pa_nil)))) (pss_cons (ps_for PassesOwn.never rfl (pi_range1 (by rfl) N.range (pa_cons (pe_callB call_len (by rfl) N.len PySem.boot_len (pa_cons (pv 1) pa_nil)) pa_nil)) (pg_name (i := 2) sc_law.nd rfl (by first | exact .inl rfl | exact .inr rfl)) (pss_cons (ps_set (i := 3) sc_law.nd rfl (by first | exact .inl rfl | exact .inr rfl) (pe_df D__law_box hG (hr.mono (by decide)) (by rfl) (pa_cons (pv 1) (pa_cons (pv 2) pa_nil)))) (pss_one (ps_if (pt_not (pt_val (pe_callB (cr_all rfl) (by rfl) N.all (by decide +kernel) (pa_cons (pe_lc (own := [("_law_turn", 4)]) rfl sc_law.nd (pi_range1 (by rfl) N.range (pa_cons pe_int pa_nil)) (blkOk_by (N := ["_law_script", "_law_cells", "_law_k", "_law_box_here", "_law_turn"]) (sc := defScope (topS 40)) (by decide +kernel)) (fun _ _ _ _ _ => (pg_name (i := 4) sc_law.nd rfl (by first | exact .inl rfl | exact .inr rfl))) (fun _ _ _ _ _ => pts_nil) (fun _ _ _ _ _ => (pe_df D__law_right hG (hr.mono (by decide)) (by rfl) (pa_cons (pv 3) pa_nil)))) pa_nil)))) (pss_one (ps_ret pe_bl)) pss_nil)))) (pss_one (ps_ret pe_bl))))
end
end Kc
namespace Kc
open PySem PySem.Spec PyProof.Rows L2 Xg Dv Kd
abbrev lcBody (F : FF) (t : Int) (tn : Nat) : FS := (sSeq (sBox 3 (aScr 1 (aCons (eVar 2) aNil))) (sIf (fNot (fTest (eCB allD (dCons (eL (fComp tn (fRange1 (eC (.int t))) [4] (gN 4) fYes (eCall F (aBox 3 aNil)))) dNil)))) (sRet (eC (.bool false))) sSkip))
theorem lawC {F : FF} {ns : List Int} {c tn : Nat} {t : Int} {Q : PyData → Prop} (hl : ns.length ≤ 63) (hc : c ≤ 60) (ht : 0 ≤ t ∧ t ≤ (tn : Nat)) (htn : tn ≤ 50) (hF : ∀ Q : PyData → Prop, Q (.bool true) → F [.box] Q) (q : Q (.bool true)) :
    (sSeq (sFold 0 1 c) (sSeq (sFor 100 (fRange1 (eLenS 1)) (gN 2) (lcBody F t tn)) (sRet (eC (.bool true))))) [.scr ns, .no, .no, .no, .no] { nx := fun _ => Q .none, rt := Q, rl := fun ds => Q (.list ds) } := by
  refine ⟨hl, fun ms m1 mc => ?_⟩
  refine ⟨⟨by omega, by omega⟩, by rw [range_len]; omega, ?_⟩
  refine for_inv (fun ρ => ∃ s2 s3 : Sl, ρ = [.scr ns, .scr ms, s2, s3, .no]) _ _ (fun ρ d N i hd k => ?_) ⟨_, _, rfl⟩ (fun ρ i => ?_)
  · obtain ⟨s2, s3, rfl⟩ := i
    obtain ⟨j, hj, rfl⟩ := range_mem hd
    refine (show (0 ≤ ((j : Nat) : Int) ∧ ((j : Nat) : Int) ≤ 1000) ∧ _ from ⟨⟨by omega, by omega⟩, ?_⟩)
    refine (show (-(2 ^ 62) ≤ t ∧ t < 2 ^ 62) ∧ (rangeD 0 t.toNat).length ≤ tn ∧ _ from ⟨⟨by omega, by omega⟩, by rw [range_len]; omega, ?_⟩)
    refine comp_row (fun _ => .bool true) range_len (fun i d hi hd P hp => hF _ hp) ?_
    rw [bools_all, List.length_range]
    refine ⟨List.replicate t.toNat true, rfl, ?_⟩
    show (fun k => if (!k) = true then _ else _) ((List.replicate t.toNat true).all id)
    rw [all_true]
    exact k _ ⟨_, _, rfl⟩
  · obtain ⟨s2, s3, rfl⟩ := i
    exact q
end Kc
namespace Kc
open PySem PySem.Spec PyProof.Rows L2 Xg Dv Kd
def digB (c : Nat) : Bool := decide (48 ≤ c) && decide (c ≤ 57)
theorem dig_in {c : Nat} : (!(Builtin.Str.occurrences "0123456789" ⟨#[c]⟩ 0 ("0123456789" : Str).length 1).isEmpty) = digB c := by
  rw [StrLaws.found_one]
  have e : (("0123456789" : Str).cps.toList) = [48, 49, 50, 51, 52, 53, 54, 55, 56, 57] := by decide +kernel
  rw [e]
  unfold digB
  by_cases h : 48 ≤ c ∧ c ≤ 57
  · rw [decide_eq_true h.1, decide_eq_true h.2]
    refine decide_eq_true ?_
    have : c = 48 ∨ c = 49 ∨ c = 50 ∨ c = 51 ∨ c = 52 ∨ c = 53 ∨ c = 54 ∨ c = 55 ∨ c = 56 ∨ c = 57 := by omega
    simpa using this
  · have f : (decide (48 ≤ c) && decide (c ≤ 57)) = false := by
      rw [Bool.and_eq_false_iff]
      by_cases h1 : 48 ≤ c
      · exact .inr (decide_eq_false fun h2 => h ⟨h1, h2⟩)
      · exact .inl (decide_eq_false h1)
    rw [f]
    refine decide_eq_false fun m => h ?_
    have m : c = 48 ∨ c = 49 ∨ c = 50 ∨ c = 51 ∨ c = 52 ∨ c = 53 ∨ c = 54 ∨ c = 55 ∨ c = 56 ∨ c = 57 := by simpa using m
    omega
def lenB (w : Str) : Bool := decide (1 ≤ w.length) && decide (w.length ≤ 10)
def figB (w : Str) : Bool := w.cps.toList.all digB
def headB (w : Str) : Bool := decide (w = "0") || (match w.cps.toList with | [] => false | c :: _ => decide (c ≠ 48))
def numB (w : Str) : Bool := lenB w && (figB w && headB w)
theorem figs_of {w : Str} {ρ : List Sl} {P : PyData → Prop} (h2 : ρ.length = 3) (p : P (.bool (figB w))) :
    compD (gN 2) fYes (eBin gInS (eVar 2) (eC (.str "0123456789"))) ρ (chD w) [] fun ds => boolsQ (fun ns => P (.bool (ns.all id))) (.list ds) := by
  match ρ, h2 with
  | [a, b, c], _ =>
    refine comp_enc (fun c : Nat => PyData.str ⟨#[c]⟩) (fun c => .bool (digB c)) w.cps.toList [] (fun c _ Q hq => ?_) ?_
    · show Q (.bool (!(Builtin.Str.occurrences "0123456789" ⟨#[c]⟩ 0 ("0123456789" : Str).length 1).isEmpty))
      rw [dig_in]
      exact hq
    · rw [List.nil_append]
      refine ⟨w.cps.toList.map digB, by rw [List.map_map]; rfl, ?_⟩
      show P (.bool ((w.cps.toList.map digB).all id))
      rw [List.all_map]
      exact p
section
variable {w : Str} {Q : PyData → Prop}
theorem numText_of (hl : w.length ≤ 1000000) (q : Q (.bool (numB w))) : F_is_number_text [.dt (.str w), .dt (.int 10)] Q := by
  have q : Q (.bool (lenB w && (figB w && headB w))) := q
  unfold F_is_number_text
  refine ⟨rfl, ?_⟩
  refine ⟨hl, ?_⟩
  have cl : chD w = w.cps.toList.map fun c => PyData.str ⟨#[c]⟩ := rfl
  have lz : (chD w).length ≤ 1000000 := by rw [cl, List.length_map]; exact hl
  have rest : lenB w = true → w.cps.toList ≠ [] → ((chD w).length ≤ 1000000 ∧ compD (gN 2) fYes (eBin gInS (eVar 2) (eC (.str "0123456789"))) [.dt (.str w), .dt (.int 10), .no] (chD w) [] fun ds => boolsQ (fun ns => (fun d => asB (fun k => if (!k) = true then Q (.bool false) else if decide (w = "0") = true then Q (.bool true) else w.length ≤ 1000000 ∧ ∃ c, L2.atI w.cps.toList 0 = some c ∧ Q (.bool (!decide ((⟨#[c]⟩ : Str) = "0")))) d) (.bool (ns.all id))) (.list ds)) := fun l ne => by
    refine ⟨lz, figs_of rfl ?_⟩
    rw [l, Bool.true_and] at q
    show if (!figB w) = true then _ else _
    cases c1 : figB w with
    | false =>
      rw [c1] at q
      exact q
    | true =>
      rw [c1, Bool.true_and] at q
      rw [if_neg (by decide)]
      unfold headB at q
      by_cases c2 : w = "0"
      · rw [if_pos (decide_eq_true c2)]
        rw [decide_eq_true c2, Bool.true_or] at q
        exact q
      · rw [if_neg (by rw [decide_eq_true_eq]; exact c2)]
        rw [decide_eq_false c2, Bool.false_or] at q
        refine ⟨hl, ?_⟩
        cases e : w.cps.toList with
        | nil => exact absurd e ne
        | cons c cs =>
          rw [e] at q
          refine ⟨c, L2.atI_nat (xs := c :: cs) (j := 0) rfl, ?_⟩
          have ec : (!decide ((⟨#[c]⟩ : Str) = "0")) = decide (c ≠ 48) := by
            by_cases h : c = 48
            · subst h
              rfl
            · rw [decide_eq_true h, decide_eq_false fun z => h (by
                have z2 : (⟨#[c]⟩ : Str).cps.toList = ("0" : Str).cps.toList := by rw [z]
                have e0 : ("0" : Str).cps.toList = [48] := by decide +kernel
                rw [e0] at z2
                exact (List.cons.inj z2).1)]
              rfl
          rw [ec]
          exact q
  show if decide ((1 : Int) ≤ (w.length : Nat)) = true then _ else _
  by_cases l1 : 1 ≤ w.length
  · rw [if_pos (decide_eq_true (by omega))]
    show if (!decide (((w.length : Nat) : Int) ≤ 10)) = true then _ else _
    by_cases l2 : w.length ≤ 10
    · rw [decide_eq_true (by omega), if_neg (by decide)]
      have l : lenB w = true := by
        unfold lenB
        rw [decide_eq_true l1, decide_eq_true l2]
        rfl
      exact rest l fun e => by
        have : w.cps.toList.length = w.length := rfl
        rw [e] at this
        have : 0 = w.length := this
        omega
    · rw [decide_eq_false (by omega), if_pos (by rfl)]
      have l : lenB w = false := by
        unfold lenB
        rw [decide_eq_false l2, Bool.and_false]
      rw [l, Bool.false_and] at q
      exact q
  · rw [if_neg (by rw [decide_eq_true_eq]; omega)]
    have l : lenB w = false := by
      unfold lenB
      rw [decide_eq_false l1, Bool.false_and]
    rw [l, Bool.false_and] at q
    exact q
end
end Kc
namespace Kc
open PySem PySem.Spec PyProof.Rows L2 Xg Dv Kd PySem.NumText
section
variable {w : Str} {Q : PyData → Prop}
theorem num_int (h : numB w = true) : intText? w = some ((digitsVal w.cps.toList : Nat) : Int) := by
  unfold numB at h
  rw [Bool.and_eq_true, Bool.and_eq_true] at h
  obtain ⟨h1, h2, h3⟩ := h
  unfold lenB at h1
  rw [Bool.and_eq_true, decide_eq_true_eq, decide_eq_true_eq] at h1
  have e : w.cps.toList.length = w.length := rfl
  refine intText_digits (fun c hc => ?_) (fun z => by rw [z] at e; have : 0 = w.length := e; omega) (by omega)
  have := List.all_eq_true.mp h2 c hc
  unfold digB at this
  rw [Bool.and_eq_true, decide_eq_true_eq, decide_eq_true_eq] at this
  exact this
theorem lawNumber_of (hl : w.length ≤ 1000000) (q : Q (if numB w = true then .int ((digitsVal w.cps.toList : Nat) : Int) else .none)) : F__law_number [.dt (.str w), .dt (.int 10)] Q := by
  have no : numB w = false → Q .none := fun h => by
    rw [h] at q
    exact q
  unfold F__law_number
  refine ⟨rfl, hl, ?_⟩
  have lz : (chD w).length ≤ 1000000 := by
    have cl : chD w = w.cps.toList.map fun c => PyData.str ⟨#[c]⟩ := rfl
    rw [cl, List.length_map]
    exact hl
  show if decide ((0 : Int) < (w.length : Nat)) = true then _ else _
  by_cases l1 : 1 ≤ w.length
  · rw [if_pos (decide_eq_true (by omega))]
    show if (!decide (((w.length : Nat) : Int) ≤ 10)) = true then _ else _
    by_cases l2 : w.length ≤ 10
    · rw [decide_eq_true (by omega), if_neg (by decide)]
      have l : lenB w = true := by
        unfold lenB
        rw [decide_eq_true l1, decide_eq_true l2]
        rfl
      refine (show (chD w).length ≤ 1000000 ∧ _ from ⟨lz, figs_of rfl ?_⟩)
      show if (!figB w) = true then _ else _
      cases c1 : figB w with
      | false =>
        rw [if_pos (by rfl)]
        exact no (by unfold numB; rw [c1, Bool.false_and, Bool.and_false])
      | true =>
        rw [if_neg (by decide)]
        show f__law_number_0 [.dt (.str w), .dt (.int 10), .no] _
        unfold f__law_number_0
        have eh : numB w = headB w := by unfold numB; rw [l, c1, Bool.true_and, Bool.true_and]
        have yes : headB w = true → ∃ n, intText? w = some n ∧ w.length ≤ 640 ∧ Q (.int n) := fun h => by
          rw [← eh] at h
          rw [if_pos h] at q
          exact ⟨_, num_int h, by omega, q⟩
        show if decide (w = "0") = true then _ else _
        by_cases c2 : w = "0"
        · rw [if_pos (decide_eq_true c2)]
          exact yes (by unfold headB; rw [decide_eq_true c2]; rfl)
        · rw [if_neg (by rw [decide_eq_true_eq]; exact c2)]
          refine (show w.length ≤ 1000000 ∧ _ from ⟨hl, ?_⟩)
          cases e : w.cps.toList with
          | nil =>
            have e0 : w.cps.toList.length = w.length := rfl
            rw [e] at e0
            have : 0 = w.length := e0
            omega
          | cons c cs =>
            refine ⟨c, L2.atI_nat (xs := c :: cs) (j := 0) rfl, ?_⟩
            have hc : headB w = decide (c ≠ 48) := by
              unfold headB
              rw [decide_eq_false c2, Bool.false_or, e]
            have ec : (!decide ((⟨#[c]⟩ : Str) = "0")) = decide (c ≠ 48) := by
              by_cases h : c = 48
              · subst h
                rfl
              · rw [decide_eq_true h, decide_eq_false fun z => h (by
                  have z2 : (⟨#[c]⟩ : Str).cps.toList = ("0" : Str).cps.toList := by rw [z]
                  have e0 : ("0" : Str).cps.toList = [48] := by decide +kernel
                  rw [e0] at z2
                  exact (List.cons.inj z2).1)]
                rfl
            show if (!decide ((⟨#[c]⟩ : Str) = "0")) = true then _ else _
            rw [ec, ← hc]
            cases h : headB w with
            | true =>
              rw [if_pos rfl]
              exact yes h
            | false =>
              rw [if_neg (by decide)]
              exact no (by rw [eh, h])
    · rw [decide_eq_false (by omega), if_pos (by rfl)]
      refine no ?_
      unfold numB lenB
      rw [decide_eq_false l2, Bool.and_false, Bool.false_and]
  · rw [if_neg (by rw [decide_eq_true_eq]; omega)]
    refine no ?_
    unfold numB lenB
    rw [decide_eq_false l1, Bool.false_and, Bool.false_and]
end
end Kc
namespace Kc
open PySem PySem.Spec PyProof.Rows L2 Xg Dv Kd PySem.NumText
def vN (w : Str) : Nat := digitsVal w.cps.toList
theorem num_len {w : Str} (h : numB w = true) : w.length ≤ 640 := by
  unfold numB lenB at h
  rw [Bool.and_eq_true, Bool.and_eq_true, decide_eq_true_eq, decide_eq_true_eq] at h
  omega
theorem num_is {w : Str} (h : numB w = true) : PySem.intText? w = some ((vN w : Nat) : Int) := num_int h
def widB (w : Str) : Bool := decide (w = "~") || numB w
def widO (w : Str) : Option Int := if w = "~" then none else some ((vN w : Nat) : Int)
def binB (w : Str) : Bool := match Txt.split w "/" with
  | [a, b] => (numB a && numB b) && (decide (1 ≤ vN b) && decide (vN a ≤ vN b))
  | _ => false
def binH (w : Str) : Int := match Txt.split w "/" with
  | [a, _] => ((vN a : Nat) : Int)
  | _ => 0
def binR (w : Str) : Int := match Txt.split w "/" with
  | [_, b] => ((vN b : Nat) : Int)
  | _ => 0
theorem bin_two {w : Str} (h : binB w = true) : ∃ a b : Str, Txt.split w "/" = [a, b] ∧ numB a = true ∧ numB b = true ∧ 1 ≤ vN b ∧ vN a ≤ vN b ∧ binH w = ((vN a : Nat) : Int) ∧ binR w = ((vN b : Nat) : Int) := by
  unfold binB at h
  unfold binH binR
  generalize Txt.split w "/" = l at h ⊢
  match l, h with
  | [a, b], h =>
    have h : ((numB a && numB b) && (decide (1 ≤ vN b) && decide (vN a ≤ vN b))) = true := h
    rw [Bool.and_eq_true, Bool.and_eq_true, Bool.and_eq_true, decide_eq_true_eq, decide_eq_true_eq] at h
    exact ⟨a, b, rfl, h.1.1, h.1.2, h.2.1, h.2.2, rfl, rfl⟩
section
variable {w : Str} {Q : PyData → Prop}
theorem widText_of (hl : w.length ≤ 1000000) (q : Q (.bool (widB w))) : F_is_width_text [.dt (.str w), .dt (.int 10)] Q := by
  unfold F_is_width_text
  refine ⟨rfl, ?_⟩
  unfold widB at q
  show if decide (w = "~") = true then _ else _
  cases c : decide (w = "~") with
  | true =>
    rw [if_pos rfl]
    rw [c, Bool.true_or] at q
    exact q
  | false =>
    rw [if_neg (by decide)]
    rw [c, Bool.false_or] at q
    exact (show F_is_number_text [.dt (.str w), .dt (.int 10)] _ from numText_of hl q)
theorem widIn_of (h : widB w = true) (q : Q (oI (widO w))) : F_width_in [.dt (.str w)] Q := by
  unfold F_width_in
  refine ⟨rfl, ?_⟩
  show if decide (w = "~") = true then _ else _
  unfold widO at q
  by_cases c : w = "~"
  · rw [if_pos (decide_eq_true c)]
    rw [if_pos c] at q
    exact q
  · rw [if_neg (by rw [decide_eq_true_eq]; exact c)]
    rw [if_neg c] at q
    unfold widB at h
    rw [decide_eq_false c, Bool.false_or] at h
    exact ⟨_, num_is h, num_len h, q⟩
theorem binIn2 {a b : Str} (e : Txt.split w "/" = [a, b]) (hl : w.length ≤ 900000) (na : numB a = true) (nb : numB b = true) (q : Q (.tuple [.int ((vN a : Nat) : Int), .int ((vN b : Nat) : Int)])) : F_bin_in [.dt (.str w)] Q := by
  unfold F_bin_in
  refine ⟨rfl, ⟨by decide +kernel, by omega⟩, ?_⟩
  rw [e]
  exact ⟨_, num_is na, num_len na, _, num_is nb, num_len nb, q⟩
theorem binIn_of (hl : w.length ≤ 900000) (h : binB w = true) (q : Q (.tuple [.int (binH w), .int (binR w)])) : F_bin_in [.dt (.str w)] Q := by
  obtain ⟨a, b, e, na, nb, _, _, eh, er⟩ := bin_two h
  rw [eh, er] at q
  exact binIn2 e hl na nb q
theorem dec_le {a b : Nat} : decide (((a : Nat) : Int) ≤ ((b : Nat) : Int)) = decide (a ≤ b) := decide_eq_decide.mpr Int.ofNat_le
theorem binText_of (hl : w.length ≤ 900000) (q : Q (.bool (binB w))) : F_is_bin_text [.dt (.str w)] Q := by
  have parts : ∀ a ∈ Txt.split w "/", a.length ≤ 1000000 := fun a ha => by
    have := part_short ha
    omega
  unfold binB at q
  unfold F_is_bin_text
  refine ⟨rfl, ⟨by decide +kernel, by omega⟩, ?_⟩
  show if (!decide (((((Txt.split w "/").map PyData.str).length : Nat) : Int) = 2)) = true then _ else _
  rw [List.length_map]
  generalize e : Txt.split w "/" = l at q parts
  match l, e, q, parts with
  | [a, b], e, q, parts =>
    have q : Q (.bool ((numB a && numB b) && (decide (1 ≤ vN b) && decide (vN a ≤ vN b)))) := q
    rw [if_neg (by show ¬ (!decide (((2 : Nat) : Int) = 2)) = true; decide)]
    refine (show ([PyData.str a, .str b] : List PyData).length ≤ 1000000 ∧ _ from ⟨by show 2 ≤ 1000000; decide, ?_⟩)
    refine (show F_is_number_text [.dt (.str a), .dt (.int 10)] _ from numText_of (parts a (by simp)) ?_)
    refine (show F_is_number_text [.dt (.str b), .dt (.int 10)] _ from numText_of (parts b (by simp)) ?_)
    refine ⟨[numB a, numB b], rfl, ?_⟩
    show if (!([numB a, numB b].all id)) = true then _ else _
    rw [show [numB a, numB b].all id = (numB a && numB b) by simp]
    cases c : (numB a && numB b) with
    | false =>
      rw [c, Bool.false_and] at q
      exact q
    | true =>
      rw [c, Bool.true_and] at q
      rw [Bool.and_eq_true] at c
      rw [if_neg (by decide)]
      refine (show F_bin_in [.dt (.str w)] _ from binIn2 e hl c.1 c.2 ?_)
      show if decide ((1 : Int) ≤ ((vN b : Nat) : Int)) = true then Q (.bool (decide (((vN a : Nat) : Int) ≤ ((vN b : Nat) : Int)))) else Q (.bool false)
      by_cases c1 : 1 ≤ vN b
      · rw [if_pos (decide_eq_true (by omega)), dec_le]
        rw [decide_eq_true c1, Bool.true_and] at q
        exact q
      · rw [if_neg (by rw [decide_eq_true_eq]; omega)]
        rw [decide_eq_false c1, Bool.false_and] at q
        exact q
  | [], e, q, _ => exact q
  | [_], e, q, _ => exact q
  | a :: b :: c :: l, e, q, _ =>
    have e2 : (!decide ((((a :: b :: c :: l).length : Nat) : Int) = 2)) = true := by
      rw [decide_eq_false (by show ¬ ((l.length + 1 + 1 + 1 : Nat) : Int) = 2; omega)]
      rfl
    rw [if_pos e2]
    exact q
def csB (k : Nat) (w : Str) : Bool := if k = 0 then decide (w = "row") || decide (w = "ring") else if k % 2 = 1 then widB w else binB w
theorem canStand_of {k : Nat} (hl : w.length ≤ 900000) (q : Q (.bool (csB k w))) : F_can_stand [.dt (.str w), .dt (.int ((k : Nat) : Int))] Q := by
  unfold F_can_stand
  refine ⟨rfl, ?_⟩
  unfold csB at q
  show if decide (((k : Nat) : Int) = 0) = true then _ else _
  by_cases z : k = 0
  · rw [if_pos (decide_eq_true (by omega))]
    rw [if_pos z] at q
    show if decide (w = "row") = true then Q (.bool true) else Q (.bool (decide (w = "ring")))
    cases c : decide (w = "row") with
    | true =>
      rw [c, Bool.true_or] at q
      exact q
    | false =>
      rw [c, Bool.false_or] at q
      exact q
  · rw [if_neg (by rw [decide_eq_true_eq]; omega)]
    rw [if_neg z] at q
    refine (show (0 ≤ ((k : Nat) : Int) ∧ (1 : Int) = 1) ∧ _ from ⟨⟨by omega, rfl⟩, ?_⟩)
    show if (((k : Nat) : Int) % 2 != 0) = true then _ else _
    by_cases o : k % 2 = 1
    · rw [if_pos (by rw [show ((k : Nat) : Int) % 2 = 1 by omega]; rfl)]
      rw [if_pos o] at q
      exact (show F_is_width_text [.dt (.str w), .dt (.int 10)] _ from widText_of (by omega) q)
    · rw [if_neg (by rw [show ((k : Nat) : Int) % 2 = 0 by omega]; decide)]
      rw [if_neg o] at q
      exact (show F_is_bin_text [.dt (.str w)] _ from binText_of hl q)
end
end Kc
namespace Kc
open PySem PySem.Spec PyProof.Rows L2 Xg Dv Kd PySem.NumText
def whB (w0 : Str) (n : Nat) : Bool := if w0 = "row" then decide (4 ≤ n) && decide (n % 2 = 0) else decide (5 ≤ n) && decide (n % 2 = 1)
theorem first_at {w0 : Str} {rest : List Str} : L2.atI ((w0 :: rest).map PyData.str) ((0 : Nat) : Int) = some (.str w0) := L2.atI_nat rfl
theorem isWhole_of {w0 : Str} {rest : List Str} {Q : PyData → Prop} (q : Q (.bool (whB w0 (rest.length + 1)))) : F_is_whole [.dt (.list ((w0 :: rest).map PyData.str))] Q := by
  have two : ∀ (c r : Nat), Q (.bool (decide (c ≤ rest.length + 1) && decide ((rest.length + 1) % 2 = r))) →
      (if decide (((c : Nat) : Int) ≤ ((((w0 :: rest).map PyData.str).length : Nat) : Int)) = true then ((0 ≤ ((((w0 :: rest).map PyData.str).length : Nat) : Int) ∧ (1 : Int) = 1) ∧ Q (.bool (decide (((((w0 :: rest).map PyData.str).length : Nat) : Int) % 2 = ((r : Nat) : Int))))) else Q (.bool false)) := fun c r q => by
    rw [List.length_map, List.length_cons]
    by_cases h : c ≤ rest.length + 1
    · rw [if_pos (decide_eq_true (by omega))]
      refine ⟨⟨by omega, rfl⟩, ?_⟩
      rw [decide_eq_true h, Bool.true_and] at q
      rw [show decide (((rest.length + 1 : Nat) : Int) % 2 = ((r : Nat) : Int)) = decide ((rest.length + 1) % 2 = r) from decide_eq_decide.mpr (by omega)]
      exact q
    · rw [if_neg (by rw [decide_eq_true_eq]; omega)]
      rw [decide_eq_false h, Bool.false_and] at q
      exact q
  unfold F_is_whole
  refine ⟨rfl, ?_⟩
  refine (show atQ (L2.atI ((w0 :: rest).map PyData.str) ((0 : Nat) : Int)) _ from ?_)
  rw [first_at]
  unfold whB at q
  show if decide (w0 = "row") = true then _ else _
  by_cases c : w0 = "row"
  · rw [if_pos (decide_eq_true c)]
    rw [if_pos c] at q
    exact two 4 0 q
  · rw [if_neg (by rw [decide_eq_true_eq]; exact c)]
    rw [if_neg c] at q
    exact two 5 1 q
def fb : Nat → List Str → Option Nat
  | _, [] => none
  | k, w :: ws => if csB k w = true then fb (k + 1) ws else some k
abbrev liQ : Ex.FQ := (Ex.qIf (fNot (fTest (eCall F_can_stand (aCons (eVar 3) (aCons (eVar 2) aNil))))) (Ex.qR (Ex.rRaise "BadWord" "at" (eVar 2))) (Ex.qS sSkip))
abbrev liB : FS := (sIf (fNot (fTest (eCall F_can_stand (aCons (eVar 3) (aCons (eVar 2) aNil))))) sNever sSkip)
theorem bad_in {P : Ex.XW} {d0 d1 : Sl} {r : List Sl} {j : Nat} : ∀ (ws : List Str) (k : Nat) (s2 s3 : Sl), (∀ w ∈ ws, w.length ≤ 900000) → fb k ws = some j → P "BadWord" (some ("at", .int ((j : Nat) : Int))) →
    Ex.loopQ (gT (gsCons (gN 2) (gsCons (gN 3) gsNil))) liQ (enumD k (ws.map PyData.str)) (d0 :: d1 :: s2 :: s3 :: r) P
  | [], _, _, _, _, h, _ => by cases h
  | w :: ws, k, s2, s3, hz, h, q => by
    refine (show F_can_stand [.dt (.str w), .dt (.int ((k : Nat) : Int))] _ from canStand_of (hz w List.mem_cons_self) ?_)
    unfold fb at h
    cases c : csB k w with
    | false =>
      rw [c, if_neg (by decide)] at h
      cases h
      exact q
    | true =>
      rw [c, if_pos rfl] at h
      exact bad_in ws (k + 1) _ _ (fun y hy => hz y (List.mem_cons_of_mem _ hy)) h q
theorem all_stand {E : DEnds} {d0 d1 : Sl} {r : List Sl} : ∀ (ws : List Str) (k : Nat) (s2 s3 : Sl), (∀ w ∈ ws, w.length ≤ 900000) → fb k ws = none → (∀ s2 s3, E.nx (d0 :: d1 :: s2 :: s3 :: r)) →
    forD (gT (gsCons (gN 2) (gsCons (gN 3) gsNil))) liB (enumD k (ws.map PyData.str)) (d0 :: d1 :: s2 :: s3 :: r) E
  | [], _, _, _, _, _, q => q _ _
  | w :: ws, k, s2, s3, hz, h, q => by
    refine (show F_can_stand [.dt (.str w), .dt (.int ((k : Nat) : Int))] _ from canStand_of (hz w List.mem_cons_self) ?_)
    unfold fb at h
    cases c : csB k w with
    | false =>
      rw [c, if_neg (by decide)] at h
      cases h
    | true =>
      rw [c, if_pos rfl] at h
      exact all_stand ws (k + 1) _ _ (fun y hy => hz y (List.mem_cons_of_mem _ hy)) h q
theorem every2_two {α : Type} (b : α) : ∀ r : List α, every2 (b :: r) = b :: every2 (r.drop 1)
  | [] => rfl
  | _ :: _ => rfl
theorem every2_ln {α : Type} : ∀ ys : List α, (every2 ys).length = (ys.length + 1) / 2
  | [] => by simp [every2]
  | [a] => by simp [every2]
  | a :: b :: r => by
    show (every2 r).length + 1 = (r.length + 1 + 1 + 1) / 2
    rw [every2_ln r]
    omega
theorem every2_mem {α : Type} : ∀ (ys : List α) (w : α), w ∈ every2 ys → w ∈ ys
  | [], _, h => h
  | [a], _, h => h
  | a :: b :: r, w, h => by
    rcases List.mem_cons.mp h with rfl | h
    · exact List.mem_cons_self
    · exact List.mem_cons_of_mem _ (List.mem_cons_of_mem _ (every2_mem r w h))
theorem stand_two : ∀ (rest : List Str) (m : Nat), fb (2 * m + 1) rest = none → (∀ w ∈ every2 rest, widB w = true) ∧ (∀ w ∈ every2 (rest.drop 1), binB w = true)
  | [], _, _ => ⟨fun w h => (by cases h), fun w h => (by cases h)⟩
  | [w], m, h => by
    unfold fb at h
    have ec : csB (2 * m + 1) w = widB w := by unfold csB; rw [if_neg (by omega), if_pos (by omega)]
    rw [ec] at h
    cases c : widB w with
    | false => rw [c, if_neg (by decide)] at h; cases h
    | true => exact ⟨fun y hy => by rw [List.mem_singleton.mp hy]; exact c, fun y hy => (by cases hy)⟩
  | w :: b :: r, m, h => by
    unfold fb at h
    have ec : csB (2 * m + 1) w = widB w := by unfold csB; rw [if_neg (by omega), if_pos (by omega)]
    rw [ec] at h
    cases c : widB w with
    | false => rw [c, if_neg (by decide)] at h; cases h
    | true =>
      rw [c, if_pos rfl] at h
      unfold fb at h
      have eb : csB (2 * m + 1 + 1) b = binB b := by unfold csB; rw [if_neg (by omega), if_neg (by omega)]
      rw [eb] at h
      cases c2 : binB b with
      | false => rw [c2, if_neg (by decide)] at h; cases h
      | true =>
        rw [c2, if_pos rfl, show 2 * m + 1 + 1 + 1 = 2 * (m + 1) + 1 by omega] at h
        obtain ⟨h1, h2⟩ := stand_two r (m + 1) h
        refine ⟨fun y hy => ?_, fun y hy => ?_⟩
        · rcases List.mem_cons.mp hy with rfl | hy
          · exact c
          · exact h1 y hy
        · have hy : y ∈ every2 (b :: r) := hy
          rw [every2_two] at hy
          rcases List.mem_cons.mp hy with rfl | hy
          · exact c2
          · exact h2 y hy
def lnD (w0 : Str) (rest : List Str) : PyData := .tuple [.tuple [.str w0, .tuple ((every2 (rest.drop 1)).map fun w => .int (binR w))], .tuple ((every2 rest).map fun w => oI (widO w)), .tuple ((every2 (rest.drop 1)).map fun w => .int (binH w))]
theorem fb_first {w0 : Str} {rest : List Str} (h : fb 0 (w0 :: rest) = none) : (w0 = "row" ∨ w0 = "ring") ∧ fb 1 rest = none := by
  unfold fb at h
  unfold csB at h
  rw [if_pos rfl] at h
  cases c : (decide (w0 = "row") || decide (w0 = "ring")) with
  | false => rw [c, if_neg (by decide)] at h; cases h
  | true =>
    rw [c, if_pos rfl] at h
    rw [Bool.or_eq_true, decide_eq_true_eq, decide_eq_true_eq] at c
    exact ⟨c, h⟩
section
variable {x w0 : Str} {rest : List Str} {Q : PyData → Prop}
theorem lineIn_of (hl : x.length ≤ 800000) (e : Txt.split x " " = w0 :: rest) (h : fb 0 (w0 :: rest) = none) (hw : whB w0 (rest.length + 1) = true) (q : Q (lnD w0 rest)) : F_line_in [.dt (.str x)] Q := by
  have sl := split_le x " "
  have sp : ∀ w ∈ w0 :: rest, w.length ≤ 900000 := fun w hw => by
    rw [← e] at hw
    have := part_short hw
    omega
  rw [e] at sl
  have l1 : rest.length + 1 ≤ 900000 := by rw [List.length_cons] at sl; omega
  obtain ⟨_, hr⟩ := fb_first h
  obtain ⟨hW, hB⟩ := stand_two rest 0 hr
  have m2 : every2 (((w0 :: rest).map PyData.str).drop 2) = (every2 (rest.drop 1)).map PyData.str := by
    rw [← List.map_drop, every2_map]
    rfl
  have m1 : every2 (((w0 :: rest).map PyData.str).drop 1) = (every2 rest).map PyData.str := by
    rw [← List.map_drop, every2_map]
    rfl
  have z1 := every2_len rest
  have z2 := every2_len (rest.drop 1)
  rw [List.length_drop] at z2
  have sB : ∀ w ∈ every2 (rest.drop 1), w.length ≤ 900000 := fun w hw => sp w (List.mem_cons_of_mem _ (List.mem_of_mem_drop (every2_mem _ w hw)))
  unfold F_line_in
  refine ⟨rfl, ⟨by decide +kernel, by omega⟩, ?_⟩
  rw [e]
  refine (show (enumD 0 ((w0 :: rest).map PyData.str)).length ≤ 1000000 ∧ _ from ⟨by rw [enumD_len, List.length_map, List.length_cons]; omega, ?_⟩)
  refine all_stand (w0 :: rest) 0 _ _ sp h fun s2 s3 => ?_
  refine (show F_is_whole [.dt (.list ((w0 :: rest).map PyData.str))] _ from isWhole_of ?_)
  rw [hw]
  refine (show (every2 (((w0 :: rest).map PyData.str).drop 2)).length ≤ 1000000 ∧ compD (gN 3) fYes (eCall F_bin_in (aCons (eVar 3) aNil)) _ (every2 (((w0 :: rest).map PyData.str).drop 2)) [] _ from ?_)
  rw [m2]
  refine ⟨by rw [List.length_map]; omega, comp_enc PyData.str (fun w => .tuple [.int (binH w), .int (binR w)]) _ [] (fun w hw P p => binIn_of (sB w hw) (hB w hw) p) ?_⟩
  rw [List.nil_append]
  refine (show ((every2 (rest.drop 1)).map fun w => PyData.tuple [.int (binH w), .int (binR w)]).length ≤ 1000000 ∧ _ from ⟨by rw [List.length_map]; omega, comp_enc (fun w => PyData.tuple [.int (binH w), .int (binR w)]) (fun w => .int (binR w)) _ [] (fun w hw P p => p) ?_⟩)
  rw [List.nil_append]
  refine (show ((every2 (rest.drop 1)).map fun w => PyData.tuple [.int (binH w), .int (binR w)]).length ≤ 1000000 ∧ _ from ⟨by rw [List.length_map]; omega, comp_enc (fun w => PyData.tuple [.int (binH w), .int (binR w)]) (fun w => .int (binH w)) _ [] (fun w hw P p => p) ?_⟩)
  rw [List.nil_append]
  refine (show atQ (L2.atI ((w0 :: rest).map PyData.str) ((0 : Nat) : Int)) _ from ?_)
  rw [first_at]
  refine (show (every2 (((w0 :: rest).map PyData.str).drop 1)).length ≤ 1000000 ∧ compD (gN 3) fYes (eCall F_width_in (aCons (eVar 3) aNil)) _ (every2 (((w0 :: rest).map PyData.str).drop 1)) [] _ from ?_)
  rw [m1]
  refine ⟨by rw [List.length_map]; omega, comp_enc PyData.str (fun w => oI (widO w)) _ [] (fun w hw P p => widIn_of (hW w hw) p) ?_⟩
  rw [List.nil_append]
  exact q
theorem lineInR_of {P : Ex.XW} (hl : x.length ≤ 800000) (e : Txt.split x " " = w0 :: rest) (h : (∃ j, fb 0 (w0 :: rest) = some j ∧ P "BadWord" (some ("at", .int ((j : Nat) : Int)))) ∨ (fb 0 (w0 :: rest) = none ∧ whB w0 (rest.length + 1) = false ∧ P "BadWord" (some ("at", .int ((rest.length + 1 : Nat) : Int))))) : R_line_in [.dt (.str x)] P := by
  have sl := split_le x " "
  have sp : ∀ w ∈ w0 :: rest, w.length ≤ 900000 := fun w hw => by
    rw [← e] at hw
    have := part_short hw
    omega
  rw [e] at sl
  have l1 : rest.length + 1 ≤ 900000 := by rw [List.length_cons] at sl; omega
  unfold R_line_in
  refine ⟨rfl, ⟨by decide +kernel, by omega⟩, ?_⟩
  rw [e]
  rcases h with ⟨j, h, p⟩ | ⟨h, hw, p⟩
  · exact .inl (bad_in (w0 :: rest) 0 _ _ sp h p)
  · refine .inr (show (enumD 0 ((w0 :: rest).map PyData.str)).length ≤ 1000000 ∧ _ from ⟨by rw [enumD_len, List.length_map, List.length_cons]; omega, ?_⟩)
    refine all_stand (w0 :: rest) 0 _ _ sp h fun s2 s3 => ?_
    refine (show F_is_whole [.dt (.list ((w0 :: rest).map PyData.str))] _ from isWhole_of ?_)
    rw [hw]
    show P "BadWord" (some ("at", .int ((((w0 :: rest).map PyData.str).length : Nat) : Int)))
    rw [List.length_map, List.length_cons]
    exact p
end
end Kc
namespace Kc
open PySem PySem.Spec PyProof.Rows L2 Xg Dv Kd PySem.NumText
def resD (x : Str) : PyData := match Txt.split x " " with
  | [] => .none
  | w0 :: rest => match fb 0 (w0 :: rest) with
    | some j => .int ((j : Nat) : Int)
    | none => if whB w0 (rest.length + 1) = true then lnD w0 rest else .int ((rest.length + 1 : Nat) : Int)
theorem split_some (x : Str) : ∃ w0 rest, Txt.split x " " = w0 :: rest := by
  have sp := split_pos x " "
  cases e : Txt.split x " " with
  | nil => rw [e] at sp; exact absurd sp (by decide)
  | cons w0 rest => exact ⟨_, _, rfl⟩
section
variable {x : Str} {Q : PyData → Prop}
theorem caught_of {s1 : Sl} {n : Int} (q : Q (.int n)) : f__law_told_2 [.dt (.str x), s1, .exc "BadWord" (some ("at", .int n)), .no, .no] { nx := fun _ => Q .none, rt := Q, rl := fun ds => Q (.list ds) } := by
  have m : ("BadWord" : Str) ∈ (["BadWord"] : List Str) := List.mem_cons_self
  unfold f__law_told_2
  show f__law_told_1 [.dt (.str x), s1, .exc "BadWord" (some ("at", .int n)), .no, .no] _
  unfold f__law_told_1
  refine ⟨m, ?_⟩
  show if decide (("BadWord" : Str) = "BadWord") = true then _ else _
  rw [if_pos (decide_eq_true rfl)]
  refine ⟨m, ?_⟩
  show f__law_told_0 [.dt (.str x), s1, .exc "BadWord" (some ("at", .int n)), .dt (.bool true), .no] _
  unfold f__law_told_0
  refine ⟨m, ?_⟩
  have e : (["BadDeed", "BadRow", "NoStep", "NotAlike", "Unlike"] : List Str).contains "BadWord" = false := by decide +kernel
  show if (!(["BadDeed", "BadRow", "NoStep", "NotAlike", "Unlike"] : List Str).contains "BadWord") = true then _ else _
  rw [e, if_pos (by rfl)]
  exact ⟨⟨m, rfl⟩, q⟩
theorem told_of (hl : x.length ≤ 800000) (q : Q (resD x)) : F__law_told [.dt (.str x)] Q := by
  have m : ("BadWord" : Str) ∈ (["BadWord"] : List Str) := List.mem_cons_self
  have fine : ∀ d, Q d → f__law_told_2 [.dt (.str x), .dt d, .dt .none, .no, .no] { nx := fun _ => Q .none, rt := Q, rl := fun ds => Q (.list ds) } := fun d h => by
    unfold f__law_told_2
    exact h
  obtain ⟨w0, rest, e⟩ := split_some x
  unfold resD at q
  rw [e] at q
  unfold F__law_told
  refine ⟨rfl, ?_⟩
  show f__law_told_3 [.dt (.str x), .dt .none, .dt .none, .no, .no] _
  unfold f__law_told_3
  cases h : fb 0 (w0 :: rest) with
  | some j =>
    have q : Q (match fb 0 (w0 :: rest) with
      | some j => .int ((j : Nat) : Int)
      | none => if whB w0 (rest.length + 1) = true then lnD w0 rest else .int ((rest.length + 1 : Nat) : Int)) := q
    rw [h] at q
    exact .inr (lineInR_of hl e (.inl ⟨j, h, m, caught_of q⟩))
  | none =>
    have q : Q (match fb 0 (w0 :: rest) with
      | some j => .int ((j : Nat) : Int)
      | none => if whB w0 (rest.length + 1) = true then lnD w0 rest else .int ((rest.length + 1 : Nat) : Int)) := q
    rw [h] at q
    have q : Q (if whB w0 (rest.length + 1) = true then lnD w0 rest else .int ((rest.length + 1 : Nat) : Int)) := q
    cases c : whB w0 (rest.length + 1) with
    | true =>
      rw [if_pos c] at q
      exact .inl (lineIn_of hl e h c (fine _ q))
    | false =>
      rw [c, if_neg (by decide)] at q
      exact .inr (lineInR_of hl e (.inr ⟨h, c, m, caught_of q⟩))
def nmO (p : Str) : PyData := if numB p = true then .int ((vN p : Nat) : Int) else .none
theorem nm_lay (p : Str) : (nmO p).canLay0 = true := by
  unfold nmO
  split <;> simp [PyData.canLay0]
theorem nm_depth (p : Str) : (nmO p).depth = 0 := by
  unfold nmO
  split <;> simp [PyData.depth]
theorem nm_eqv (p : Str) : PyData.eqv (nmO p) .none = !numB p := by
  unfold nmO
  cases c : numB p with
  | true => rw [if_pos rfl]; simp [PyData.eqv]
  | false => rw [if_neg (by decide)]; simp [PyData.eqv]
theorem nm_shaped (l : List Str) : SeqAt.shaped (.list (l.map nmO)) = true := by
  obtain ⟨g1, g2⟩ := lay_flat nmO nm_lay nm_depth l
  unfold SeqAt.shaped
  rw [PyData.canLay0, PyData.depth, g1, g2]
  rfl
theorem lawBin_of {w : Str} (hl : w.length ≤ 900000) (q : Q (if binB w = true then .list [.int (binH w), .int (binR w)] else .none)) : F__law_bin [.dt (.str w)] Q := by
  have parts : ∀ a ∈ Txt.split w "/", a.length ≤ 1000000 := fun a ha => by
    have := part_short ha
    omega
  have sl := split_le w "/"
  unfold F__law_bin
  refine ⟨rfl, ⟨by decide +kernel, by omega⟩, ?_⟩
  refine (show ((Txt.split w "/").map PyData.str).length ≤ 1000000 ∧ _ from ⟨by rw [List.length_map]; omega, comp_enc PyData.str nmO _ [] (fun p hp P k => lawNumber_of (parts p hp) k) ?_⟩)
  rw [List.nil_append]
  show f__law_bin_1 [.dt (.str w), .dt (.list ((Txt.split w "/").map nmO)), .no] _
  unfold f__law_bin_1
  show if (!decide (((((Txt.split w "/").map nmO).length : Nat) : Int) = 2)) = true then _ else _
  rw [List.length_map]
  unfold binB binH binR at q
  generalize e : Txt.split w "/" = l at q parts
  match l, e, q, parts with
  | [a, b], e, q, parts =>
    have q : Q (if ((numB a && numB b) && (decide (1 ≤ vN b) && decide (vN a ≤ vN b))) = true then .list [.int ((vN a : Nat) : Int), .int ((vN b : Nat) : Int)] else .none) := q
    rw [if_neg (by show ¬ (!decide (((2 : Nat) : Int) = 2)) = true; decide)]
    refine (show SeqAt.shaped PyData.none = true ∧ SeqAt.shaped (.list ([a, b].map nmO)) = true ∧ _ from ⟨by decide +kernel, nm_shaped _, ?_⟩)
    have ea : (([a, b].map nmO).any fun z => PyData.eqv z .none) = !(numB a && numB b) := by
      show (PyData.eqv (nmO a) .none || (PyData.eqv (nmO b) .none || false)) = _
      rw [nm_eqv, nm_eqv, Bool.or_false, Bool.not_and]
    show if (([a, b].map nmO).any fun z => PyData.eqv z .none) = true then _ else _
    rw [ea]
    cases c : (numB a && numB b) with
    | false =>
      rw [c, Bool.false_and] at q
      exact q
    | true =>
      rw [c, Bool.true_and] at q
      rw [if_neg (by decide)]
      rw [Bool.and_eq_true] at c
      have na : nmO a = .int ((vN a : Nat) : Int) := by unfold nmO; rw [if_pos c.1]
      have nb : nmO b = .int ((vN b : Nat) : Int) := by unfold nmO; rw [if_pos c.2]
      have em : [a, b].map nmO = [.int ((vN a : Nat) : Int), .int ((vN b : Nat) : Int)] := by
        rw [← na, ← nb]
        rfl
      rw [em]
      show if decide (((vN b : Nat) : Int) < 1) = true then _ else _
      by_cases c1 : 1 ≤ vN b
      · rw [if_neg (by rw [decide_eq_true_eq]; omega)]
        rw [decide_eq_true c1, Bool.true_and] at q
        show if decide (((vN b : Nat) : Int) < ((vN a : Nat) : Int)) = true then _ else _
        by_cases c2 : vN a ≤ vN b
        · rw [if_neg (by rw [decide_eq_true_eq]; omega)]
          rw [if_pos (decide_eq_true c2)] at q
          show f__law_bin_0 [.dt (.str w), .dt (.list [.int ((vN a : Nat) : Int), .int ((vN b : Nat) : Int)]), .no] _
          unfold f__law_bin_0
          exact q
        · rw [if_pos (decide_eq_true (by omega))]
          rw [decide_eq_false c2] at q
          exact q
      · rw [if_pos (decide_eq_true (by omega))]
        rw [decide_eq_false c1, Bool.false_and] at q
        exact q
  | [], e, q, _ => exact q
  | [_], e, q, _ => exact q
  | a :: b :: c :: l, e, q, _ =>
    have e2 : (!decide ((((a :: b :: c :: l).length : Nat) : Int) = 2)) = true := by
      rw [decide_eq_false (by show ¬ ((l.length + 1 + 1 + 1 : Nat) : Int) = 2; omega)]
      rfl
    rw [if_pos e2]
    exact q
end
end Kc
namespace Kc
open PySem PySem.Spec PyProof.Rows L2 Xg Dv Kd PySem.NumText
abbrev rdB : FS := (sIf (fTest (eBin gEq (eBin (gIc (fun _ j => 0 < j) fun i j => i % j) (eVar 5) (eC (.int 2))) (eC (.int 0)))) (sSeq (sIf (fAnd (fTest (eBin gNe (eVar 6) (eC (.str "~")))) (fTest (eBin gIs (eCall F__law_number (aCons (eVar 6) (aCons (eC (.int 10)) aNil))) (eC .none)))) (sRet (eBin gAdd (eVar 5) (eC (.int 1)))) sSkip) f__law_read_0) (sSeq (sAsg (eCall F__law_bin (aCons (eVar 6) aNil)) (gN 8)) f__law_read_3))
abbrev st9 (d0 d1 : Sl) (R : List Int) (W : List (Option Int)) (L : List Int) (s5 s6 s7 s8 : Sl) : List Sl := [d0, d1, .own (R.map PyData.int), .own (W.map oI), .own (L.map PyData.int), s5, s6, s7, s8]
section
variable {E : DEnds} {d0 d1 s7 s8 : Sl} {R L : List Int} {W : List (Option Int)} {w : Str}
theorem wid_step {m : Nat} (hl : w.length ≤ 900000) (lw : W.length < 1000000) (no : widB w = false → E.rt (.int ((2 * m + 1 : Nat) : Int))) (yes : widB w = true → E.nx (st9 d0 d1 R (W ++ [widO w]) L (.dt (.int ((2 * m : Nat) : Int))) (.dt (.str w)) s7 s8)) :
    rdB (st9 d0 d1 R W L (.dt (.int ((2 * m : Nat) : Int))) (.dt (.str w)) s7 s8) E := by
  refine (show (0 : Int) < 2 ∧ _ from ⟨by decide, ?_⟩)
  show if decide (((2 * m : Nat) : Int) % 2 = 0) = true then _ else _
  rw [if_pos (decide_eq_true (by omega))]
  have add : widB w = true → f__law_read_0 (st9 d0 d1 R W L (.dt (.int ((2 * m : Nat) : Int))) (.dt (.str w)) s7 s8) E := fun h => by
    have y := yes h
    unfold f__law_read_0
    unfold widO at y
    unfold widB at h
    show if decide (w = "~") = true then _ else _
    by_cases c : w = "~"
    · rw [if_pos (decide_eq_true c)]
      rw [if_pos c] at y
      refine ⟨by rw [List.length_map]; exact lw, ?_⟩
      unfold st9 at y
      rw [List.map_append] at y
      exact y
    · rw [if_neg (by rw [decide_eq_true_eq]; exact c)]
      rw [if_neg c] at y
      rw [decide_eq_false c, Bool.false_or] at h
      refine ⟨_, num_is h, num_len h, by rw [List.length_map]; exact lw, ?_⟩
      unfold st9 at y
      rw [List.map_append] at y
      exact y
  show if (!decide (w = "~")) = true then _ else _
  by_cases c : w = "~"
  · rw [decide_eq_true c, if_neg (by decide)]
    exact add (by unfold widB; rw [decide_eq_true c, Bool.true_or])
  · rw [decide_eq_false c, if_pos (by rfl)]
    refine (show F__law_number [.dt (.str w), .dt (.int 10)] _ from lawNumber_of (by omega) ?_)
    have eb : widB w = numB w := by unfold widB; rw [decide_eq_false c, Bool.false_or]
    cases n : numB w with
    | true =>
      rw [if_pos rfl]
      exact add (by rw [eb, n])
    | false =>
      rw [if_neg (by decide)]
      have z := no (by rw [eb, n])
      show E.rt (.int (((2 * m : Nat) : Int) + 1))
      rw [show ((2 * m : Nat) : Int) + 1 = ((2 * m + 1 : Nat) : Int) by omega]
      exact z
theorem bin_step {m : Nat} (hl : w.length ≤ 900000) (lr : R.length < 1000000) (ll : L.length < 1000000) (no : binB w = false → E.rt (.int ((2 * m + 2 : Nat) : Int))) (yes : binB w = true → ∀ s8, E.nx (st9 d0 d1 (R ++ [binR w]) W (L ++ [binH w]) (.dt (.int ((2 * m + 1 : Nat) : Int))) (.dt (.str w)) s7 s8)) :
    rdB (st9 d0 d1 R W L (.dt (.int ((2 * m + 1 : Nat) : Int))) (.dt (.str w)) s7 s8) E := by
  refine (show (0 : Int) < 2 ∧ _ from ⟨by decide, ?_⟩)
  show if decide (((2 * m + 1 : Nat) : Int) % 2 = 0) = true then _ else _
  rw [if_neg (by rw [decide_eq_true_eq]; omega)]
  refine (show F__law_bin [.dt (.str w)] _ from lawBin_of hl ?_)
  cases b : binB w with
  | false =>
    rw [if_neg (by decide)]
    show f__law_read_3 (st9 d0 d1 R W L (.dt (.int ((2 * m + 1 : Nat) : Int))) (.dt (.str w)) s7 (.dt .none)) E
    unfold f__law_read_3
    have z := no b
    show E.rt (.int (((2 * m + 1 : Nat) : Int) + 1))
    rw [show ((2 * m + 1 : Nat) : Int) + 1 = ((2 * m + 2 : Nat) : Int) by omega]
    exact z
  | true =>
    rw [if_pos rfl]
    show f__law_read_3 (st9 d0 d1 R W L (.dt (.int ((2 * m + 1 : Nat) : Int))) (.dt (.str w)) s7 (.dt (.list [.int (binH w), .int (binR w)]))) E
    unfold f__law_read_3
    have y := yes b (.dt (.list [.int (binH w), .int (binR w)]))
    unfold st9 at y
    rw [List.map_append, List.map_append] at y
    show f__law_read_2 (st9 d0 d1 R W L (.dt (.int ((2 * m + 1 : Nat) : Int))) (.dt (.str w)) s7 (.dt (.list [.int (binH w), .int (binR w)]))) E
    unfold f__law_read_2
    refine ⟨by rw [List.length_map]; exact ll, ?_⟩
    show f__law_read_1 [d0, d1, .own (R.map PyData.int), .own (W.map oI), .own (L.map PyData.int ++ [.int (binH w)]), .dt (.int ((2 * m + 1 : Nat) : Int)), .dt (.str w), s7, .dt (.list [.int (binH w), .int (binR w)])] E
    unfold f__law_read_1
    exact ⟨by rw [List.length_map]; exact lr, y⟩
end
theorem csOdd {m : Nat} {w : Str} : csB (2 * m + 1) w = widB w := by unfold csB; rw [if_neg (by omega), if_pos (by omega)]
theorem csEven {m : Nat} {w : Str} : csB (2 * m + 2) w = binB w := by unfold csB; rw [if_neg (by omega), if_neg (by omega)]
abbrev tgB : FG := (gT (gsCons (gN 5) (gsCons (gN 6) gsNil)))
theorem rd_loop {E : DEnds} {d0 d1 s7 : Sl} : ∀ (rest : List Str) (m : Nat) (R L : List Int) (W : List (Option Int)) (s5 s6 s8 : Sl), (∀ w ∈ rest, w.length ≤ 900000) → R.length + rest.length < 1000000 → L.length + rest.length < 1000000 → W.length + rest.length < 1000000 →
    (fb (2 * m + 1) rest = none → ∀ s5 s6 s8, E.nx (st9 d0 d1 (R ++ (every2 (rest.drop 1)).map binR) (W ++ (every2 rest).map widO) (L ++ (every2 (rest.drop 1)).map binH) s5 s6 s7 s8)) →
    (∀ j, fb (2 * m + 1) rest = some j → E.rt (.int ((j : Nat) : Int))) → forD tgB rdB (enumD (2 * m) (rest.map PyData.str)) (st9 d0 d1 R W L s5 s6 s7 s8) E
  | [], m, R, L, W, s5, s6, s8, _, _, _, _, hn, _ => by
    have z := hn rfl s5 s6 s8
    rw [show (every2 (([] : List Str).drop 1)).map binR = [] from rfl, show (every2 (([] : List Str).drop 1)).map binH = [] from rfl, show (every2 ([] : List Str)).map widO = [] from rfl, List.append_nil, List.append_nil, List.append_nil] at z
    exact z
  | [w], m, R, L, W, s5, s6, s8, hz, hR, hL, hW, hn, hs => by
    unfold fb at hn hs
    rw [csOdd] at hn
    refine wid_step (E := { E with nx := _, ct := _, bk := E.nx }) (hz w List.mem_cons_self) (by omega) (fun c => ?_) fun c => ?_
    · exact hs _ (by rw [csOdd, c, if_neg (by decide)])
    · have z := hn (by rw [c, if_pos rfl]; rfl) (.dt (.int ((2 * m : Nat) : Int))) (.dt (.str w)) s8
      rw [show (every2 ([w].drop 1)).map binR = [] from rfl, show (every2 ([w].drop 1)).map binH = [] from rfl, List.append_nil, List.append_nil] at z
      exact z
  | w :: b :: r, m, R, L, W, s5, s6, s8, hz, hR, hL, hW, hn, hs => by
    rw [List.length_cons, List.length_cons] at hR hL hW
    unfold fb at hn hs
    rw [csOdd] at hn
    refine wid_step (E := { E with nx := _, ct := _, bk := E.nx }) (hz w List.mem_cons_self) (by omega) (fun c => ?_) fun c => ?_
    · exact hs _ (by rw [csOdd, c, if_neg (by decide)])
    · rw [c, if_pos rfl] at hn
      have hs : ∀ j, fb (2 * m + 1 + 1) (b :: r) = some j → E.rt (.int ((j : Nat) : Int)) := fun j e => hs j (by rw [csOdd, c, if_pos rfl]; exact e)
      unfold fb at hn hs
      rw [csEven] at hn
      refine (show rdB (st9 d0 d1 R (W ++ [widO w]) L (.dt (.int ((2 * m + 1 : Nat) : Int))) (.dt (.str b)) s7 s8) _ from bin_step (E := { E with nx := _, ct := _, bk := E.nx }) (hz b (List.mem_cons_of_mem _ List.mem_cons_self)) (by omega) (by omega) (fun c2 => ?_) fun c2 s8 => ?_)
      · exact hs _ (by rw [csEven, c2, if_neg (by decide)])
      · rw [c2, if_pos rfl] at hn
        have hs : ∀ j, fb (2 * m + 1 + 1 + 1) r = some j → E.rt (.int ((j : Nat) : Int)) := fun j e => hs j (by rw [csEven, c2, if_pos rfl]; exact e)
        refine rd_loop r (m + 1) (R ++ [binR b]) (L ++ [binH b]) (W ++ [widO w]) _ _ _ (fun y hy => hz y (List.mem_cons_of_mem _ (List.mem_cons_of_mem _ hy))) (by rw [List.length_append]; show _ + 1 + _ < _; omega) (by rw [List.length_append]; show _ + 1 + _ < _; omega) (by rw [List.length_append]; show _ + 1 + _ < _; omega) (fun e s5 s6 s8 => ?_) hs
        have z := hn e s5 s6 s8
        rw [show (w :: b :: r).drop 1 = b :: r from rfl, every2_two, List.map_cons, List.map_cons] at z
        rw [List.append_assoc, List.append_assoc, List.append_assoc]
        exact z
end Kc
namespace Kc
open PySem PySem.Spec PyProof.Rows L2 Xg Dv Kd PySem.NumText
theorem cutF81 {ys : List Str} {k : Nat} : Dv.cutD (ys.map PyData.str) (some ((k : Nat) : Int)) none = (ys.drop k).map PyData.str := by
  unfold Dv.cutD
  rw [HT.sIx_none, HT.sIx_nat, List.map_drop, List.length_map]
  by_cases h : k ≤ ys.length
  · rw [Nat.min_eq_left h, List.take_of_length_le (by rw [List.length_drop, List.length_map]; exact Nat.le_refl _)]
  · rw [Nat.min_eq_right (by omega), List.drop_of_length_le (by rw [List.length_map]; exact Nat.le_refl _), List.drop_of_length_le (by rw [List.length_map]; omega), List.take_nil]
section
variable {x w0 : Str} {rest : List Str} {Q : PyData → Prop} {R L : List Int} {W : List (Option Int)} {s5 s6 s8 : Sl}
abbrev en81 (Q : PyData → Prop) : DEnds := { nx := fun _ => Q .none, rt := Q, rl := fun ds => Q (.list ds) }
abbrev wsD (w0 : Str) (rest : List Str) : Sl := .dt (.list ((w0 :: rest).map PyData.str))
theorem rd4_of {s7 : Sl} (q : Q (.tuple [.tuple [.str w0, .tuple (R.map PyData.int)], .tuple (W.map oI), .tuple (L.map PyData.int)])) : f__law_read_4 (st9 (.dt (.str x)) (wsD w0 rest) R W L s5 s6 s7 s8) (en81 Q) := by
  unfold f__law_read_4
  refine (show atQ (L2.atI ((w0 :: rest).map PyData.str) ((0 : Nat) : Int)) _ from ?_)
  rw [first_at]
  exact q
theorem rd5_of {least : Nat} (el : least = if w0 = "row" then 1 else 2) (yes : (least ≤ R.length ∧ W.length = R.length + (if w0 = "row" then 1 else 0)) → Q (.tuple [.tuple [.str w0, .tuple (R.map PyData.int)], .tuple (W.map oI), .tuple (L.map PyData.int)]))
    (no : ¬ (least ≤ R.length ∧ W.length = R.length + (if w0 = "row" then 1 else 0)) → Q (.int ((rest.length + 1 : Nat) : Int))) : f__law_read_5 (st9 (.dt (.str x)) (wsD w0 rest) R W L s5 s6 (.dt (.int ((least : Nat) : Int))) s8) (en81 Q) := by
  have nn : ¬ (least ≤ R.length ∧ W.length = R.length + (if w0 = "row" then 1 else 0)) → Q (.int ((((w0 :: rest).map PyData.str).length : Nat) : Int)) := fun h => by
    rw [List.length_map, List.length_cons]
    exact no h
  unfold f__law_read_5
  show if decide ((((R.map PyData.int).length : Nat) : Int) < ((least : Nat) : Int)) = true then _ else _
  rw [List.length_map]
  by_cases c : least ≤ R.length
  · rw [if_neg (by rw [decide_eq_true_eq]; omega)]
    refine (show atQ (L2.atI ((w0 :: rest).map PyData.str) ((0 : Nat) : Int)) _ from ?_)
    rw [first_at]
    show if (!decide ((((W.map oI).length : Nat) : Int) = (((R.map PyData.int).length : Nat) : Int) + (if decide (w0 = "row") = true then 1 else 0))) = true then _ else _
    rw [List.length_map, List.length_map]
    have ei : (if decide (w0 = "row") = true then (1 : Int) else 0) = (((if w0 = "row" then 1 else 0 : Nat)) : Int) := by
      by_cases h : w0 = "row"
      · rw [if_pos (decide_eq_true h), if_pos h]; rfl
      · rw [if_neg (by rw [decide_eq_true_eq]; exact h), if_neg h]; rfl
    rw [ei]
    by_cases c2 : W.length = R.length + (if w0 = "row" then 1 else 0)
    · rw [decide_eq_true (by rw [c2]; omega), if_neg (by decide)]
      exact rd4_of (yes ⟨c, c2⟩)
    · rw [decide_eq_false (fun h => c2 (by omega)), if_pos (by rfl)]
      exact nn fun h => c2 h.2
  · rw [if_pos (decide_eq_true (by omega))]
    exact nn fun h => c h.1
theorem read_of (hl : x.length ≤ 800000) (q : Q (resD x)) : F__law_read [.dt (.str x)] Q := by
  obtain ⟨w0, rest, e⟩ := split_some x
  unfold resD at q
  rw [e] at q
  have q : Q (match fb 0 (w0 :: rest) with
    | some j => .int ((j : Nat) : Int)
    | none => if whB w0 (rest.length + 1) = true then lnD w0 rest else .int ((rest.length + 1 : Nat) : Int)) := q
  have sl := split_le x " "
  have sp : ∀ w ∈ w0 :: rest, w.length ≤ 900000 := fun w hw => by
    rw [← e] at hw
    have := part_short hw
    omega
  rw [e, List.length_cons] at sl
  unfold F__law_read
  refine ⟨rfl, ⟨by decide +kernel, by omega⟩, ?_⟩
  rw [e]
  show f__law_read_8 (st9 (.dt (.str x)) (wsD w0 rest) [] [] [] .no .no .no .no) (en81 Q)
  unfold f__law_read_8
  refine (show atQ (L2.atI ((w0 :: rest).map PyData.str) ((0 : Nat) : Int)) _ from ?_)
  rw [first_at]
  refine (show ∃ ns : List Str, [PyData.str "row", .str "ring"] = ns.map PyData.str ∧ _ from ⟨["row", "ring"], rfl, ?_⟩)
  show if (!decide (w0 ∈ (["row", "ring"] : List Str))) = true then _ else _
  by_cases c : w0 = "row" ∨ w0 = "ring"
  · have c0 : csB 0 w0 = true := by
      unfold csB
      rw [if_pos rfl, Bool.or_eq_true, decide_eq_true_eq, decide_eq_true_eq]
      exact c
    unfold fb at q
    rw [c0, if_pos rfl] at q
    rw [decide_eq_true (by simpa using c), if_neg (by decide)]
    show f__law_read_7 (st9 (.dt (.str x)) (wsD w0 rest) [] [] [] .no .no .no .no) (en81 Q)
    unfold f__law_read_7
    refine (show (enumD 0 (Dv.cutD ((w0 :: rest).map PyData.str) (some ((1 : Nat) : Int)) none)).length ≤ 1000000 ∧ forD tgB rdB (enumD 0 (Dv.cutD ((w0 :: rest).map PyData.str) (some ((1 : Nat) : Int)) none)) (st9 (.dt (.str x)) (wsD w0 rest) [] [] [] .no .no .no .no) _ from ?_)
    rw [cutF81]
    refine ⟨by rw [enumD_len, List.length_map, List.length_drop, List.length_cons]; omega, ?_⟩
    refine rd_loop rest 0 [] [] [] _ _ _ (fun w hw => sp w (List.mem_cons_of_mem _ hw)) (by show 0 + _ < _; omega) (by show 0 + _ < _; omega) (by show 0 + _ < _; omega) (fun h s5 s6 s8 => ?_) fun j h => ?_
    · have h : fb 1 rest = none := h
      rw [show fb (0 + 1) rest = none from h] at q
      have q : Q (if whB w0 (rest.length + 1) = true then lnD w0 rest else .int ((rest.length + 1 : Nat) : Int)) := q
      rw [List.nil_append, List.nil_append, List.nil_append]
      have l1 := every2_ln rest
      have l2 := every2_ln (rest.drop 1)
      rw [List.length_drop] at l2
      have fin : ∀ least : Nat, least = (if w0 = "row" then 1 else 2) → f__law_read_5 (st9 (.dt (.str x)) (wsD w0 rest) ((every2 (rest.drop 1)).map binR) ((every2 rest).map widO) ((every2 (rest.drop 1)).map binH) s5 s6 (.dt (.int ((least : Nat) : Int))) s8) (en81 Q) := fun least el => by
        refine rd5_of el (fun g => ?_) fun g => ?_
        · rw [List.length_map, List.length_map, l1, l2] at g
          have w : whB w0 (rest.length + 1) = true := by
            unfold whB
            by_cases r : w0 = "row"
            · rw [if_pos r] at el g ⊢
              rw [decide_eq_true (by omega), decide_eq_true (by omega)]
              rfl
            · rw [if_neg r] at el g ⊢
              rw [decide_eq_true (by omega), decide_eq_true (by omega)]
              rfl
          rw [if_pos w] at q
          unfold lnD at q
          rw [List.map_map, List.map_map, List.map_map]
          exact q
        · rw [List.length_map, List.length_map, l1, l2] at g
          have w : whB w0 (rest.length + 1) = false := by
            unfold whB
            by_cases r : w0 = "row"
            · rw [if_pos r] at el g ⊢
              by_cases a : 4 ≤ rest.length + 1
              · rw [decide_eq_true a, decide_eq_false (by omega)]
                rfl
              · rw [decide_eq_false a]
                rfl
            · rw [if_neg r] at el g ⊢
              by_cases a : 5 ≤ rest.length + 1
              · rw [decide_eq_true a, decide_eq_false (by omega)]
                rfl
              · rw [decide_eq_false a]
                rfl
          rw [w, if_neg (by decide)] at q
          exact q
      show f__law_read_6 (st9 (.dt (.str x)) (wsD w0 rest) ((every2 (rest.drop 1)).map binR) ((every2 rest).map widO) ((every2 (rest.drop 1)).map binH) s5 s6 .no s8) (en81 Q)
      unfold f__law_read_6
      refine (show atQ (L2.atI ((w0 :: rest).map PyData.str) ((0 : Nat) : Int)) _ from ?_)
      rw [first_at]
      show if decide (w0 = "row") = true then _ else _
      by_cases r : w0 = "row"
      · rw [if_pos (decide_eq_true r)]
        exact fin 1 (by rw [if_pos r])
      · rw [if_neg (by rw [decide_eq_true_eq]; exact r)]
        exact fin 2 (by rw [if_neg r])
    · rw [show fb (0 + 1) rest = some j from h] at q
      exact q
  · have c0 : csB 0 w0 = false := by
      unfold csB
      rw [if_pos rfl, Bool.or_eq_false_iff]
      exact ⟨decide_eq_false fun h => c (.inl h), decide_eq_false fun h => c (.inr h)⟩
    unfold fb at q
    rw [c0, if_neg (by decide)] at q
    rw [decide_eq_false (by simpa using c), if_pos (by rfl)]
    exact q
theorem shal_map {α : Type} {n : Nat} {f : α → PyData} {l : List α} (h : l.length ≤ 1000) (hf : ∀ a, shal n (f a) = true) : shal (n + 1) (.tuple (l.map f)) = true := by
  have z : (l.map f).all (shal n) = true := by
    rw [List.all_map, List.all_eq_true]
    exact fun a _ => hf a
  show (decide ((l.map f).length ≤ 1000) && (l.map f).all (shal n)) = true
  rw [z, List.length_map, decide_eq_true h]
  rfl
theorem shal_res (hl : x.length ≤ 900) : shal 5 (resD x) = true := by
  obtain ⟨w0, rest, e⟩ := split_some x
  have sl := split_le x " "
  rw [e, List.length_cons] at sl
  unfold resD
  rw [e]
  show shal 5 (match fb 0 (w0 :: rest) with
    | some j => .int ((j : Nat) : Int)
    | none => if whB w0 (rest.length + 1) = true then lnD w0 rest else .int ((rest.length + 1 : Nat) : Int)) = true
  cases fb 0 (w0 :: rest) with
  | some j => rfl
  | none =>
    show shal 5 (if whB w0 (rest.length + 1) = true then lnD w0 rest else .int ((rest.length + 1 : Nat) : Int)) = true
    split
    · have z1 := every2_len rest
      have z2 := every2_len (rest.drop 1)
      rw [List.length_drop] at z2
      have a : shal 3 (.tuple ((every2 (rest.drop 1)).map fun w => .int (binR w))) = true := shal_map (by omega) fun _ => rfl
      have b : shal 4 (.tuple ((every2 rest).map fun w => oI (widO w))) = true := shal_map (by omega) fun w => by
        cases widO w <;> rfl
      have d : shal 4 (.tuple ((every2 (rest.drop 1)).map fun w => .int (binH w))) = true := shal_map (by omega) fun _ => rfl
      unfold lnD
      show (decide (3 ≤ 1000) && ((decide (2 ≤ 1000) && (shal 3 (.str w0) && (shal 3 (.tuple ((every2 (rest.drop 1)).map fun w => .int (binR w))) && true))) && (shal 4 (.tuple ((every2 rest).map fun w => oI (widO w))) && (shal 4 (.tuple ((every2 (rest.drop 1)).map fun w => .int (binH w))) && true)))) = true
      rw [a, b, d]
      rfl
    · rfl
theorem alike_of (hl : x.length ≤ 900) (q : Q (.bool true)) : F__law_told [.dt (.str x)] fun d => F__law_read [.dt (.str x)] fun e => F_same [.dt d, .dt e] Q :=
  told_of (by omega) (read_of (by omega) ⟨⟨rfl, shal_res hl⟩, q⟩)
end
end Kc
namespace Kc
open PySem PySem.Spec PyProof.Rows L2 Xg Dv Kd PySem.NumText
theorem pickT_of {x : Str} {Q : PyData → Prop} (h0 : 0 < x.length) (hz : x.length < 1000) (q : ∀ c : Nat, Q (.str ⟨#[c]⟩)) : F__law_pick__x [.box, .dt (.str x)] Q := by
  unfold F__law_pick__x
  refine ⟨rfl, by omega, ⟨by omega, by omega⟩, fun r r0 r1 => ?_⟩
  obtain ⟨i, rfl⟩ : ∃ i : Nat, r = (i : Int) := ⟨r.toNat, by omega⟩
  have hi : i < x.cps.toList.length := by show i < x.length; omega
  exact ⟨by omega, _, L2.atI_nat (List.getElem?_eq_getElem hi), q _⟩
theorem cat_len {x y : Str} : (x ++ y).length = x.length + y.length := Array.size_append
theorem cut_len (x : Str) (lo hi : Option Int) : (cutS x lo hi).length ≤ x.length := cutS_length x lo hi
theorem join_le {s : Str} (ys : List Str) : (Txt.join s ys).length ≤ (ys.map (·.length)).sum + ys.length * s.length := by
  have e : (Txt.join s ys).length = (ys.map (·.length)).sum + (ys.length - 1) * s.length := size_glued s ys
  have := Nat.mul_le_mul_right s.length (Nat.sub_le ys.length 1)
  omega
def wl (ys : List Str) : Nat := (ys.map (·.length)).sum + ys.length
theorem wl_app {a b : List Str} : wl (a ++ b) = wl a + wl b := by
  unfold wl
  rw [List.map_append, List.sum_append, List.length_append]
  omega
theorem wl_cut (ys : List Str) (k : Nat) : wl (ys.take k) ≤ wl ys ∧ wl (ys.drop k) ≤ wl ys := by
  have e : wl (ys.take k) + wl (ys.drop k) = wl ys := by rw [← wl_app, List.take_append_drop]
  omega
theorem cutT {ys : List Str} {k : Nat} : Dv.cutD (ys.map PyData.str) none (some ((k : Nat) : Int)) = (ys.take k).map PyData.str := by
  unfold Dv.cutD
  rw [HT.sIx_none, HT.sIx_nat, List.drop_zero, Nat.sub_zero, List.map_take, List.length_map]
  by_cases h : k ≤ ys.length
  · rw [Nat.min_eq_left h]
  · rw [Nat.min_eq_right (by omega), List.take_of_length_le (by rw [List.length_map]; exact Nat.le_refl _), List.take_of_length_le (by rw [List.length_map]; omega)]
theorem cutF {ys : List Str} {k : Nat} : Dv.cutD (ys.map PyData.str) (some ((k : Nat) : Int)) none = (ys.drop k).map PyData.str := by
  unfold Dv.cutD
  rw [HT.sIx_none, HT.sIx_nat, List.map_drop, List.length_map]
  by_cases h : k ≤ ys.length
  · rw [Nat.min_eq_left h, List.take_of_length_le (by rw [List.length_drop, List.length_map]; exact Nat.le_refl _)]
  · rw [Nat.min_eq_right (by omega), List.drop_of_length_le (by rw [List.length_map]; exact Nat.le_refl _), List.drop_of_length_le (by rw [List.length_map]; omega), List.take_nil]
theorem join_of {ys : List Str} {L : Nat} {Q : PyData → Prop} (h : wl ys ≤ L) (hL : L ≤ 10000) (q : ∀ y : Str, y.length ≤ L → Q (.str y)) : strsQ (fun ys => (ys.map (·.length)).sum + ys.length * (" " : Str).length ≤ 16777216 ∧ Q (.str (Txt.join " " ys))) (.list (ys.map PyData.str)) := by
  have e : (" " : Str).length = 1 := by decide +kernel
  have j := join_le (s := " ") ys
  rw [e, Nat.mul_one] at j
  refine ⟨ys, rfl, ?_, q _ (Nat.le_trans j h)⟩
  rw [e, Nat.mul_one]
  exact Nat.le_trans h (by omega)
end Kc
namespace Kc
open PySem PySem.Spec PyProof.Rows L2 Xg Dv Kd PySem.NumText
abbrev en82 (Q : PyData → Prop) : DEnds := { nx := fun _ => Q .none, rt := Q, rl := fun ds => Q (.list ds) }
abbrev sgn82 : Str := "0123456789/~- ,abcfhknortgiw"
section
variable {x wd : Str} {ws : List Str} {Q : PyData → Prop} {L : Nat} {way : Int} {a s : Nat} {s7 : Sl}
abbrev st82 (x : Str) (ws : List Str) (way : Int) (a s : Nat) (s7 : Sl) (wd : Str) : List Sl := [.box, .dt (.str x), .dt (.str sgn82), .dt (.list (ws.map PyData.str)), .dt (.int way), .dt (.int (a : Nat)), .dt (.int (s : Nat)), s7, .dt (.str wd)]
theorem sp0_of (hl : x.length ≤ L) (hz : L ≤ 400) (q : ∀ y : Str, y.length ≤ 2 * L + 20 → Q (.str y)) : f__law_spoilt_0 (st82 x ws way a s s7 wd) (en82 Q) := by
  unfold f__law_spoilt_0
  show if decide (way = 7) = true then _ else _
  split
  · refine (show x.length ≤ 1000000 ∧ _ from ⟨by omega, ?_⟩)
    exact q _ (by have := cut_len x none (some ((a : Nat) : Int)); omega)
  · refine pick_of (ds := [.str "\n", .str " ", .str "", .str "0"]) (by decide) (by decide) fun d hd => ?_
    have h1 : ∃ y : Str, d = .str y ∧ y.length ≤ 1 := by
      simp only [List.mem_cons, List.not_mem_nil, or_false] at hd
      rcases hd with rfl | rfl | rfl | rfl <;> exact ⟨_, rfl, by decide +kernel⟩
    obtain ⟨y, rfl, hy⟩ := h1
    refine (show x.length + y.length ≤ 1000000 ∧ _ from ⟨by omega, ?_⟩)
    exact q _ (by rw [cat_len]; omega)
theorem sp_join (hw : wl ws ≤ L + 1) (hz : L ≤ 400) {ys : List Str} (h : wl ys ≤ 2 * L + 20) (q : ∀ y : Str, y.length ≤ 2 * L + 20 → Q (.str y)) : strsQ (fun ys => (ys.map (·.length)).sum + ys.length * (" " : Str).length ≤ 16777216 ∧ Q (.str (Txt.join " " ys))) (.list (ys.map PyData.str)) := join_of h (by omega) q
theorem sp4_of (hl : x.length ≤ L) (hw : wl ws ≤ L + 1) (hwd : wd.length ≤ L) (hz : L ≤ 400) (q : ∀ y : Str, y.length ≤ 2 * L + 20 → Q (.str y)) : f__law_spoilt_4 (st82 x ws way a s s7 wd) (en82 Q) := by
  have lw : ws.length ≤ L + 1 := by unfold wl at hw; omega
  have e1 : ((s : Nat) : Int) + 1 = ((s + 1 : Nat) : Int) := by omega
  have c0 := wl_cut ws s
  have c1 := wl_cut ws (s + 1)
  have full : wl (ws.take s) + wl (ws.drop s) = wl ws := by rw [← wl_app, List.take_append_drop]
  have c2 : wl (ws.drop (s + 1)) ≤ wl (ws.drop s) := by
    have z := (wl_cut (ws.drop s) 1).2
    rw [List.drop_drop] at z
    exact z
  have lone : wl [wd] = wd.length + 1 := by unfold wl; simp
  unfold f__law_spoilt_4
  show if decide (way = 3) = true then _ else _
  split
  · show (Dv.cutD (ws.map PyData.str) none (some ((s : Nat) : Int))).length + (Dv.cutD (ws.map PyData.str) (some (((s : Nat) : Int) + 1)) none).length ≤ 1000000 ∧ strsQ (fun ys => (ys.map (·.length)).sum + ys.length * (" " : Str).length ≤ 16777216 ∧ Q (.str (Txt.join " " ys))) (.list (Dv.cutD (ws.map PyData.str) none (some ((s : Nat) : Int)) ++ Dv.cutD (ws.map PyData.str) (some (((s : Nat) : Int) + 1)) none))
    rw [e1, cutT, cutF, ← List.map_append]
    exact ⟨by rw [List.length_map, List.length_map, List.length_take, List.length_drop]; omega, sp_join hw hz (by rw [wl_app]; omega) q⟩
  show f__law_spoilt_3 (st82 x ws way a s s7 wd) (en82 Q)
  unfold f__law_spoilt_3
  show if decide (way = 4) = true then _ else _
  split
  · show (Dv.cutD (ws.map PyData.str) none (some (((s : Nat) : Int) + 1))).length + (Dv.cutD (ws.map PyData.str) (some ((s : Nat) : Int)) none).length ≤ 1000000 ∧ strsQ (fun ys => (ys.map (·.length)).sum + ys.length * (" " : Str).length ≤ 16777216 ∧ Q (.str (Txt.join " " ys))) (.list (Dv.cutD (ws.map PyData.str) none (some (((s : Nat) : Int) + 1)) ++ Dv.cutD (ws.map PyData.str) (some ((s : Nat) : Int)) none))
    rw [e1, cutT, cutF, ← List.map_append]
    exact ⟨by rw [List.length_map, List.length_map, List.length_take, List.length_drop]; omega, sp_join hw hz (by rw [wl_app]; omega) q⟩
  show f__law_spoilt_2 (st82 x ws way a s s7 wd) (en82 Q)
  unfold f__law_spoilt_2
  have em : ∀ ys zs : List Str, ys.map PyData.str ++ [PyData.str wd] ++ zs.map PyData.str = (ys ++ [wd] ++ zs).map PyData.str := fun ys zs => by rw [List.map_append, List.map_append]; rfl
  show if decide (way = 5) = true then _ else _
  split
  · show (Dv.cutD (ws.map PyData.str) none (some ((s : Nat) : Int))).length + 1 ≤ 1000000 ∧ (Dv.cutD (ws.map PyData.str) none (some ((s : Nat) : Int)) ++ [PyData.str wd]).length + (Dv.cutD (ws.map PyData.str) (some (((s : Nat) : Int) + 1)) none).length ≤ 1000000 ∧ strsQ (fun ys => (ys.map (·.length)).sum + ys.length * (" " : Str).length ≤ 16777216 ∧ Q (.str (Txt.join " " ys))) (.list (Dv.cutD (ws.map PyData.str) none (some ((s : Nat) : Int)) ++ [PyData.str wd] ++ Dv.cutD (ws.map PyData.str) (some (((s : Nat) : Int) + 1)) none))
    rw [e1, cutT, cutF, em]
    exact ⟨by rw [List.length_map, List.length_take]; omega, by rw [List.length_append, List.length_map, List.length_map, List.length_take, List.length_drop]; show _ + 1 + _ ≤ _; omega, sp_join hw hz (by rw [wl_app, wl_app, lone]; omega) q⟩
  show f__law_spoilt_1 (st82 x ws way a s s7 wd) (en82 Q)
  unfold f__law_spoilt_1
  show if decide (way = 6) = true then _ else _
  split
  · show (Dv.cutD (ws.map PyData.str) none (some ((s : Nat) : Int))).length + 1 ≤ 1000000 ∧ (Dv.cutD (ws.map PyData.str) none (some ((s : Nat) : Int)) ++ [PyData.str wd]).length + (Dv.cutD (ws.map PyData.str) (some ((s : Nat) : Int)) none).length ≤ 1000000 ∧ strsQ (fun ys => (ys.map (·.length)).sum + ys.length * (" " : Str).length ≤ 16777216 ∧ Q (.str (Txt.join " " ys))) (.list (Dv.cutD (ws.map PyData.str) none (some ((s : Nat) : Int)) ++ [PyData.str wd] ++ Dv.cutD (ws.map PyData.str) (some ((s : Nat) : Int)) none))
    rw [cutT, cutF, em]
    exact ⟨by rw [List.length_map, List.length_take]; omega, by rw [List.length_append, List.length_map, List.length_map, List.length_take, List.length_drop]; show _ + 1 + _ ≤ _; omega, sp_join hw hz (by rw [wl_app, wl_app, lone]; omega) q⟩
  exact sp0_of hl hz q
end
end Kc
namespace Kc
open PySem PySem.Spec PyProof.Rows L2 Xg Dv Kd PySem.NumText
section
variable {x wd : Str} {ws : List Str} {Q : PyData → Prop} {L : Nat} {way : Int} {a s : Nat} {s7 : Sl}
theorem sgn_len : (sgn82 : Str).length = 28 := by decide +kernel
theorem sp7_of (hl : x.length ≤ L) (hw : wl ws ≤ L + 1) (hwd : wd.length ≤ L) (hz : L ≤ 400) (q : ∀ y : Str, y.length ≤ 2 * L + 20 → Q (.str y)) : f__law_spoilt_7 (st82 x ws way a s s7 wd) (en82 Q) := by
  have c : ∀ lo hi, (cutS x lo hi).length ≤ L := fun lo hi => Nat.le_trans (cut_len x lo hi) hl
  have one : ∀ c : Nat, (⟨#[c]⟩ : Str).length = 1 := fun _ => rfl
  have sl := sgn_len
  unfold f__law_spoilt_7
  show if decide (way = 0) = true then _ else _
  split
  · refine (show x.length ≤ 1000000 ∧ _ from ⟨by omega, ?_⟩)
    refine (show x.length ≤ 1000000 ∧ _ from ⟨by omega, ?_⟩)
    have h1 := c none (some ((a : Nat) : Int))
    have h2 := c (some (((a : Nat) : Int) + 1)) none
    refine (show (cutS x none (some ((a : Nat) : Int))).length + (cutS x (some (((a : Nat) : Int) + 1)) none).length ≤ 1000000 ∧ _ from ⟨by omega, ?_⟩)
    exact q _ (by rw [cat_len]; omega)
  show f__law_spoilt_6 (st82 x ws way a s s7 wd) (en82 Q)
  unfold f__law_spoilt_6
  show if decide (way = 1) = true then _ else _
  split
  · refine (show x.length ≤ 1000000 ∧ _ from ⟨by omega, ?_⟩)
    refine (show F__law_pick__x [.box, .dt (.str sgn82)] _ from pickT_of (by omega) (by omega) fun c0 => ?_)
    have h1 := c none (some ((a : Nat) : Int))
    have h2 := c (some ((a : Nat) : Int)) none
    refine (show (cutS x none (some ((a : Nat) : Int))).length + (⟨#[c0]⟩ : Str).length ≤ 1000000 ∧ _ from ⟨by rw [one]; omega, ?_⟩)
    refine (show x.length ≤ 1000000 ∧ _ from ⟨by omega, ?_⟩)
    refine (show (cutS x none (some ((a : Nat) : Int)) ++ (⟨#[c0]⟩ : Str)).length + (cutS x (some ((a : Nat) : Int)) none).length ≤ 1000000 ∧ _ from ⟨by rw [cat_len, one]; omega, ?_⟩)
    exact q _ (by rw [cat_len, cat_len, one]; omega)
  show f__law_spoilt_5 (st82 x ws way a s s7 wd) (en82 Q)
  unfold f__law_spoilt_5
  show if decide (way = 2) = true then _ else _
  split
  · refine (show x.length ≤ 1000000 ∧ _ from ⟨by omega, ?_⟩)
    refine (show F__law_pick__x [.box, .dt (.str sgn82)] _ from pickT_of (by omega) (by omega) fun c0 => ?_)
    have h1 := c none (some ((a : Nat) : Int))
    have h2 := c (some (((a : Nat) : Int) + 1)) none
    refine (show (cutS x none (some ((a : Nat) : Int))).length + (⟨#[c0]⟩ : Str).length ≤ 1000000 ∧ _ from ⟨by rw [one]; omega, ?_⟩)
    refine (show x.length ≤ 1000000 ∧ _ from ⟨by omega, ?_⟩)
    refine (show (cutS x none (some ((a : Nat) : Int)) ++ (⟨#[c0]⟩ : Str)).length + (cutS x (some (((a : Nat) : Int) + 1)) none).length ≤ 1000000 ∧ _ from ⟨by rw [cat_len, one]; omega, ?_⟩)
    exact q _ (by rw [cat_len, cat_len, one]; omega)
  exact sp4_of hl hw hwd hz q
abbrev MS (x : Str) (n : Int) : Prop := 2 ≤ n ∧ n ≤ 1000 ∧ 0 < x.length ∧ x.length ≤ 1000 ∧ (repS x n).length ≤ sizeLine
abbrev w14 (w0 : Str) : List PyData := [.str "", .str "0", .str "00", .str "~", .str "row", .str "ring", .str "forth", .str "back", .str "1/2", .str "2/1", .str "0/0", .str "-", .str (repS "9" 14), .str w0]
abbrev w5 : List PyData := [.str (repS "9" 10), .str (repS "9" 11), .str ("1/" ++ repS "9" 10), .str ("1/" ++ repS "9" 11), .str (repS "1" 13)]
theorem spoilt_of (hl : x.length ≤ L) (h14 : 14 ≤ L) (hz : L ≤ 400) (q : ∀ y : Str, y.length ≤ 2 * L + 20 → Q (.str y)) : F__law_spoilt [.box, .dt (.str x)] Q := by
  have sw := split_weight x " " (by decide +kernel)
  have sp := split_pos x " "
  have pl : ∀ w ∈ Txt.split x " ", w.length ≤ L := fun w hw => Nat.le_trans (part_short hw) hl
  unfold F__law_spoilt
  refine ⟨rfl, ⟨by decide +kernel, by omega⟩, ?_⟩
  show f__law_spoilt_11 [.box, .dt (.str x), .dt (.str sgn82), .dt (.list ((Txt.split x " ").map PyData.str)), .no, .no, .no, .no, .no] (en82 Q)
  have hw : wl (Txt.split x " ") ≤ L + 1 := by unfold wl; omega
  generalize Txt.split x " " = ws at sp pl hw
  have lw : ws.length ≤ L + 1 := by unfold wl at hw; omega
  unfold f__law_spoilt_11
  refine take_of (by decide) (by decide) fun way w0 w1 => ?_
  refine (show x.length ≤ 1000000 ∧ _ from ⟨by omega, ?_⟩)
  refine take_of (n := ((x.length : Nat) : Int) + 1) (by omega) (by omega) fun a a0 a1 => ?_
  refine (show F_take [.box, .dt (.int (((ws.map PyData.str).length : Nat) : Int))] _ from take_of (by rw [List.length_map]; omega) (by rw [List.length_map]; omega) fun s s0 s1 => ?_)
  obtain ⟨a, rfl⟩ : ∃ j : Nat, a = (j : Nat) := ⟨a.toNat, by omega⟩
  obtain ⟨s, rfl⟩ : ∃ j : Nat, s = (j : Nat) := ⟨s.toNat, by omega⟩
  show f__law_spoilt_10 [.box, .dt (.str x), .dt (.str sgn82), .dt (.list (ws.map PyData.str)), .dt (.int way), .dt (.int (a : Nat)), .dt (.int (s : Nat)), .no, .no] (en82 Q)
  unfold f__law_spoilt_10
  refine (show (2 ≤ (14 : Int) ∧ (14 : Int) ≤ 1000 ∧ 0 < ("9" : Str).length ∧ ("9" : Str).length ≤ 1000 ∧ (repS "9" 14).length ≤ sizeLine) ∧ _ from ⟨⟨by decide, by decide, by decide +kernel, by decide +kernel, by rw [sizeLine_eq]; decide +kernel⟩, ?_⟩)
  obtain ⟨w0, rest, ew⟩ : ∃ w0 rest, ws = w0 :: rest := by
    cases ws with
    | nil => exact absurd sp (by decide)
    | cons w0 rest => exact ⟨_, _, rfl⟩
  have hw0 : w0.length ≤ L := pl w0 (by rw [ew]; exact List.mem_cons_self)
  have at0 : L2.atI (ws.map PyData.str) ((0 : Nat) : Int) = some (.str w0) := L2.atI_nat (by rw [ew]; rfl)
  show atQ (L2.atI (ws.map PyData.str) ((0 : Nat) : Int)) _
  rw [at0]
  show f__law_spoilt_9 [.box, .dt (.str x), .dt (.str sgn82), .dt (.list (ws.map PyData.str)), .dt (.int way), .dt (.int (a : Nat)), .dt (.int (s : Nat)), .dt (.list (w14 w0)), .no] (en82 Q)
  unfold f__law_spoilt_9
  have m1 : MS "9" 10 := ⟨by decide, by decide, by decide +kernel, by decide +kernel, by rw [sizeLine_eq]; decide +kernel⟩
  have m2 : MS "9" 11 := ⟨by decide, by decide, by decide +kernel, by decide +kernel, by rw [sizeLine_eq]; decide +kernel⟩
  have m3 : MS "1" 13 := ⟨by decide, by decide, by decide +kernel, by decide +kernel, by rw [sizeLine_eq]; decide +kernel⟩
  refine (show MS "9" 10 ∧ MS "9" 11 ∧ MS "9" 10 ∧ ("1/" : Str).length + (repS "9" 10).length ≤ 1000000 ∧ MS "9" 11 ∧ ("1/" : Str).length + (repS "9" 11).length ≤ 1000000 ∧ MS "1" 13 ∧ _ from ⟨m1, m2, m1, by decide +kernel, m2, by decide +kernel, m3, by show 14 + 5 ≤ 1000000; decide, ?_⟩)
  show f__law_spoilt_8 [.box, .dt (.str x), .dt (.str sgn82), .dt (.list (ws.map PyData.str)), .dt (.int way), .dt (.int (a : Nat)), .dt (.int (s : Nat)), .dt (.list (w14 w0 ++ w5)), .no] (en82 Q)
  unfold f__law_spoilt_8
  refine pick_of (by show 0 < 19; decide) (by show 19 < 1000; decide) fun d hd => ?_
  have hd : ∃ wd : Str, d = .str wd ∧ wd.length ≤ L := by
    have k : ∀ y : Str, y.length ≤ 14 → y.length ≤ L := fun y h => Nat.le_trans h h14
    simp only [w14, w5, List.cons_append, List.nil_append, List.mem_cons, List.not_mem_nil, or_false] at hd
    rcases hd with rfl | rfl | rfl | rfl | rfl | rfl | rfl | rfl | rfl | rfl | rfl | rfl | rfl | rfl | rfl | rfl | rfl | rfl | rfl
    all_goals first | exact ⟨_, rfl, hw0⟩ | exact ⟨_, rfl, k _ (by decide +kernel)⟩
  obtain ⟨wd, rfl, hwd⟩ := hd
  exact sp7_of hl hw hwd hz q
end
end Kc
namespace Kc
open PySem PySem.Spec PyProof.Rows L2 Xg Dv Kd PySem.NumText PySem.W.KIN
theorem split_join {c : Nat} {sep : List Nat} {ys : List Str} (hk : (c :: sep).all (· < 256) = true) (ne : ys ≠ []) (h : ∀ y ∈ ys, c ∉ y.cps.toList) : Txt.split (Txt.join (SX.S (c :: sep)) ys) (SX.S (c :: sep)) = ys := by
  have e1 : (ys.map fun y => y.cps.toList).map SX.S = ys := by
    rw [List.map_map]
    have : (SX.S ∘ fun y : Str => y.cps.toList) = id := by funext y; exact SX.S_tl y
    rw [this, List.map_id]
  have e2 := SX.join_S (c :: sep) (ys.map fun y => y.cps.toList)
  rw [e1] at e2
  rw [e2, SX.split_S (by simp) hk, SX.spl_join (by simpa using ne) (fun p hp => by
    obtain ⟨y, hy, rfl⟩ := List.mem_map.mp hp
    exact h y hy), e1]
theorem split_blank {ys : List Str} (ne : ys ≠ []) (h : ∀ y ∈ ys, 32 ∉ y.cps.toList) : Txt.split (Txt.join " " ys) " " = ys := by
  have e : (" " : Str) = SX.S (32 :: []) := by decide +kernel
  rw [e]
  exact split_join (by decide) ne h
theorem split_slash {a b : Str} (ha : 47 ∉ a.cps.toList) (hb : 47 ∉ b.cps.toList) : Txt.split (a ++ Str.ofString "/" ++ b) "/" = [a, b] := by
  have e : ("/" : Str) = SX.S (47 :: []) := by decide +kernel
  have j : Txt.join "/" [a, b] = a ++ Str.ofString "/" ++ b := (PySem.StrLaws.glued_eq_join "/" [a, b]).trans rfl
  rw [← j, e]
  exact split_join (by decide) (by simp) fun y hy => by
    simp only [List.mem_cons, List.not_mem_nil, or_false] at hy
    rcases hy with rfl | rfl
    · exact ha
    · exact hb
theorem tens {m : Nat} (h : ¬ m < 10) : Nat.toDigits 10 m = Nat.toDigits 10 (m / 10) ++ Nat.toDigits 10 (m % 10) := by
  have t : Nat.toDigits 10 (m / 10) ++ Nat.toDigits 10 (m % 10) = Nat.toDigits 10 (10 * (m / 10) + m % 10) := Nat.toDigits_append_toDigits (by decide) (by omega) (Nat.mod_lt m (by decide))
  rw [Nat.div_add_mod] at t
  exact t.symm
theorem dig_len : ∀ (k m : Nat), m < 10 ^ (k + 1) → 1 ≤ (Nat.toDigits 10 m).length ∧ (Nat.toDigits 10 m).length ≤ k + 1
  | k, m, h => by
    by_cases c : m < 10
    · rw [Nat.toDigits_of_lt_base c]
      exact ⟨Nat.le_refl _, by show 1 ≤ k + 1; omega⟩
    · cases k with
      | zero => exact absurd h (by simpa using c)
      | succ k =>
        have ih := dig_len k (m / 10) (by rw [Nat.pow_succ] at h; omega)
        rw [tens c, Nat.toDigits_of_lt_base (Nat.mod_lt m (by decide)), List.length_append]
        show 1 ≤ _ + 1 ∧ _ + 1 ≤ _
        omega
theorem head_dig : ∀ m : Nat, 1 ≤ m → ∃ c cs, Nat.toDigits 10 m = c :: cs ∧ c.toNat ≠ 48 := fun m => by
  induction m using Nat.strongRecOn with
  | _ m ih =>
    intro h
    by_cases c : m < 10
    · rw [Nat.toDigits_of_lt_base c]
      refine ⟨_, _, rfl, ?_⟩
      have : ∀ d, d < 10 → 1 ≤ d → (Nat.digitChar d).toNat ≠ 48 := by decide
      exact this m c h
    · obtain ⟨d, ds, e, hd⟩ := ih (m / 10) (by omega) (by omega)
      rw [tens c, e]
      exact ⟨d, _, rfl, hd⟩
abbrev nS (m : Nat) : Str := Str.ofString (toString ((m : Nat) : Int))
theorem nS_dig {m : Nat} : ∀ c ∈ (nS m).cps.toList, 48 ≤ c ∧ c ≤ 57 := fun c hc => by
  rw [signs_num] at hc
  obtain ⟨ch, hch, e⟩ := List.mem_map.mp hc
  have r := digit_range (Nat.isDigit_of_mem_toDigits (by decide) (by decide) hch)
  rw [← e]
  exact r
theorem nS_len {m : Nat} (h : m < 10 ^ 10) : 1 ≤ (nS m).length ∧ (nS m).length ≤ 10 := by
  have e : (nS m).length = (Nat.toDigits 10 m).length := by
    have : (nS m).length = (nS m).cps.toList.length := rfl
    rw [this, signs_num, List.length_map]
  rw [e]
  exact dig_len 9 m h
theorem nS_val {m : Nat} : vN (nS m) = m := by
  unfold vN
  rw [signs_num]
  exact val_back m
theorem nS_num {m : Nat} (h : m < 10 ^ 10) : numB (nS m) = true := by
  have l := nS_len h
  have f : figB (nS m) = true := List.all_eq_true.mpr fun c hc => by
    have := nS_dig c hc
    unfold digB
    rw [decide_eq_true this.1, decide_eq_true this.2]
    rfl
  have hd : headB (nS m) = true := by
    unfold headB
    by_cases z : m = 0
    · subst z
      rw [decide_eq_true (show nS 0 = "0" by decide +kernel)]
      rfl
    · obtain ⟨c, cs, e, hc⟩ := head_dig m (by omega)
      rw [signs_num, e]
      show (decide (nS m = "0") || decide (c.toNat ≠ 48)) = true
      rw [decide_eq_true hc, Bool.or_true]
  unfold numB lenB
  rw [f, hd, decide_eq_true l.1, decide_eq_true l.2]
  rfl
theorem nS_tilde {m : Nat} : nS m ≠ "~" := fun e => by
  have z : (126 : Nat) ∈ (nS m).cps.toList := by
    rw [e]
    decide +kernel
  have := nS_dig _ z
  omega
def wtS (w : Option Int) : Str := match w with
  | none => "~"
  | some i => nS i.toNat
def binS (h r : Int) : Str := nS h.toNat ++ Str.ofString "/" ++ nS r.toNat
def Nw (w : Option Int) : Prop := ∀ i, w = some i → 0 ≤ i ∧ i < 10 ^ 10
theorem wtS_wid {w : Option Int} (h : Nw w) : widB (wtS w) = true ∧ widO (wtS w) = w := by
  cases w with
  | none => exact ⟨by decide +kernel, by decide +kernel⟩
  | some i =>
    obtain ⟨h0, h1⟩ := h i rfl
    show widB (nS i.toNat) = true ∧ widO (nS i.toNat) = some i
    unfold widB widO
    rw [nS_num (by omega), Bool.or_true, if_neg nS_tilde, nS_val]
    exact ⟨rfl, by rw [Int.toNat_of_nonneg h0]⟩
theorem binS_bin {h r : Int} (h0 : 0 ≤ h) (hr : h ≤ r) (r1 : 1 ≤ r) (r2 : r < 10 ^ 10) : binB (binS h r) = true ∧ binH (binS h r) = h ∧ binR (binS h r) = r := by
  have e : Txt.split (binS h r) "/" = [nS h.toNat, nS r.toNat] := split_slash (fun z => by have := nS_dig _ z; omega) (fun z => by have := nS_dig _ z; omega)
  unfold binB binH binR
  rw [e]
  show ((numB (nS h.toNat) && numB (nS r.toNat)) && (decide (1 ≤ vN (nS r.toNat)) && decide (vN (nS h.toNat) ≤ vN (nS r.toNat)))) = true ∧ ((vN (nS h.toNat) : Nat) : Int) = h ∧ ((vN (nS r.toNat) : Nat) : Int) = r
  rw [nS_num (by omega), nS_num (by omega), nS_val, nS_val, decide_eq_true (by omega), decide_eq_true (by omega)]
  exact ⟨rfl, by omega, by omega⟩
def rst : List (Option Int) → List Int → List Int → List Str
  | w :: ws, h :: hs, r :: rs => wtS w :: binS h r :: rst ws hs rs
  | ws, _, _ => ws.map wtS
def prs : List (Option Int) → List Int → List Int → List Str
  | w :: ws, h :: hs, r :: rs => wtS w :: binS h r :: prs ws hs rs
  | _, _, _ => []
structure Wo (ws : List (Option Int)) (hs rs : List Int) : Prop where
  w : ∀ w ∈ ws, Nw w
  h : ∀ (i : Nat) (x y : Int), hs[i]? = some x → rs[i]? = some y → 0 ≤ x ∧ x ≤ y ∧ 1 ≤ y ∧ y < 10 ^ 10
theorem Wo.tl {w : Option Int} {ws : List (Option Int)} {h r : Int} {hs rs : List Int} (o : Wo (w :: ws) (h :: hs) (r :: rs)) : Wo ws hs rs := ⟨fun x hx => o.w x (List.mem_cons_of_mem _ hx), fun i x y e g => o.h (i + 1) x y (by rw [List.getElem?_cons_succ]; exact e) (by rw [List.getElem?_cons_succ]; exact g)⟩
theorem rst_two : ∀ {ws : List (Option Int)} {hs rs : List Int}, Wo ws hs rs → hs.length = rs.length → hs.length ≤ ws.length → ws.length ≤ hs.length + 1 →
    ((every2 (rst ws hs rs)).map widO = ws ∧ (every2 ((rst ws hs rs).drop 1)).map binH = hs ∧ (every2 ((rst ws hs rs).drop 1)).map binR = rs) ∧ ∀ m, fb (2 * m + 1) (rst ws hs rs) = none
  | w :: ws, h :: hs, r :: rs, o, l1, l2, l3 => by
    obtain ⟨⟨a1, a2, a3⟩, a4⟩ := rst_two o.tl (by simpa using l1) (by simpa using l2) (by simpa using l3)
    obtain ⟨w1, w2⟩ := wtS_wid (o.w w List.mem_cons_self)
    obtain ⟨g0, g1, g2, g3⟩ := o.h 0 h r rfl rfl
    obtain ⟨b1, b2, b3⟩ := binS_bin g0 g1 g2 g3
    refine ⟨⟨?_, ?_, ?_⟩, fun m => ?_⟩
    · show widO (wtS w) :: (every2 (rst ws hs rs)).map widO = _
      rw [w2, a1]
    · show (every2 (binS h r :: rst ws hs rs)).map binH = _
      rw [every2_two, List.map_cons, b2, a2]
    · show (every2 (binS h r :: rst ws hs rs)).map binR = _
      rw [every2_two, List.map_cons, b3, a3]
    · show fb (2 * m + 1) (wtS w :: binS h r :: rst ws hs rs) = none
      unfold fb
      rw [csOdd, w1, if_pos rfl]
      unfold fb
      rw [csEven, b1, if_pos rfl]
      exact a4 (m + 1)
  | [], [], [], o, _, _, _ => ⟨⟨rfl, rfl, rfl⟩, fun m => rfl⟩
  | [w], [], [], o, _, _, _ => by
    obtain ⟨w1, w2⟩ := wtS_wid (o.w w List.mem_cons_self)
    refine ⟨⟨?_, rfl, rfl⟩, fun m => ?_⟩
    · show [widO (wtS w)] = [w]
      rw [w2]
    · show fb (2 * m + 1) [wtS w] = none
      unfold fb
      rw [csOdd, w1, if_pos rfl]
      rfl
  | _ :: _ :: _, [], [], _, _, _, l3 => by
    rw [List.length_cons, List.length_cons] at l3
    have l3 : _ + 1 + 1 ≤ 0 + 1 := l3
    omega
  | [], _ :: _, _, _, _, l2, _ => by
    rw [List.length_cons] at l2
    have l2 : _ + 1 ≤ 0 := l2
    omega
  | _, [], _ :: _, _, l1, _, _ => by
    rw [List.length_cons] at l1
    have l1 : 0 = _ + 1 := l1
    omega
  | _, _ :: _, [], _, l1, _, _ => by
    rw [List.length_cons] at l1
    have l1 : _ + 1 = 0 := l1
    omega
theorem rst_len : ∀ {ws : List (Option Int)} {hs rs : List Int}, hs.length = rs.length → hs.length ≤ ws.length → (rst ws hs rs).length = ws.length + hs.length
  | w :: ws, h :: hs, r :: rs, l1, l2 => by
    show (rst ws hs rs).length + 1 + 1 = ws.length + 1 + (hs.length + 1)
    rw [rst_len (by simpa using l1) (by simpa using l2)]
    omega
  | ws, [], [], _, _ => by
    have e : rst ws [] [] = ws.map wtS := by cases ws <;> rfl
    rw [e, List.length_map]
    rfl
  | [], _ :: _, _, _, l2 => by
    rw [List.length_cons] at l2
    have l2 : _ + 1 ≤ 0 := l2
    omega
  | _, [], _ :: _, l1, _ => by
    rw [List.length_cons] at l1
    have l1 : 0 = _ + 1 := l1
    omega
  | _, _ :: _, [], l1, _ => by
    rw [List.length_cons] at l1
    have l1 : _ + 1 = 0 := l1
    omega
end Kc
namespace Kc
open PySem PySem.Spec PyProof.Rows L2 Xg Dv Kd PySem.NumText
theorem blank1 : (Str.ofString "/").length = 1 := by decide +kernel
theorem log_i {i : Int} (h0 : 0 ≤ i) (h : i < 10 ^ 10) : i.natAbs.log2 < 1920 := by
  by_cases z : i.natAbs = 0
  · rw [z]
    decide
  · exact Nat.lt_trans ((Nat.log2_lt (k := 60) z).mpr (by omega)) (by decide)
theorem str_i {i : Int} (h0 : 0 ≤ i) : Str.ofString (toString i) = nS i.toNat := by
  show _ = Str.ofString (toString ((i.toNat : Nat) : Int))
  rw [Int.toNat_of_nonneg h0]
theorem last_i {xs : List PyData} {x : PyData} : L2.atI (xs ++ [x]) (-1) = some x := by
  unfold L2.atI L2.ixN
  rw [if_neg (by decide), if_pos (by rw [List.length_append]; show -((xs.length + 1 : Nat) : Int) ≤ -1; omega)]
  show (xs ++ [x])[((-1 : Int) + ((xs ++ [x]).length : Nat)).toNat]? = some x
  rw [show ((-1 : Int) + ((xs ++ [x]).length : Nat)).toNat = xs.length by rw [List.length_append]; show ((-1 : Int) + ((xs.length + 1 : Nat) : Int)).toNat = _; omega]
  rw [List.getElem?_append_right (Nat.le_refl _), Nat.sub_self]
  rfl
theorem empty_cat (x : Str) : Str.empty ++ x = x := by
  apply Str.ext'
  show #[] ++ x.cps = x.cps
  simp
theorem wt_len {w : Option Int} (h : Nw w) : (wtS w).length ≤ 10 := by
  cases w with
  | none => decide +kernel
  | some i => exact (nS_len (by have := h i rfl; omega)).2
theorem bn_len {h r : Int} (h0 : 0 ≤ h) (hr : h ≤ r) (r2 : r < 10 ^ 10) : (binS h r).length ≤ 21 := by
  unfold binS
  have a := (nS_len (m := h.toNat) (by omega)).2
  have b := (nS_len (m := r.toNat) (by omega)).2
  have c := blank1
  rw [cat_len, cat_len, c]
  omega
section
variable {Q : PyData → Prop} {E : DEnds}
theorem widthText_of {w : Option Int} (h : Nw w) (q : Q (.str (wtS w))) : F_width_text [.dt (oI w)] Q := by
  unfold F_width_text
  refine ⟨rfl, ?_⟩
  cases w with
  | none => exact q
  | some i =>
    obtain ⟨h0, h1⟩ := h i rfl
    refine (show i.natAbs.log2 < 1920 ∧ Q (.str (Str.ofString (toString i))) from ⟨log_i h0 h1, ?_⟩)
    rw [str_i h0]
    exact q
abbrev tg3 : FG := (gT (gsCons (gN 6) (gsCons (gN 7) (gsCons (gN 8) gsNil))))
abbrev ltB : FS := (sExt 5 (eLst (dCons (eCall F_width_text (aCons (eVar 6) aNil)) (dCons (eJs (jCons (eFmt (eVar 7)) (jCons (eC (.str "/")) (jCons (eFmt (eVar 8)) jNil)))) dNil))))
theorem lt_loop {d0 d1 d2 d3 d4 : Sl} : ∀ (ws : List (Option Int)) (hs rs : List Int) (acc : List Str) (s6 s7 s8 : Sl), Wo ws hs rs → acc.length + 2 * hs.length ≤ 1000 →
    (∀ s6 s7 s8, E.nx [d0, d1, d2, d3, d4, .own ((acc ++ prs ws hs rs).map PyData.str), s6, s7, s8]) → forD tg3 ltB (zipD3 (ws.map oI) (hs.map PyData.int) (rs.map PyData.int)) [d0, d1, d2, d3, d4, .own (acc.map PyData.str), s6, s7, s8] E
  | w :: ws, h :: hs, r :: rs, acc, s6, s7, s8, o, hl, q => by
    rw [List.length_cons] at hl
    obtain ⟨g0, g1, g2, g3⟩ := o.h 0 h r rfl rfl
    have c1 := blank1
    have la := (nS_len (m := h.toNat) (by omega)).2
    have lb := (nS_len (m := r.toNat) (by omega)).2
    refine (show F_width_text [.dt (oI w)] _ from widthText_of (o.w w List.mem_cons_self) ?_)
    refine (show h.natAbs.log2 < 1920 ∧ (Str.empty ++ Str.ofString (toString h)).length ≤ 1000000 ∧ (Str.empty ++ Str.ofString (toString h) ++ Str.ofString "/").length ≤ 1000000 ∧ r.natAbs.log2 < 1920 ∧ (Str.empty ++ Str.ofString (toString h) ++ Str.ofString "/" ++ Str.ofString (toString r)).length ≤ 1000000 ∧ _ from ⟨log_i g0 (by omega), ?_, ?_, log_i (by omega) g3, ?_, ?_⟩)
    · rw [str_i g0, empty_cat]; omega
    · rw [str_i g0, empty_cat, cat_len]; omega
    · rw [str_i g0, str_i (by omega), empty_cat, cat_len, cat_len]; omega
    · rw [str_i g0, str_i (by omega), empty_cat]
      refine ⟨by rw [List.length_map]; show acc.length + 2 ≤ 1000000; omega, ?_⟩
      have ih := lt_loop ws hs rs (acc ++ [wtS w, binS h r]) (.dt (oI w)) (.dt (.int h)) (.dt (.int r)) o.tl (by rw [List.length_append]; show acc.length + 2 + _ ≤ _; omega) fun s6 s7 s8 => by
        have z := q s6 s7 s8
        rw [List.append_assoc]
        exact z
      rw [List.map_append] at ih
      exact ih
  | [], hs, rs, acc, s6, s7, s8, o, hl, q => by
    have z := q s6 s7 s8
    rw [show prs [] hs rs = [] from rfl, List.append_nil] at z
    exact z
  | w :: ws, [], rs, acc, s6, s7, s8, o, hl, q => by
    have z := q s6 s7 s8
    rw [show prs (w :: ws) [] rs = [] from rfl, List.append_nil] at z
    exact z
  | w :: ws, h :: hs, [], acc, s6, s7, s8, o, hl, q => by
    have z := q s6 s7 s8
    rw [show prs (w :: ws) (h :: hs) [] = [] from rfl, List.append_nil] at z
    exact z
theorem prs_len : ∀ (ws : List (Option Int)) (hs rs : List Int), (prs ws hs rs).length ≤ 2 * hs.length
  | w :: ws, h :: hs, r :: rs => by
    have := prs_len ws hs rs
    show (prs ws hs rs).length + 1 + 1 ≤ 2 * (hs.length + 1)
    omega
  | [], _, _ => Nat.zero_le _
  | _ :: _, [], _ => Nat.zero_le _
  | _ :: _, _ :: _, [] => Nat.zero_le _
theorem prs_row {l : Option Int} : ∀ {wz : List (Option Int)} {hs rs : List Int}, wz.length = hs.length → hs.length = rs.length → prs (wz ++ [l]) hs rs ++ [wtS l] = rst (wz ++ [l]) hs rs
  | w :: wz, h :: hs, r :: rs, e1, e2 => by
    show wtS w :: binS h r :: (prs (wz ++ [l]) hs rs ++ [wtS l]) = wtS w :: binS h r :: rst (wz ++ [l]) hs rs
    rw [prs_row (by simpa using e1) (by simpa using e2)]
  | [], [], [], _, _ => rfl
  | [], _ :: _, _, e, _ => by cases e
  | _ :: _, [], _, e, _ => by cases e
  | _, [], _ :: _, _, e => by cases e
  | _, _ :: _, [], _, e => by cases e
theorem prs_ring : ∀ {ws : List (Option Int)} {hs rs : List Int}, ws.length = hs.length → hs.length = rs.length → prs ws hs rs = rst ws hs rs
  | w :: ws, h :: hs, r :: rs, e1, e2 => by
    show wtS w :: binS h r :: prs ws hs rs = wtS w :: binS h r :: rst ws hs rs
    rw [prs_ring (by simpa using e1) (by simpa using e2)]
  | [], [], [], _, _ => rfl
  | [], _ :: _, _, e, _ => by cases e
  | _ :: _, [], _, e, _ => by cases e
  | _, [], _ :: _, _, e => by cases e
  | _, _ :: _, [], _, e => by cases e
theorem rst_sum : ∀ {ws : List (Option Int)} {hs rs : List Int}, Wo ws hs rs → ((rst ws hs rs).map (·.length)).sum ≤ 10 * ws.length + 21 * hs.length
  | w :: ws, h :: hs, r :: rs, o => by
    have ih := rst_sum o.tl
    have a := wt_len (o.w w List.mem_cons_self)
    obtain ⟨g0, g1, g2, g3⟩ := o.h 0 h r rfl rfl
    have b := bn_len g0 g1 g3
    show (wtS w).length + ((binS h r).length + ((rst ws hs rs).map (·.length)).sum) ≤ 10 * (ws.length + 1) + 21 * (hs.length + 1)
    omega
  | [], hs, rs, o => by
    have e : rst [] hs rs = [] := rfl
    rw [e]
    exact Nat.zero_le _
  | w :: ws, [], rs, o => by
    have e : rst (w :: ws) [] rs = (w :: ws).map wtS := rfl
    rw [e]
    have := sum10 (w :: ws) o.w
    omega
  | w :: ws, h :: hs, [], o => by
    have e : rst (w :: ws) (h :: hs) [] = (w :: ws).map wtS := rfl
    rw [e]
    have := sum10 (w :: ws) o.w
    omega
where
  sum10 : ∀ (ws : List (Option Int)), (∀ w ∈ ws, Nw w) → ((ws.map wtS).map (·.length)).sum ≤ 10 * ws.length
    | [], _ => Nat.le_refl _
    | w :: ws, h => by
      have ih := sum10 ws fun x hx => h x (List.mem_cons_of_mem _ hx)
      have a := wt_len (h w List.mem_cons_self)
      show (wtS w).length + ((ws.map wtS).map (·.length)).sum ≤ 10 * (ws.length + 1)
      omega
end
end Kc
namespace Kc
open PySem PySem.Spec PyProof.Rows L2 Xg Dv Kd PySem.NumText
def lnWs (row : Bool) (rooms : List Int) (ws : List (Option Int)) (hs : List Int) : List Str := fm row :: rst ws hs rooms
def dueL (row : Bool) (rooms : List Int) (ws : List (Option Int)) (hs : List Int) : Str := Txt.join " " (lnWs row rooms ws hs)
structure Dn (row : Bool) (rooms : List Int) (ws : List (Option Int)) (hs : List Int) : Prop where
  o : Wo ws hs rooms
  l1 : hs.length = rooms.length
  lw : ws.length = gts row rooms.length
  n0 : 0 < rooms.length
  n2 : row = false → 2 ≤ rooms.length
  nz : rooms.length ≤ 4
theorem Dn.lb {row : Bool} {rooms hs : List Int} {ws : List (Option Int)} (D : Dn row rooms ws hs) : hs.length ≤ ws.length ∧ ws.length ≤ hs.length + 1 ∧ ws.length ≤ 5 := by
  have := D.lw
  have := D.l1
  have := D.nz
  unfold gts at *
  split at * <;> omega
theorem words_len {row : Bool} {rooms hs : List Int} {ws : List (Option Int)} (D : Dn row rooms ws hs) : ∃ L, ((lnWs row rooms ws hs).map (·.length)).sum + (lnWs row rooms ws hs).length * (" " : Str).length ≤ L ∧ L ≤ 148 := by
  have e : (" " : Str).length = 1 := by decide +kernel
  have s := rst_sum D.o
  obtain ⟨b1, b2, b3⟩ := D.lb
  have l := rst_len D.l1 b1
  have f : (fm row).length ≤ 4 := by cases row <;> decide +kernel
  have := D.l1
  have := D.nz
  refine ⟨148, ?_, Nat.le_refl _⟩
  rw [e]
  show (fm row).length + ((rst ws hs rooms).map (·.length)).sum + ((rst ws hs rooms).length + 1) * 1 ≤ 148
  omega
theorem joinW_of {words : List Str} {Q : PyData → Prop} (h : ∃ L, (words.map (·.length)).sum + words.length * (" " : Str).length ≤ L ∧ L ≤ 148) (q : Q (.str (Txt.join " " words))) : strsQ (fun ys => (ys.map (·.length)).sum + ys.length * (" " : Str).length ≤ 16777216 ∧ Q (.str (Txt.join " " ys))) (.list (words.map PyData.str)) := by
  obtain ⟨L, h1, h2⟩ := h
  refine ⟨words, rfl, ?_, q⟩
  exact Nat.le_trans h1 (by omega)
theorem due_len {row : Bool} {rooms hs : List Int} {ws : List (Option Int)} (D : Dn row rooms ws hs) : (dueL row rooms ws hs).length ≤ 148 := by
  obtain ⟨L, h1, h2⟩ := words_len D
  exact Nat.le_trans (Nat.le_trans (join_le _) h1) h2
theorem Dn.end_ {rooms hs : List Int} {ws : List (Option Int)} (D : Dn true rooms ws hs) : ∃ wz l, ws = wz ++ [l] ∧ wz.length = hs.length := by
  have lw := D.lw
  have l1 := D.l1
  unfold gts at lw
  rw [if_pos rfl] at lw
  have ne : ws ≠ [] := fun e => by rw [e] at lw; have lw : 0 = rooms.length + 1 := lw; omega
  refine ⟨ws.dropLast, ws.getLast ne, (List.dropLast_concat_getLast ne).symm, ?_⟩
  rw [List.length_dropLast, lw, l1]
  omega
section
variable {Q : PyData → Prop} {row k : Bool} {rooms hs : List Int} {ws : List (Option Int)} {x : Str}
theorem lineText_of (D : Dn row rooms ws hs) (q : Q (.str (dueL row rooms ws hs))) : F_line_text [.dt (ln k row rooms), .dt (sqd k (ws.map oI)), .dt (iq k hs)] Q := by
  have l1 := D.l1
  have nz := D.nz
  have wl := words_len D
  have pl := prs_len ws hs rooms
  have after : ∀ (d0 d1 d2 d4 s6 s7 s8 : Sl) (E : DEnds), d1 = .dt (sqd k (ws.map oI)) → E.rt = Q →
      (sSeq (sIf (fTest (eBin gEq (eVar 3) (eC (.str "row")))) (sApp 5 (eCall F_width_text (aCons (eBin gIx (eVar 1) (eUn negD (eC (.int 1)))) aNil))) sSkip) (sRet (eJoin (eC (.str " ")) (eVarV 5)))) [d0, d1, d2, .dt (.str (fm row)), d4, .own (([fm row] ++ prs ws hs rooms).map PyData.str), s6, s7, s8] E := fun d0 d1 d2 d4 s6 s7 s8 E ed eq => by
    subst ed
    show if decide (fm row = "row") = true then _ else _
    rw [fm_row]
    cases row with
    | false =>
      have e : prs ws hs rooms = rst ws hs rooms := prs_ring (by rw [D.lw, l1]; rfl) l1
      rw [e, if_neg (by decide)]
      refine joinW_of wl ?_
      rw [eq]
      exact q
    | true =>
      rw [if_pos rfl]
      obtain ⟨wz, l, ew, lz⟩ := D.end_
      have e : prs ws hs rooms ++ [wtS l] = rst ws hs rooms := by rw [ew]; exact prs_row lz l1
      have al : ∀ P : PyData → Prop, P (oI l) → gIx (sqd k (ws.map oI)) (.int (-1)) P := fun P p => by
        have z : L2.atI (ws.map oI) (-1) = some (oI l) := by rw [ew, List.map_append]; exact last_i
        cases k
        · show atQ (L2.atI (ws.map oI) (-1)) P
          rw [z]
          exact p
        · show atQ (L2.atI (ws.map oI) (-1)) P
          rw [z]
          exact p
      refine al _ ?_
      refine (show F_width_text [.dt (oI l)] _ from widthText_of (D.o.w l (by rw [ew]; simp)) ?_)
      refine ⟨by rw [List.length_map, List.length_append]; show 1 + _ < _; omega, ?_⟩
      have e2 : ([fm true] ++ prs ws hs rooms).map PyData.str ++ [.str (wtS l)] = (lnWs true rooms ws hs).map PyData.str := by
        unfold lnWs
        rw [← e]
        simp
      show strsQ _ (.list (([fm true] ++ prs ws hs rooms).map PyData.str ++ [.str (wtS l)]))
      rw [e2]
      refine joinW_of wl ?_
      rw [eq]
      exact q
  unfold F_line_text
  refine ⟨rfl, ?_⟩
  have zl : (zipD3 (ws.map oI) (hs.map PyData.int) (rooms.map PyData.int)).length ≤ 1000000 := by
    rw [zipD3_len, List.length_map, List.length_map, List.length_map]
    omega
  cases k with
  | true => exact (show (zipD3 (ws.map oI) (hs.map PyData.int) (rooms.map PyData.int)).length ≤ 1000000 ∧ forD tg3 ltB (zipD3 (ws.map oI) (hs.map PyData.int) (rooms.map PyData.int)) [.dt (ln true row rooms), .dt (sqd true (ws.map oI)), .dt (iq true hs), .dt (.str (fm row)), .dt (iq true rooms), .own ([fm row].map PyData.str), .no, .no, .no] _ from ⟨zl, lt_loop ws hs rooms [fm row] _ _ _ D.o (by show 1 + _ ≤ _; omega) fun s6 s7 s8 => after _ _ _ _ s6 s7 s8 _ rfl rfl⟩)
  | false => exact (show (zipD3 (ws.map oI) (hs.map PyData.int) (rooms.map PyData.int)).length ≤ 1000000 ∧ forD tg3 ltB (zipD3 (ws.map oI) (hs.map PyData.int) (rooms.map PyData.int)) [.dt (ln false row rooms), .dt (sqd false (ws.map oI)), .dt (iq false hs), .dt (.str (fm row)), .dt (iq false rooms), .own ([fm row].map PyData.str), .no, .no, .no] _ from ⟨zl, lt_loop ws hs rooms [fm row] _ _ _ D.o (by show 1 + _ ≤ _; omega) fun s6 s7 s8 => after _ _ _ _ s6 s7 s8 _ rfl rfl⟩)
end
end Kc
namespace Kc
open PySem PySem.Spec PyProof.Rows L2 Xg Dv Kd PySem.NumText
section
variable {Q : PyData → Prop} {E : DEnds} {row : Bool} {rooms hs : List Int} {ws : List (Option Int)} {x : Str}
abbrev tg2 : FG := (gT (gsCons (gN 4) (gsCons (gN 5) gsNil)))
abbrev lwB : FS := (sExt 3 (eLst (dCons (eIf (fTest (eBin gIs (eBin gIx (eVar 1) (eVar 4)) (eC .none))) (eC (.str "~")) (eStrI (eBin gIx (eVar 1) (eVar 4)))) (dCons (eBin gAddS (eBin gAddS (eStrI (eVar 5)) (eC (.str "/"))) (eStrI (eBin gIx (eBin gIx (eVar 0) (eC (.int 1))) (eVar 4)))) dNil))))
theorem drop_at {α : Type} {xs : List α} {k : Nat} {x : α} {r : List α} (h : xs.drop k = x :: r) : xs[k]? = some x ∧ xs.drop (k + 1) = r := by
  have e : (xs.drop k)[0]? = some x := by rw [h]; rfl
  rw [List.getElem?_drop] at e
  refine ⟨e, ?_⟩
  rw [← List.drop_drop, h]
  rfl
theorem lw_loop {d2 : Sl} {ws0 : List (Option Int)} {rooms0 : List Int} : ∀ (hs : List Int) (k : Nat) (ws : List (Option Int)) (rs : List Int) (acc : List Str) (s4 s5 : Sl), ws0.drop k = ws → rooms0.drop k = rs → Wo ws hs rs → hs.length ≤ ws.length → hs.length = rs.length → acc.length + 2 * hs.length ≤ 1000 →
    (∀ s4 s5, E.nx [.dt (ln true row rooms0), .dt (sqd true (ws0.map oI)), d2, .own ((acc ++ prs ws hs rs).map PyData.str), s4, s5]) →
    forD tg2 lwB (enumD k (hs.map PyData.int)) [.dt (ln true row rooms0), .dt (sqd true (ws0.map oI)), d2, .own (acc.map PyData.str), s4, s5] E
  | [], k, ws, rs, acc, s4, s5, _, _, _, _, _, _, q => by
    have z := q s4 s5
    have e : prs ws [] rs = [] := by cases ws <;> rfl
    rw [e, List.append_nil] at z
    exact z
  | h :: hs, k, [], rs, acc, s4, s5, _, _, _, l, _, _, _ => by
    rw [List.length_cons] at l
    have l : _ + 1 ≤ 0 := l
    omega
  | h :: hs, k, _ :: _, [], acc, s4, s5, _, _, _, _, l, _, _ => by cases l
  | h :: hs, k, w :: ws, r :: rs, acc, s4, s5, ew, er, o, l1, l2, hl, q => by
    rw [List.length_cons] at hl
    obtain ⟨g0, g1, g2, g3⟩ := o.h 0 h r rfl rfl
    obtain ⟨aw, ew'⟩ := drop_at ew
    obtain ⟨ar, er'⟩ := drop_at er
    have c1 := blank1
    have la := (nS_len (m := h.toNat) (by omega)).2
    have lb := (nS_len (m := r.toNat) (by omega)).2
    have aw : L2.atI (ws0.map oI) ((k : Nat) : Int) = some (oI w) := L2.atI_nat (by rw [List.getElem?_map, aw]; rfl)
    have ar : L2.atI (rooms0.map PyData.int) ((k : Nat) : Int) = some (.int r) := L2.atI_nat (by rw [List.getElem?_map, ar]; rfl)
    have wt : ∀ P : PyData → Prop, P (.str (wtS w)) → (eIf (fTest (eBin gIs (eBin gIx (eVar 1) (eVar 4)) (eC .none))) (eC (.str "~")) (eStrI (eBin gIx (eVar 1) (eVar 4)))) [.dt (ln true row rooms0), .dt (sqd true (ws0.map oI)), d2, .own (acc.map PyData.str), .dt (.int ((k : Nat) : Int)), .dt (.int h)] P := fun P p => by
      show atQ (L2.atI (ws0.map oI) ((k : Nat) : Int)) _
      rw [aw]
      cases w with
      | none => exact p
      | some i =>
        obtain ⟨h0, h1⟩ := o.w (some i) List.mem_cons_self i rfl
        show atQ (L2.atI (ws0.map oI) ((k : Nat) : Int)) _
        rw [aw]
        refine (show i.natAbs.log2 < 1920 ∧ P (.str (Str.ofString (toString i))) from ⟨log_i h0 h1, ?_⟩)
        rw [str_i h0]
        exact p
    refine wt _ ?_
    refine (show h.natAbs.log2 < 1920 ∧ (Str.ofString (toString h)).length + (Str.ofString "/").length ≤ 1000000 ∧ _ from ⟨log_i g0 (by omega), by rw [str_i g0]; omega, ?_⟩)
    show atQ (L2.atI (rooms0.map PyData.int) ((k : Nat) : Int)) _
    rw [ar]
    refine (show r.natAbs.log2 < 1920 ∧ (Str.ofString (toString h) ++ Str.ofString "/").length + (Str.ofString (toString r)).length ≤ 1000000 ∧ _ from ⟨log_i (by omega) g3, by rw [str_i g0, str_i (by omega), cat_len]; omega, ?_⟩)
    rw [str_i g0, str_i (by omega)]
    refine ⟨by rw [List.length_map]; show acc.length + 2 ≤ 1000000; omega, ?_⟩
    have ih := lw_loop hs (k + 1) ws rs (acc ++ [wtS w, binS h r]) (.dt (.int ((k : Nat) : Int))) (.dt (.int h)) ew' er' o.tl (by simpa using l1) (by simpa using l2) (by rw [List.length_append]; show acc.length + 2 + _ ≤ _; omega) fun s4 s5 => by
      have z := q s4 s5
      rw [List.append_assoc]
      exact z
    rw [List.map_append] at ih
    exact ih
theorem lawText_of (D : Dn row rooms ws hs) (q : Q (.str (dueL row rooms ws hs))) : F__law_text [.dt (ln true row rooms), .dt (sqd true (ws.map oI)), .dt (iq true hs)] Q := by
  have l1 := D.l1
  have nz := D.nz
  obtain ⟨b1, b2, b3⟩ := D.lb
  have wl := words_len D
  have pl := prs_len ws hs rooms
  unfold F__law_text
  refine ⟨rfl, ?_⟩
  show f__law_text_2 [.dt (ln true row rooms), .dt (sqd true (ws.map oI)), .dt (iq true hs), .own ([fm row].map PyData.str), .no, .no] _
  unfold f__law_text_2
  refine (show (enumD 0 (hs.map PyData.int)).length ≤ 1000000 ∧ _ from ⟨by rw [enumD_len, List.length_map]; omega, ?_⟩)
  refine lw_loop hs 0 ws rooms [fm row] _ _ rfl rfl D.o b1 l1 (by show 1 + _ ≤ _; omega) fun s4 s5 => ?_
  show f__law_text_1 [.dt (ln true row rooms), .dt (sqd true (ws.map oI)), .dt (iq true hs), .own (([fm row] ++ prs ws hs rooms).map PyData.str), s4, s5] _
  unfold f__law_text_1
  show if decide (fm row = "row") = true then _ else _
  rw [fm_row]
  cases row with
  | false =>
    have e : prs ws hs rooms = rst ws hs rooms := prs_ring (by rw [D.lw, l1]; rfl) l1
    rw [e, if_neg (by decide)]
    show f__law_text_0 [.dt (ln true false rooms), .dt (sqd true (ws.map oI)), .dt (iq true hs), .own ((lnWs false rooms ws hs).map PyData.str), s4, s5] _
    unfold f__law_text_0
    exact joinW_of wl q
  | true =>
    rw [if_pos rfl]
    obtain ⟨wz, l, ew, lz⟩ := D.end_
    have e : prs ws hs rooms ++ [wtS l] = rst ws hs rooms := by rw [ew]; exact prs_row lz l1
    have z : L2.atI (ws.map oI) (-1) = some (oI l) := by rw [ew, List.map_append]; exact last_i
    have fin : ([PyData.str (fm true)] ++ (prs ws hs rooms).map PyData.str).length < 1000000 ∧ f__law_text_0 [.dt (ln true true rooms), .dt (sqd true (ws.map oI)), .dt (iq true hs), .own (([fm true] ++ prs ws hs rooms).map PyData.str ++ [.str (wtS l)]), s4, s5] { nx := fun _ => Q .none, rt := Q, rl := fun ds => Q (.list ds) } := by
      refine ⟨by rw [List.length_append, List.length_map]; show 1 + _ < _; omega, ?_⟩
      have e2 : ([fm true] ++ prs ws hs rooms).map PyData.str ++ [.str (wtS l)] = (lnWs true rooms ws hs).map PyData.str := by
        unfold lnWs
        rw [← e]
        simp
      rw [e2]
      unfold f__law_text_0
      exact joinW_of wl q
    show atQ (L2.atI (ws.map oI) (-1)) _
    rw [z]
    have nl := D.o.w l (by rw [ew]; simp)
    cases l with
    | none => exact fin
    | some i =>
      obtain ⟨h0, h1⟩ := nl i rfl
      show atQ (L2.atI (ws.map oI) (-1)) _
      rw [z]
      refine (show i.natAbs.log2 < 1920 ∧ _ from ⟨log_i h0 h1, ?_⟩)
      rw [str_i h0]
      exact fin
theorem fm_free : 32 ∉ (fm row).cps.toList := by cases row <;> decide +kernel
theorem rst_free : ∀ {ws : List (Option Int)} {hs rs : List Int}, ∀ y ∈ rst ws hs rs, 32 ∉ y.cps.toList
  | w :: ws, h :: hs, r :: rs => fun y hy => by
    have hy : y ∈ wtS w :: binS h r :: rst ws hs rs := hy
    rcases List.mem_cons.mp hy with rfl | hy
    · exact wfree w
    rcases List.mem_cons.mp hy with rfl | hy
    · exact bfree h r
    · exact rst_free y hy
  | [], hs, rs => fun y hy => by
    have e : rst [] hs rs = [] := rfl
    rw [e] at hy
    cases hy
  | w :: ws, [], rs => fun y hy => by
    have e : rst (w :: ws) [] rs = (w :: ws).map wtS := rfl
    rw [e] at hy
    obtain ⟨v, _, rfl⟩ := List.mem_map.mp hy
    exact wfree v
  | w :: ws, h :: hs, [] => fun y hy => by
    have e : rst (w :: ws) (h :: hs) [] = (w :: ws).map wtS := rfl
    rw [e] at hy
    obtain ⟨v, _, rfl⟩ := List.mem_map.mp hy
    exact wfree v
where
  wfree (w : Option Int) : 32 ∉ (wtS w).cps.toList := by
    cases w with
    | none => decide +kernel
    | some i => exact fun z => by have := nS_dig (m := i.toNat) _ z; omega
  bfree (h r : Int) : 32 ∉ (binS h r).cps.toList := fun z => by
    have e : (binS h r).cps.toList = (nS h.toNat).cps.toList ++ (Str.ofString "/").cps.toList ++ (nS r.toNat).cps.toList := by
      unfold binS
      rw [show ∀ a b : Str, (a ++ b).cps.toList = a.cps.toList ++ b.cps.toList from fun a b => Array.toList_append, show ∀ a b : Str, (a ++ b).cps.toList = a.cps.toList ++ b.cps.toList from fun a b => Array.toList_append]
    rw [e] at z
    rcases List.mem_append.mp z with z | z
    · rcases List.mem_append.mp z with z | z
      · have := nS_dig _ z; omega
      · exact absurd z (by decide +kernel)
    · have := nS_dig _ z; omega
theorem due_split : Txt.split (dueL row rooms ws hs) " " = fm row :: rst ws hs rooms := by
  unfold dueL lnWs
  refine split_blank (by simp) fun y hy => ?_
  rcases List.mem_cons.mp hy with rfl | hy
  · exact fm_free
  · exact rst_free y hy
theorem due_res (D : Dn row rooms ws hs) : resD (dueL row rooms ws hs) = .tuple [ln true row rooms, sqd true (ws.map oI), iq true hs] := by
  obtain ⟨b1, b2, b3⟩ := D.lb
  obtain ⟨⟨e1, e2, e3⟩, e4⟩ := rst_two D.o D.l1 b1 b2
  have l := rst_len D.l1 b1
  have lw := D.lw
  have l1 := D.l1
  have f0 : fb 0 (fm row :: rst ws hs rooms) = none := by
    unfold fb
    have c : csB 0 (fm row) = true := by cases row <;> decide +kernel
    rw [c, if_pos rfl]
    exact e4 0
  have wh : whB (fm row) ((rst ws hs rooms).length + 1) = true := by
    have n0 := D.n0
    have n2 := D.n2
    rw [l]
    unfold gts at lw
    unfold whB
    cases row with
    | true =>
      rw [if_pos rfl] at lw
      rw [if_pos (show fm true = "row" from rfl), decide_eq_true (by omega), decide_eq_true (by omega)]
      rfl
    | false =>
      have n2 := n2 rfl
      rw [if_neg (by decide)] at lw
      rw [if_neg (show ¬ fm false = "row" by decide +kernel), decide_eq_true (by omega), decide_eq_true (by omega)]
      rfl
  unfold resD
  rw [due_split]
  show (match fb 0 (fm row :: rst ws hs rooms) with
    | some j => PyData.int ((j : Nat) : Int)
    | none => if whB (fm row) ((rst ws hs rooms).length + 1) = true then lnD (fm row) (rst ws hs rooms) else .int (((rst ws hs rooms).length + 1 : Nat) : Int)) = _
  rw [f0]
  show (if whB (fm row) ((rst ws hs rooms).length + 1) = true then lnD (fm row) (rst ws hs rooms) else .int (((rst ws hs rooms).length + 1 : Nat) : Int)) = _
  rw [if_pos wh]
  unfold lnD
  have m1 : ((every2 ((rst ws hs rooms).drop 1)).map fun w => PyData.int (binR w)) = rooms.map PyData.int := by
    rw [show (fun w => PyData.int (binR w)) = PyData.int ∘ binR from rfl, ← List.map_map, e3]
  have m2 : ((every2 ((rst ws hs rooms).drop 1)).map fun w => PyData.int (binH w)) = hs.map PyData.int := by
    rw [show (fun w => PyData.int (binH w)) = PyData.int ∘ binH from rfl, ← List.map_map, e2]
  have m3 : ((every2 (rst ws hs rooms)).map fun w => oI (widO w)) = ws.map oI := by
    rw [show (fun w => oI (widO w)) = oI ∘ widO from rfl, ← List.map_map, e1]
  rw [m1, m2, m3]
  rfl
end
end Kc
namespace Kc
open PySem PySem.Spec PyProof.Rows L2 Xg Dv Kd PySem.NumText
section
variable {Q : PyData → Prop} {E : DEnds} {x : Str} {s1 s2 s3 s5 : Sl}
abbrev st81 (x : Str) (ys : List Str) (s1 s2 s3 s5 s7 s8 : Sl) : List Sl := [.box, s1, s2, s3, .dt (.str x), s5, .own (ys.map PyData.str), s7, s8]
abbrev bd81 : FS := (sSeq (sAsg (eCall F__law_spoilt (aBox 0 (aCons (eVar 4) aNil))) (gN 8)) f__law_right_0)
theorem one_spoilt {ys : List Str} {s7 s8 : Sl} {E : DEnds} (hx : x.length ≤ 148) (hl : ys.length < 1000000) (q : ∀ y : Str, y.length ≤ 900 → ∀ s8, E.nx (st81 x (ys ++ [y]) s1 s2 s3 s5 s7 s8)) : bd81 (st81 x ys s1 s2 s3 s5 s7 s8) E := by
  refine (show F__law_spoilt [.box, .dt (.str x)] _ from spoilt_of (L := 148) hx (by decide) (by decide) fun y hy => ?_)
  show f__law_right_0 (st81 x ys s1 s2 s3 s5 s7 (.dt (.str y))) E
  unfold f__law_right_0
  have z : ∀ y2 : Str, y2.length ≤ 900 → (ys.map PyData.str).length < 1000000 ∧ E.nx ([.box, s1, s2, s3, .dt (.str x), s5, .own (ys.map PyData.str ++ [.str y2]), s7, .dt (.str y)]) := fun y2 h2 => by
    refine ⟨by rw [List.length_map]; exact hl, ?_⟩
    have w := q y2 h2 (.dt (.str y))
    unfold st81 at w
    rw [List.map_append] at w
    exact w
  refine take_of (by decide) (by decide) fun r r0 r1 => ?_
  show if decide (r = 0) = true then _ else _
  split
  · refine (show F__law_spoilt [.box, .dt (.str y)] _ from spoilt_of (L := 316) (by omega) (by decide) (by decide) fun y2 h2 => ?_)
    exact z y2 (by omega)
  · exact z y (by omega)
theorem loop_of (hx : x.length ≤ 148) : ∀ (ds : List PyData) (ys : List Str) (s7 s8 : Sl), ys.length + ds.length ≤ 100 → (∀ y ∈ ys, y.length ≤ 900) →
    (∀ ys s7 s8, ys.length ≤ 100 → (∀ y ∈ ys, y.length ≤ 900) → E.nx (st81 x ys s1 s2 s3 s5 s7 s8)) → forD (gN 7) bd81 ds (st81 x ys s1 s2 s3 s5 s7 s8) E
  | [], ys, s7, s8, hl, hy, q => q ys s7 s8 (by simpa using hl) hy
  | d :: ds, ys, s7, s8, hl, hy, q => by
    rw [List.length_cons] at hl
    refine one_spoilt (s7 := .dt d) (E := { E with nx := _, ct := _, bk := E.nx }) hx (by omega) fun y h s8 => ?_
    refine loop_of hx ds (ys ++ [y]) _ s8 (by rw [List.length_append]; show _ + 1 + _ ≤ _; omega) (fun z hz => ?_) q
    rcases List.mem_append.mp hz with hz | hz
    · exact hy z hz
    · rw [List.mem_singleton.mp hz]
      exact h
theorem texts_of (hx : x.length ≤ 148) (q : E.rt (.bool true)) : f__law_right_4 [.box, s1, s2, s3, .dt (.str x), s5, .no, .no, .no] E := by
  have c1 : (" " : Str).length = 1 := by decide +kernel
  unfold f__law_right_4
  refine (show (" " : Str).length + x.length ≤ 1000000 ∧ _ from ⟨by omega, ?_⟩)
  show f__law_right_3 (st81 x ["", "row", "ring", "row 1", "row 1 0/2", "ring 1 0/2", "ring 1 0/2 1", "row  1 0/2 1", " " ++ x] s1 s2 s3 s5 .no .no) E
  unfold f__law_right_3
  refine ⟨by show 9 + 3 ≤ 1000000; decide, ?_⟩
  show f__law_right_2 (st81 x ["", "row", "ring", "row 1", "row 1 0/2", "ring 1 0/2", "ring 1 0/2 1", "row  1 0/2 1", " " ++ x, "row 1 0/0 1", "row ~ 1/1 ~", "ring 0 0/1 0 0/1 0"] s1 s2 s3 s5 .no .no) E
  unfold f__law_right_2
  refine (show (-(2 ^ 62) ≤ (12 : Int) ∧ (12 : Int) < 2 ^ 62) ∧ (rangeD 0 (12 : Int).toNat).length ≤ 12 ∧ _ from ⟨⟨by decide, by decide⟩, by rw [range_len]; decide, ?_⟩)
  refine loop_of hx _ _ _ _ (by rw [range_len]; show 12 + 12 ≤ 100; decide) (fun y hy => ?_) fun ys s7 s8 hl hy => ?_
  · have k : ∀ y : Str, y.length ≤ 20 → y.length ≤ 900 := fun y h => by omega
    simp only [List.mem_cons, List.not_mem_nil, or_false] at hy
    rcases hy with rfl | rfl | rfl | rfl | rfl | rfl | rfl | rfl | rfl | rfl | rfl | rfl
    all_goals first | exact k _ (by decide +kernel) | (rw [cat_len]; omega)
  · show f__law_right_1 (st81 x ys s1 s2 s3 s5 s7 s8) E
    unfold f__law_right_1
    refine (show (ys.map PyData.str).length ≤ 1000000 ∧ _ from ⟨by rw [List.length_map]; omega, comp_enc PyData.str (fun _ => PyData.bool true) ys [] (fun y hh P p => alike_of (hy y hh) p) ?_⟩)
    have e : [] ++ ys.map (fun _ => PyData.bool true) = (ys.map fun _ => true).map PyData.bool := by rw [List.nil_append, List.map_map]; rfl
    refine (show ∃ ns : List Bool, [] ++ ys.map (fun _ => PyData.bool true) = ns.map PyData.bool ∧ E.rt (.bool (ns.all id)) from ⟨ys.map fun _ => true, e, ?_⟩)
    have a : (ys.map fun _ => true).all id = true := by
      rw [List.all_map]
      exact List.all_eq_true.mpr fun _ _ => rfl
    rw [a]
    exact q
theorem dn_of {row : Bool} {rooms hs : List Int} {ws : List (Option Int)} (L : Ln row rooms 4) (lw : ws.length = gts row rooms.length) (D : Dw ws) (V : Vd rooms hs) : Dn row rooms ws hs := by
  refine ⟨⟨fun w hw i e => ?_, fun i x y e g => ?_⟩, V.len, lw, L.n0, L.n2, L.nz⟩
  · have := D w hw i e
    omega
  · have hi : i < rooms.length := (List.getElem?_eq_some_iff.mp g).1
    have ex : hs.getD i 0 = x := by rw [List.getD_eq_getElem?_getD, e]; rfl
    have ey : rooms.getD i 0 = y := by rw [List.getD_eq_getElem?_getD, g]; rfl
    have a := V.lo i hi
    have b := V.hi i hi
    have c := L.rm y (List.mem_of_getElem? g)
    rw [ex] at a b
    rw [ey] at b
    omega
theorem right_of (q : Q (.bool true)) : F__law_right [.box] Q := by
  unfold F__law_right
  refine ⟨rfl, ?_⟩
  refine (show CPow 10 9 ∧ _ from ⟨⟨by decide, by decide, by decide⟩, ?_⟩)
  refine (show F__law_pick [.box, .dt (.list [.int 9, .int (10 ^ 9)])] _ from pick_of (by decide) (by decide) fun d hd => ?_)
  obtain ⟨high, rfl, h1⟩ : ∃ high : Int, d = .int high ∧ 1 ≤ high ∧ high ≤ 1000000000 := by
    simp only [List.mem_cons, List.not_mem_nil, or_false] at hd
    rcases hd with rfl | rfl
    · exact ⟨_, rfl, by decide, by decide⟩
    · exact ⟨_, rfl, by decide, by decide⟩
  refine (show F__law_line [.box, .dt (.int ((4 : Nat) : Int)), .dt (.int high)] _ from lineC_of (most := 4) (by decide) (by decide) h1 fun row rooms L => ?_)
  show f__law_right_9 [.box, .dt (ln true row rooms), .no, .no, .no, .no, .no, .no, .no] (en82 Q)
  unfold f__law_right_9
  have nz := L.nz
  refine (show CPow 10 9 ∧ _ from ⟨⟨by decide, by decide, by decide⟩, ?_⟩)
  refine (show F__law_pick [.box, .dt (.list [.int 12, .int (10 ^ 9)])] _ from pick_of (by decide) (by decide) fun d hd => ?_)
  obtain ⟨wide, rfl, h2⟩ : ∃ high : Int, d = .int high ∧ 1 ≤ high ∧ high ≤ 1000000000 := by
    simp only [List.mem_cons, List.not_mem_nil, or_false] at hd
    rcases hd with rfl | rfl
    · exact ⟨_, rfl, by decide, by decide⟩
    · exact ⟨_, rfl, by decide, by decide⟩
  refine (show F__law_widths [.box, .dt (ln true row rooms), .dt (.int wide)] _ from widthsC_of (by omega) L.n0 h2 fun ws lw D => ?_)
  refine (show F__law_lying [.box, .dt (ln true row rooms)] _ from lyingC_of (by omega) L.rm fun hs V => ?_)
  have T := dn_of L lw D V
  have dl := due_len T
  obtain ⟨b1, b2, b3⟩ := T.lb
  show f__law_right_8 [.box, .dt (ln true row rooms), .dt (sqd true (ws.map oI)), .dt (iq true hs), .no, .no, .no, .no, .no] (en82 Q)
  unfold f__law_right_8
  refine (show F__law_text [.dt (ln true row rooms), .dt (sqd true (ws.map oI)), .dt (iq true hs)] _ from lawText_of T ?_)
  show f__law_right_7 [.box, .dt (ln true row rooms), .dt (sqd true (ws.map oI)), .dt (iq true hs), .dt (.str (dueL row rooms ws hs)), .no, .no, .no, .no] (en82 Q)
  unfold f__law_right_7
  show f__law_right_6 [.box, .dt (ln true row rooms), .dt (sqd true (ws.map oI)), .dt (iq true hs), .dt (.str (dueL row rooms ws hs)), .dt (.tuple [ln false row rooms, sqd false (ws.map oI), iq false hs]), .no, .no, .no] (en82 Q)
  unfold f__law_right_6
  refine (show F_line_text [.dt (ln true row rooms), .dt (sqd true (ws.map oI)), .dt (iq true hs)] _ from lineText_of (k := true) T ?_)
  refine (show F_line_text [.dt (ln false row rooms), .dt (sqd false (ws.map oI)), .dt (iq false hs)] _ from lineText_of (k := false) T ?_)
  refine (show F_same [.dt (.list [.str (dueL row rooms ws hs), .str (dueL row rooms ws hs)]), .dt (.list [.str (dueL row rooms ws hs), .str (dueL row rooms ws hs)])] _ from ⟨⟨rfl, rfl⟩, ?_⟩)
  show f__law_right_5 [.box, .dt (ln true row rooms), .dt (sqd true (ws.map oI)), .dt (iq true hs), .dt (.str (dueL row rooms ws hs)), .dt (.tuple [ln false row rooms, sqd false (ws.map oI), iq false hs]), .no, .no, .no] (en82 Q)
  unfold f__law_right_5
  refine (show F__law_told [.dt (.str (dueL row rooms ws hs))] _ from told_of (by omega) ?_)
  rw [due_res T]
  refine (show F__law_read [.dt (.str (dueL row rooms ws hs))] _ from read_of (by omega) ?_)
  rw [due_res T]
  have sw : shal 3 (sqd true (ws.map oI)) = true := shal_map (by omega) fun w => by cases w <;> rfl
  have s2 : shal 2 (iq true rooms) = true := shal_iq (by omega)
  have s3 : shal 3 (iq true hs) = true := shal_iq (by rw [V.len]; omega)
  have st : shal 4 (.tuple [ln true row rooms, sqd true (ws.map oI), iq true hs]) = true := by
    show (decide (3 ≤ 1000) && ((decide (2 ≤ 1000) && (shal 2 (.str (fm row)) && (shal 2 (iq true rooms) && true))) && (shal 3 (sqd true (ws.map oI)) && (shal 3 (iq true hs) && true)))) = true
    rw [sw, s2, s3]
    rfl
  have sl : shal 5 (.list [.tuple [ln true row rooms, sqd true (ws.map oI), iq true hs], .tuple [ln true row rooms, sqd true (ws.map oI), iq true hs]]) = true := by
    show (decide (2 ≤ 1000) && (shal 4 (.tuple [ln true row rooms, sqd true (ws.map oI), iq true hs]) && (shal 4 (.tuple [ln true row rooms, sqd true (ws.map oI), iq true hs]) && true))) = true
    rw [st]
    rfl
  have same : F_same [.dt (.list [.tuple [ln true row rooms, sqd true (ws.map oI), iq true hs], .tuple [ln true row rooms, sqd true (ws.map oI), iq true hs]]), .dt (.list [.tuple [ln true row rooms, sqd true (ws.map oI), iq true hs], .tuple [ln true row rooms, sqd true (ws.map oI), iq true hs]])] (asB fun k => if (!k) = true then Q (.bool false) else f__law_right_4 [.box, .dt (ln true row rooms), .dt (sqd true (ws.map oI)), .dt (iq true hs), .dt (.str (dueL row rooms ws hs)), .dt (.tuple [ln false row rooms, sqd false (ws.map oI), iq false hs]), .no, .no, .no] (en82 Q)) := ⟨⟨rfl, sl⟩, texts_of dl q⟩
  exact (show (-(2 ^ 63) ≤ (2 : Int) ∧ (2 : Int) < 2 ^ 63 ∧ 1 * (2 : Int).toNat ≤ 1000000) ∧ _ from ⟨⟨by decide, by decide, by decide⟩, same⟩)
theorem law_true (ns : List Int) (hl : ns.length ≤ 63) : F_law [.scr ns] (fun d => d = .bool true) := by
  unfold F_law
  exact ⟨rfl, Kc.lawC (c := 3) (tn := 2) hl (by decide) (by decide) (by decide) (fun Q q => right_of q) rfl⟩
end
end Kc
namespace Kc
open PySem PySem.Spec PyProof.Rows L2 Xg Dv Kd
theorem all_mk {l : PySem.W.OpenLaw} {w : World} {K : PySem.W.Frag} {h : Heap} {mg : Str → Option Value} {fa : Addr} (X : K.In h) (G : h.Ns mainGlobals mg) (hfa : mg "law" = some (.ref fa))
    {t_FIGURES_ t_LINE_FIGURES_ t_RING_ t_ROW_ t_WIDE_ : Tok}
    {u_line_text : Addr} {od_line_text an_line_text : Option Addr} {sl_line_text : Array (Option Value)} {oc_line_text kV_line_text dc_line_text pm_line_text cd_line_text ct_line_text : Value}
    {u_width_text : Addr} {od_width_text an_width_text : Option Addr} {sl_width_text : Array (Option Value)} {oc_width_text kV_width_text dc_width_text pm_width_text cd_width_text ct_width_text : Value}
    {u_line_in : Addr} {od_line_in an_line_in : Option Addr} {sl_line_in : Array (Option Value)} {oc_line_in kV_line_in dc_line_in pm_line_in cd_line_in ct_line_in : Value}
    {u_can_stand : Addr} {od_can_stand an_can_stand : Option Addr} {sl_can_stand : Array (Option Value)} {oc_can_stand kV_can_stand dc_can_stand pm_can_stand cd_can_stand ct_can_stand : Value}
    {u_is_whole : Addr} {od_is_whole an_is_whole : Option Addr} {sl_is_whole : Array (Option Value)} {oc_is_whole kV_is_whole dc_is_whole pm_is_whole cd_is_whole ct_is_whole : Value}
    {u_is_number_text : Addr} {od_is_number_text an_is_number_text : Option Addr} {sl_is_number_text : Array (Option Value)} {oc_is_number_text kV_is_number_text dc_is_number_text pm_is_number_text cd_is_number_text ct_is_number_text : Value}
    {u_is_width_text : Addr} {od_is_width_text an_is_width_text : Option Addr} {sl_is_width_text : Array (Option Value)} {oc_is_width_text kV_is_width_text dc_is_width_text pm_is_width_text cd_is_width_text ct_is_width_text : Value}
    {u_width_in : Addr} {od_width_in an_width_in : Option Addr} {sl_width_in : Array (Option Value)} {oc_width_in kV_width_in dc_width_in pm_width_in cd_width_in ct_width_in : Value}
    {u_is_bin_text : Addr} {od_is_bin_text an_is_bin_text : Option Addr} {sl_is_bin_text : Array (Option Value)} {oc_is_bin_text kV_is_bin_text dc_is_bin_text pm_is_bin_text cd_is_bin_text ct_is_bin_text : Value}
    {u_bin_in : Addr} {od_bin_in an_bin_in : Option Addr} {sl_bin_in : Array (Option Value)} {oc_bin_in kV_bin_in dc_bin_in pm_bin_in cd_bin_in ct_bin_in : Value}
    {u__law_box : Addr} {od__law_box an__law_box : Option Addr} {sl__law_box : Array (Option Value)} {oc__law_box kV__law_box dc__law_box pm__law_box cd__law_box ct__law_box : Value}
    {u__law_take : Addr} {od__law_take an__law_take : Option Addr} {sl__law_take : Array (Option Value)} {oc__law_take kV__law_take dc__law_take pm__law_take cd__law_take ct__law_take : Value}
    {u__law_pick : Addr} {od__law_pick an__law_pick : Option Addr} {sl__law_pick : Array (Option Value)} {oc__law_pick kV__law_pick dc__law_pick pm__law_pick cd__law_pick ct__law_pick : Value}
    {u__law_same : Addr} {od__law_same an__law_same : Option Addr} {sl__law_same : Array (Option Value)} {oc__law_same kV__law_same dc__law_same pm__law_same cd__law_same ct__law_same : Value}
    {u__law_folded : Addr} {od__law_folded an__law_folded : Option Addr} {sl__law_folded : Array (Option Value)} {oc__law_folded kV__law_folded dc__law_folded pm__law_folded cd__law_folded ct__law_folded : Value}
    {u__law_line : Addr} {od__law_line an__law_line : Option Addr} {sl__law_line : Array (Option Value)} {oc__law_line kV__law_line dc__law_line pm__law_line cd__law_line ct__law_line : Value}
    {u__law_gates : Addr} {od__law_gates an__law_gates : Option Addr} {sl__law_gates : Array (Option Value)} {oc__law_gates kV__law_gates dc__law_gates pm__law_gates cd__law_gates ct__law_gates : Value}
    {u__law_widths : Addr} {od__law_widths an__law_widths : Option Addr} {sl__law_widths : Array (Option Value)} {oc__law_widths kV__law_widths dc__law_widths pm__law_widths cd__law_widths ct__law_widths : Value}
    {u__law_lying : Addr} {od__law_lying an__law_lying : Option Addr} {sl__law_lying : Array (Option Value)} {oc__law_lying kV__law_lying dc__law_lying pm__law_lying cd__law_lying ct__law_lying : Value}
    {u__law_number : Addr} {od__law_number an__law_number : Option Addr} {sl__law_number : Array (Option Value)} {oc__law_number kV__law_number dc__law_number pm__law_number cd__law_number ct__law_number : Value}
    {u__law_spoilt : Addr} {od__law_spoilt an__law_spoilt : Option Addr} {sl__law_spoilt : Array (Option Value)} {oc__law_spoilt kV__law_spoilt dc__law_spoilt pm__law_spoilt cd__law_spoilt ct__law_spoilt : Value}
    {u__law_text : Addr} {od__law_text an__law_text : Option Addr} {sl__law_text : Array (Option Value)} {oc__law_text kV__law_text dc__law_text pm__law_text cd__law_text ct__law_text : Value}
    {u__law_bin : Addr} {od__law_bin an__law_bin : Option Addr} {sl__law_bin : Array (Option Value)} {oc__law_bin kV__law_bin dc__law_bin pm__law_bin cd__law_bin ct__law_bin : Value}
    {u__law_read : Addr} {od__law_read an__law_read : Option Addr} {sl__law_read : Array (Option Value)} {oc__law_read kV__law_read dc__law_read pm__law_read cd__law_read ct__law_read : Value}
    {u__law_told : Addr} {od__law_told an__law_told : Option Addr} {sl__law_told : Array (Option Value)} {oc__law_told kV__law_told dc__law_told pm__law_told cd__law_told ct__law_told : Value}
    {u__law_right : Addr} {od__law_right an__law_right : Option Addr} {sl__law_right : Array (Option Value)} {oc__law_right kV__law_right dc__law_right pm__law_right cd__law_right ct__law_right : Value}
    {u_law : Addr} {od_law an_law : Option Addr} {sl_law : Array (Option Value)} {oc_law kV_law dc_law pm_law cd_law ct_law : Value}
    (a_line_text : PySem.W.nsIn K mainGlobals "line_text" = some (some (.ref u_line_text))) (l_line_text : K.lookup u_line_text = some ⟨oc_line_text, od_line_text, .func (PySem.W.fnOf "line_text" "line_text" (defArgs (topS 13)) (defBody (topS 13)) (defScope (topS 13)) .none kV_line_text dc_line_text pm_line_text an_line_text cd_line_text ct_line_text), sl_line_text⟩) (e_line_text : PySem.W.codeIn K cd_line_text "line_text" = true) (k_line_text : PySem.W.keepIn K (.ref u_line_text) = true)
    (a_width_text : PySem.W.nsIn K mainGlobals "width_text" = some (some (.ref u_width_text))) (l_width_text : K.lookup u_width_text = some ⟨oc_width_text, od_width_text, .func (PySem.W.fnOf "width_text" "width_text" (defArgs (topS 14)) (defBody (topS 14)) (defScope (topS 14)) .none kV_width_text dc_width_text pm_width_text an_width_text cd_width_text ct_width_text), sl_width_text⟩) (e_width_text : PySem.W.codeIn K cd_width_text "width_text" = true) (k_width_text : PySem.W.keepIn K (.ref u_width_text) = true)
    (a_line_in : PySem.W.nsIn K mainGlobals "line_in" = some (some (.ref u_line_in))) (l_line_in : K.lookup u_line_in = some ⟨oc_line_in, od_line_in, .func (PySem.W.fnOf "line_in" "line_in" (defArgs (topS 15)) (defBody (topS 15)) (defScope (topS 15)) .none kV_line_in dc_line_in pm_line_in an_line_in cd_line_in ct_line_in), sl_line_in⟩) (e_line_in : PySem.W.codeIn K cd_line_in "line_in" = true) (k_line_in : PySem.W.keepIn K (.ref u_line_in) = true)
    (a_can_stand : PySem.W.nsIn K mainGlobals "can_stand" = some (some (.ref u_can_stand))) (l_can_stand : K.lookup u_can_stand = some ⟨oc_can_stand, od_can_stand, .func (PySem.W.fnOf "can_stand" "can_stand" (defArgs (topS 16)) (defBody (topS 16)) (defScope (topS 16)) .none kV_can_stand dc_can_stand pm_can_stand an_can_stand cd_can_stand ct_can_stand), sl_can_stand⟩) (e_can_stand : PySem.W.codeIn K cd_can_stand "can_stand" = true) (k_can_stand : PySem.W.keepIn K (.ref u_can_stand) = true)
    (a_is_whole : PySem.W.nsIn K mainGlobals "is_whole" = some (some (.ref u_is_whole))) (l_is_whole : K.lookup u_is_whole = some ⟨oc_is_whole, od_is_whole, .func (PySem.W.fnOf "is_whole" "is_whole" (defArgs (topS 17)) (defBody (topS 17)) (defScope (topS 17)) .none kV_is_whole dc_is_whole pm_is_whole an_is_whole cd_is_whole ct_is_whole), sl_is_whole⟩) (e_is_whole : PySem.W.codeIn K cd_is_whole "is_whole" = true) (k_is_whole : PySem.W.keepIn K (.ref u_is_whole) = true)
    (a_is_number_text : PySem.W.nsIn K mainGlobals "is_number_text" = some (some (.ref u_is_number_text))) (l_is_number_text : K.lookup u_is_number_text = some ⟨oc_is_number_text, od_is_number_text, .func (PySem.W.fnOf "is_number_text" "is_number_text" (defArgs (topS 18)) (defBody (topS 18)) (defScope (topS 18)) .none kV_is_number_text dc_is_number_text pm_is_number_text an_is_number_text cd_is_number_text ct_is_number_text), sl_is_number_text⟩) (e_is_number_text : PySem.W.codeIn K cd_is_number_text "is_number_text" = true) (k_is_number_text : PySem.W.keepIn K (.ref u_is_number_text) = true)
    (a_is_width_text : PySem.W.nsIn K mainGlobals "is_width_text" = some (some (.ref u_is_width_text))) (l_is_width_text : K.lookup u_is_width_text = some ⟨oc_is_width_text, od_is_width_text, .func (PySem.W.fnOf "is_width_text" "is_width_text" (defArgs (topS 19)) (defBody (topS 19)) (defScope (topS 19)) .none kV_is_width_text dc_is_width_text pm_is_width_text an_is_width_text cd_is_width_text ct_is_width_text), sl_is_width_text⟩) (e_is_width_text : PySem.W.codeIn K cd_is_width_text "is_width_text" = true) (k_is_width_text : PySem.W.keepIn K (.ref u_is_width_text) = true)
    (a_width_in : PySem.W.nsIn K mainGlobals "width_in" = some (some (.ref u_width_in))) (l_width_in : K.lookup u_width_in = some ⟨oc_width_in, od_width_in, .func (PySem.W.fnOf "width_in" "width_in" (defArgs (topS 20)) (defBody (topS 20)) (defScope (topS 20)) .none kV_width_in dc_width_in pm_width_in an_width_in cd_width_in ct_width_in), sl_width_in⟩) (e_width_in : PySem.W.codeIn K cd_width_in "width_in" = true) (k_width_in : PySem.W.keepIn K (.ref u_width_in) = true)
    (a_is_bin_text : PySem.W.nsIn K mainGlobals "is_bin_text" = some (some (.ref u_is_bin_text))) (l_is_bin_text : K.lookup u_is_bin_text = some ⟨oc_is_bin_text, od_is_bin_text, .func (PySem.W.fnOf "is_bin_text" "is_bin_text" (defArgs (topS 21)) (defBody (topS 21)) (defScope (topS 21)) .none kV_is_bin_text dc_is_bin_text pm_is_bin_text an_is_bin_text cd_is_bin_text ct_is_bin_text), sl_is_bin_text⟩) (e_is_bin_text : PySem.W.codeIn K cd_is_bin_text "is_bin_text" = true) (k_is_bin_text : PySem.W.keepIn K (.ref u_is_bin_text) = true)
    (a_bin_in : PySem.W.nsIn K mainGlobals "bin_in" = some (some (.ref u_bin_in))) (l_bin_in : K.lookup u_bin_in = some ⟨oc_bin_in, od_bin_in, .func (PySem.W.fnOf "bin_in" "bin_in" (defArgs (topS 22)) (defBody (topS 22)) (defScope (topS 22)) .none kV_bin_in dc_bin_in pm_bin_in an_bin_in cd_bin_in ct_bin_in), sl_bin_in⟩) (e_bin_in : PySem.W.codeIn K cd_bin_in "bin_in" = true) (k_bin_in : PySem.W.keepIn K (.ref u_bin_in) = true)
    (a__law_box : PySem.W.nsIn K mainGlobals "_law_box" = some (some (.ref u__law_box))) (l__law_box : K.lookup u__law_box = some ⟨oc__law_box, od__law_box, .func (PySem.W.fnOf "_law_box" "_law_box" (defArgs (topS 24)) (defBody (topS 24)) (defScope (topS 24)) .none kV__law_box dc__law_box pm__law_box an__law_box cd__law_box ct__law_box), sl__law_box⟩) (e__law_box : PySem.W.codeIn K cd__law_box "_law_box" = true) (k__law_box : PySem.W.keepIn K (.ref u__law_box) = true)
    (a__law_take : PySem.W.nsIn K mainGlobals "_law_take" = some (some (.ref u__law_take))) (l__law_take : K.lookup u__law_take = some ⟨oc__law_take, od__law_take, .func (PySem.W.fnOf "_law_take" "_law_take" (defArgs (topS 25)) (defBody (topS 25)) (defScope (topS 25)) .none kV__law_take dc__law_take pm__law_take an__law_take cd__law_take ct__law_take), sl__law_take⟩) (e__law_take : PySem.W.codeIn K cd__law_take "_law_take" = true) (k__law_take : PySem.W.keepIn K (.ref u__law_take) = true)
    (a__law_pick : PySem.W.nsIn K mainGlobals "_law_pick" = some (some (.ref u__law_pick))) (l__law_pick : K.lookup u__law_pick = some ⟨oc__law_pick, od__law_pick, .func (PySem.W.fnOf "_law_pick" "_law_pick" (defArgs (topS 26)) (defBody (topS 26)) (defScope (topS 26)) .none kV__law_pick dc__law_pick pm__law_pick an__law_pick cd__law_pick ct__law_pick), sl__law_pick⟩) (e__law_pick : PySem.W.codeIn K cd__law_pick "_law_pick" = true) (k__law_pick : PySem.W.keepIn K (.ref u__law_pick) = true)
    (a__law_same : PySem.W.nsIn K mainGlobals "_law_same" = some (some (.ref u__law_same))) (l__law_same : K.lookup u__law_same = some ⟨oc__law_same, od__law_same, .func (PySem.W.fnOf "_law_same" "_law_same" (defArgs (topS 27)) (defBody (topS 27)) (defScope (topS 27)) .none kV__law_same dc__law_same pm__law_same an__law_same cd__law_same ct__law_same), sl__law_same⟩) (e__law_same : PySem.W.codeIn K cd__law_same "_law_same" = true) (k__law_same : PySem.W.keepIn K (.ref u__law_same) = true)
    (a__law_folded : PySem.W.nsIn K mainGlobals "_law_folded" = some (some (.ref u__law_folded))) (l__law_folded : K.lookup u__law_folded = some ⟨oc__law_folded, od__law_folded, .func (PySem.W.fnOf "_law_folded" "_law_folded" (defArgs (topS 28)) (defBody (topS 28)) (defScope (topS 28)) .none kV__law_folded dc__law_folded pm__law_folded an__law_folded cd__law_folded ct__law_folded), sl__law_folded⟩) (e__law_folded : PySem.W.codeIn K cd__law_folded "_law_folded" = true) (k__law_folded : PySem.W.keepIn K (.ref u__law_folded) = true)
    (a__law_line : PySem.W.nsIn K mainGlobals "_law_line" = some (some (.ref u__law_line))) (l__law_line : K.lookup u__law_line = some ⟨oc__law_line, od__law_line, .func (PySem.W.fnOf "_law_line" "_law_line" (defArgs (topS 29)) (defBody (topS 29)) (defScope (topS 29)) .none kV__law_line dc__law_line pm__law_line an__law_line cd__law_line ct__law_line), sl__law_line⟩) (e__law_line : PySem.W.codeIn K cd__law_line "_law_line" = true) (k__law_line : PySem.W.keepIn K (.ref u__law_line) = true)
    (a__law_gates : PySem.W.nsIn K mainGlobals "_law_gates" = some (some (.ref u__law_gates))) (l__law_gates : K.lookup u__law_gates = some ⟨oc__law_gates, od__law_gates, .func (PySem.W.fnOf "_law_gates" "_law_gates" (defArgs (topS 30)) (defBody (topS 30)) (defScope (topS 30)) .none kV__law_gates dc__law_gates pm__law_gates an__law_gates cd__law_gates ct__law_gates), sl__law_gates⟩) (e__law_gates : PySem.W.codeIn K cd__law_gates "_law_gates" = true) (k__law_gates : PySem.W.keepIn K (.ref u__law_gates) = true)
    (a__law_widths : PySem.W.nsIn K mainGlobals "_law_widths" = some (some (.ref u__law_widths))) (l__law_widths : K.lookup u__law_widths = some ⟨oc__law_widths, od__law_widths, .func (PySem.W.fnOf "_law_widths" "_law_widths" (defArgs (topS 31)) (defBody (topS 31)) (defScope (topS 31)) .none kV__law_widths dc__law_widths pm__law_widths an__law_widths cd__law_widths ct__law_widths), sl__law_widths⟩) (e__law_widths : PySem.W.codeIn K cd__law_widths "_law_widths" = true) (k__law_widths : PySem.W.keepIn K (.ref u__law_widths) = true)
    (a__law_lying : PySem.W.nsIn K mainGlobals "_law_lying" = some (some (.ref u__law_lying))) (l__law_lying : K.lookup u__law_lying = some ⟨oc__law_lying, od__law_lying, .func (PySem.W.fnOf "_law_lying" "_law_lying" (defArgs (topS 32)) (defBody (topS 32)) (defScope (topS 32)) .none kV__law_lying dc__law_lying pm__law_lying an__law_lying cd__law_lying ct__law_lying), sl__law_lying⟩) (e__law_lying : PySem.W.codeIn K cd__law_lying "_law_lying" = true) (k__law_lying : PySem.W.keepIn K (.ref u__law_lying) = true)
    (a__law_number : PySem.W.nsIn K mainGlobals "_law_number" = some (some (.ref u__law_number))) (l__law_number : K.lookup u__law_number = some ⟨oc__law_number, od__law_number, .func (PySem.W.fnOf "_law_number" "_law_number" (defArgs (topS 33)) (defBody (topS 33)) (defScope (topS 33)) .none kV__law_number dc__law_number pm__law_number an__law_number cd__law_number ct__law_number), sl__law_number⟩) (e__law_number : PySem.W.codeIn K cd__law_number "_law_number" = true) (k__law_number : PySem.W.keepIn K (.ref u__law_number) = true)
    (a__law_spoilt : PySem.W.nsIn K mainGlobals "_law_spoilt" = some (some (.ref u__law_spoilt))) (l__law_spoilt : K.lookup u__law_spoilt = some ⟨oc__law_spoilt, od__law_spoilt, .func (PySem.W.fnOf "_law_spoilt" "_law_spoilt" (defArgs (topS 34)) (defBody (topS 34)) (defScope (topS 34)) .none kV__law_spoilt dc__law_spoilt pm__law_spoilt an__law_spoilt cd__law_spoilt ct__law_spoilt), sl__law_spoilt⟩) (e__law_spoilt : PySem.W.codeIn K cd__law_spoilt "_law_spoilt" = true) (k__law_spoilt : PySem.W.keepIn K (.ref u__law_spoilt) = true)
    (a__law_text : PySem.W.nsIn K mainGlobals "_law_text" = some (some (.ref u__law_text))) (l__law_text : K.lookup u__law_text = some ⟨oc__law_text, od__law_text, .func (PySem.W.fnOf "_law_text" "_law_text" (defArgs (topS 35)) (defBody (topS 35)) (defScope (topS 35)) .none kV__law_text dc__law_text pm__law_text an__law_text cd__law_text ct__law_text), sl__law_text⟩) (e__law_text : PySem.W.codeIn K cd__law_text "_law_text" = true) (k__law_text : PySem.W.keepIn K (.ref u__law_text) = true)
    (a__law_bin : PySem.W.nsIn K mainGlobals "_law_bin" = some (some (.ref u__law_bin))) (l__law_bin : K.lookup u__law_bin = some ⟨oc__law_bin, od__law_bin, .func (PySem.W.fnOf "_law_bin" "_law_bin" (defArgs (topS 36)) (defBody (topS 36)) (defScope (topS 36)) .none kV__law_bin dc__law_bin pm__law_bin an__law_bin cd__law_bin ct__law_bin), sl__law_bin⟩) (e__law_bin : PySem.W.codeIn K cd__law_bin "_law_bin" = true) (k__law_bin : PySem.W.keepIn K (.ref u__law_bin) = true)
    (a__law_read : PySem.W.nsIn K mainGlobals "_law_read" = some (some (.ref u__law_read))) (l__law_read : K.lookup u__law_read = some ⟨oc__law_read, od__law_read, .func (PySem.W.fnOf "_law_read" "_law_read" (defArgs (topS 37)) (defBody (topS 37)) (defScope (topS 37)) .none kV__law_read dc__law_read pm__law_read an__law_read cd__law_read ct__law_read), sl__law_read⟩) (e__law_read : PySem.W.codeIn K cd__law_read "_law_read" = true) (k__law_read : PySem.W.keepIn K (.ref u__law_read) = true)
    (a__law_told : PySem.W.nsIn K mainGlobals "_law_told" = some (some (.ref u__law_told))) (l__law_told : K.lookup u__law_told = some ⟨oc__law_told, od__law_told, .func (PySem.W.fnOf "_law_told" "_law_told" (defArgs (topS 38)) (defBody (topS 38)) (defScope (topS 38)) .none kV__law_told dc__law_told pm__law_told an__law_told cd__law_told ct__law_told), sl__law_told⟩) (e__law_told : PySem.W.codeIn K cd__law_told "_law_told" = true) (k__law_told : PySem.W.keepIn K (.ref u__law_told) = true)
    (a__law_right : PySem.W.nsIn K mainGlobals "_law_right" = some (some (.ref u__law_right))) (l__law_right : K.lookup u__law_right = some ⟨oc__law_right, od__law_right, .func (PySem.W.fnOf "_law_right" "_law_right" (defArgs (topS 39)) (defBody (topS 39)) (defScope (topS 39)) .none kV__law_right dc__law_right pm__law_right an__law_right cd__law_right ct__law_right), sl__law_right⟩) (e__law_right : PySem.W.codeIn K cd__law_right "_law_right" = true) (k__law_right : PySem.W.keepIn K (.ref u__law_right) = true)
    (a_law : PySem.W.nsIn K mainGlobals "law" = some (some (.ref u_law))) (l_law : K.lookup u_law = some ⟨oc_law, od_law, .func (PySem.W.fnOf "law" "law" (defArgs (topS 40)) (defBody (topS 40)) (defScope (topS 40)) .none kV_law dc_law pm_law an_law cd_law ct_law), sl_law⟩) (e_law : PySem.W.codeIn K cd_law "law" = true) (k_law : PySem.W.keepIn K (.ref u_law) = true)
    (ab_when : PySem.W.nsIn K mainGlobals "when" = some none)
    (ab_rests_when : PySem.W.nsIn K mainGlobals "rests_when" = some none)
    (ab_slowest : PySem.W.nsIn K mainGlobals "slowest" = some none)
    {C_BadDeed : Addr} (ax_BadDeed : PySem.W.nsIn K mainGlobals "BadDeed" = some (some (.ref C_BadDeed)))
    {C_BadRow : Addr} (ax_BadRow : PySem.W.nsIn K mainGlobals "BadRow" = some (some (.ref C_BadRow)))
    {C_BadWord : Addr} (ax_BadWord : PySem.W.nsIn K mainGlobals "BadWord" = some (some (.ref C_BadWord)))
    {C_NoStep : Addr} (ax_NoStep : PySem.W.nsIn K mainGlobals "NoStep" = some (some (.ref C_NoStep)))
    {C_NotAlike : Addr} (ax_NotAlike : PySem.W.nsIn K mainGlobals "NotAlike" = some (some (.ref C_NotAlike)))
    {C_Unlike : Addr} (ax_Unlike : PySem.W.nsIn K mainGlobals "Unlike" = some (some (.ref C_Unlike)))
    {I_BadWord : Addr} {odx_BadWord anx_BadWord : Option Addr} {slx_BadWord : Array (Option Value)} {ocx_BadWord kVx_BadWord dcx_BadWord pmx_BadWord cdx_BadWord ctx_BadWord : Value}
    (nx_BadWord : PySem.W.findIn K (.ref C_BadWord) "at" = some none) (ix_BadWord : PySem.W.findIn K (.ref C_BadWord) "__init__" = some (some (.ref I_BadWord))) (tx_BadWord : PySem.W.typeIn K (.ref I_BadWord) = some (.type "function")) (lx_BadWord : K.lookup I_BadWord = some ⟨ocx_BadWord, odx_BadWord, .func (PySem.W.fnOf "__init__" "BadWord.__init__" (defArgs (inClass (topS 6) 0)) (defBody (inClass (topS 6) 0)) (defScope (inClass (topS 6) 0)) .none kVx_BadWord dcx_BadWord pmx_BadWord anx_BadWord cdx_BadWord ctx_BadWord), slx_BadWord⟩) (cx_BadWord : PySem.W.codeIn K cdx_BadWord "BadWord.__init__" = true) (kx_BadWord : PySem.W.keepIn K (.ref I_BadWord) = true)
    (xx_BadWord : Ex.xcB K C_BadWord "ValueError.__new__" [.type "ValueError", .type "Exception", .type "BaseException", .type "object"] = true)
    (vx_ValueError : PySem.W.findCls K (.type "ValueError") (.type "type") "__init__" = some (.val (.builtin "ValueError.__init__")))
    (fx_XF_0_BadWord : Ex.isB K C_BadWord = true)
    (fx_XF_1_BadWord : PySem.W.exmAny K (.ref C_BadWord) [.ref C_BadDeed, .ref C_BadRow, .ref C_BadWord, .ref C_NoStep, .ref C_NotAlike, .ref C_Unlike] = some true)
    (fx_XF_2_BadWord : PySem.W.kitOne K (.ref C_BadWord) (.ref C_BadWord) = some true)
    (fx_XF_3_BadWord : PySem.W.kitOne K (.ref C_BadWord) (.type "ValueError") = some true)
    (fx_XF_4_BadWord : PySem.W.kitAny K (.ref C_BadWord) [.ref C_BadDeed, .ref C_BadRow, .ref C_NoStep, .ref C_NotAlike, .ref C_Unlike] = some false)
    (fx_XF_5_BadWord : PySem.W.findIn K (.ref C_BadWord) "at" = some none)
    (y_FIGURES : PySem.W.nsIn K mainGlobals "FIGURES" = some (some (.str "0123456789" t_FIGURES_)))
    (y_LINE_FIGURES : PySem.W.nsIn K mainGlobals "LINE_FIGURES" = some (some (.int 10 t_LINE_FIGURES_)))
    (y_RING : PySem.W.nsIn K mainGlobals "RING" = some (some (.str "ring" t_RING_)))
    (y_ROW : PySem.W.nsIn K mainGlobals "ROW" = some (some (.str "row" t_ROW_)))
    (y_WIDE : PySem.W.nsIn K mainGlobals "WIDE" = some (some (.str "~" t_WIDE_)))
    (z_ValueError : PySem.W.nsIn K mainGlobals "ValueError" = some none)
    (z_abs : PySem.W.nsIn K mainGlobals "abs" = some none)
    (z_all : PySem.W.nsIn K mainGlobals "all" = some none)
    (z_bool : PySem.W.nsIn K mainGlobals "bool" = some none)
    (z_enumerate : PySem.W.nsIn K mainGlobals "enumerate" = some none)
    (z_int : PySem.W.nsIn K mainGlobals "int" = some none)
    (z_isinstance : PySem.W.nsIn K mainGlobals "isinstance" = some none)
    (z_len : PySem.W.nsIn K mainGlobals "len" = some none)
    (z_list : PySem.W.nsIn K mainGlobals "list" = some none)
    (z_range : PySem.W.nsIn K mainGlobals "range" = some none)
    (z_str : PySem.W.nsIn K mainGlobals "str" = some none)
    (z_tuple : PySem.W.nsIn K mainGlobals "tuple" = some none)
    (z_zip : PySem.W.nsIn K mainGlobals "zip" = some none)
    : (∀ p ∈ tabsOf K, h.get? p.2 = some { cls := .none, data := .fields #[] } ∧ K.lookup p.2 = none ∧ PySem.W.CodeHd h p.1 p.2) ∧ ∃ fd : FuncData, (∀ (s : Shared) (v : Value), BindsTo s fd ⟨[v], []⟩ [("_law_script", v)]) ∧ ∀ base : Heap, K.In base → base.Ns mainGlobals mg → (∀ p ∈ tabsOf K, LamX.TabB base mg p.1 p.2) → FnG l.prog w K mg base 8 fa fd ["_law_script"] (spD K 157600 F_law) := by
  have e := hfa.symm.trans (PySem.W.mg_of X G a_law)
  cases e
  have U_line_text := fun_mk (st := topS 13) l_line_text e_line_text k_line_text
  have b_line_text := U_line_text.binds (ps := ["line", "widths", "standing"]) fun _ _ _ _ _ _ us hl => match us, hl with | [_, _, _], _ => rfl
  have g_line_text := PySem.W.mg_of X G a_line_text
  have U_width_text := fun_mk (st := topS 14) l_width_text e_width_text k_width_text
  have b_width_text := U_width_text.binds (ps := ["width"]) fun _ _ _ _ _ _ us hl => match us, hl with | [_], _ => rfl
  have g_width_text := PySem.W.mg_of X G a_width_text
  have U_line_in := fun_mk (st := topS 15) l_line_in e_line_in k_line_in
  have b_line_in := U_line_in.binds (ps := ["text"]) fun _ _ _ _ _ _ us hl => match us, hl with | [_], _ => rfl
  have g_line_in := PySem.W.mg_of X G a_line_in
  have U_can_stand := fun_mk (st := topS 16) l_can_stand e_can_stand k_can_stand
  have b_can_stand := U_can_stand.binds (ps := ["word", "at"]) fun _ _ _ _ _ _ us hl => match us, hl with | [_, _], _ => rfl
  have g_can_stand := PySem.W.mg_of X G a_can_stand
  have U_is_whole := fun_mk (st := topS 17) l_is_whole e_is_whole k_is_whole
  have b_is_whole := U_is_whole.binds (ps := ["words"]) fun _ _ _ _ _ _ us hl => match us, hl with | [_], _ => rfl
  have g_is_whole := PySem.W.mg_of X G a_is_whole
  have U_is_number_text := fun_mk (st := topS 18) l_is_number_text e_is_number_text k_is_number_text
  have b_is_number_text := U_is_number_text.binds (ps := ["word", "most_figures"]) fun _ _ _ _ _ _ us hl => match us, hl with | [_, _], _ => rfl
  have g_is_number_text := PySem.W.mg_of X G a_is_number_text
  have U_is_width_text := fun_mk (st := topS 19) l_is_width_text e_is_width_text k_is_width_text
  have b_is_width_text := U_is_width_text.binds (ps := ["word", "most_figures"]) fun _ _ _ _ _ _ us hl => match us, hl with | [_, _], _ => rfl
  have g_is_width_text := PySem.W.mg_of X G a_is_width_text
  have U_width_in := fun_mk (st := topS 20) l_width_in e_width_in k_width_in
  have b_width_in := U_width_in.binds (ps := ["word"]) fun _ _ _ _ _ _ us hl => match us, hl with | [_], _ => rfl
  have g_width_in := PySem.W.mg_of X G a_width_in
  have U_is_bin_text := fun_mk (st := topS 21) l_is_bin_text e_is_bin_text k_is_bin_text
  have b_is_bin_text := U_is_bin_text.binds (ps := ["word"]) fun _ _ _ _ _ _ us hl => match us, hl with | [_], _ => rfl
  have g_is_bin_text := PySem.W.mg_of X G a_is_bin_text
  have U_bin_in := fun_mk (st := topS 22) l_bin_in e_bin_in k_bin_in
  have b_bin_in := U_bin_in.binds (ps := ["word"]) fun _ _ _ _ _ _ us hl => match us, hl with | [_], _ => rfl
  have g_bin_in := PySem.W.mg_of X G a_bin_in
  have U__law_box := fun_mk (st := topS 24) l__law_box e__law_box k__law_box
  have b__law_box := U__law_box.binds (ps := ["_law_script", "_law_k"]) fun _ _ _ _ _ _ us hl => match us, hl with | [_, _], _ => rfl
  have g__law_box := PySem.W.mg_of X G a__law_box
  have U__law_take := fun_mk (st := topS 25) l__law_take e__law_take k__law_take
  have b__law_take := U__law_take.binds (ps := ["_law_box_here", "_law_size"]) fun _ _ _ _ _ _ us hl => match us, hl with | [_, _], _ => rfl
  have g__law_take := PySem.W.mg_of X G a__law_take
  have U__law_pick := fun_mk (st := topS 26) l__law_pick e__law_pick k__law_pick
  have b__law_pick := U__law_pick.binds (ps := ["_law_box_here", "_law_some"]) fun _ _ _ _ _ _ us hl => match us, hl with | [_, _], _ => rfl
  have g__law_pick := PySem.W.mg_of X G a__law_pick
  have U__law_same := fun_mk (st := topS 27) l__law_same e__law_same k__law_same
  have b__law_same := U__law_same.binds (ps := ["_law_found", "_law_due"]) fun _ _ _ _ _ _ us hl => match us, hl with | [_, _], _ => rfl
  have g__law_same := PySem.W.mg_of X G a__law_same
  have U__law_folded := fun_mk (st := topS 28) l__law_folded e__law_folded k__law_folded
  have b__law_folded := U__law_folded.binds (ps := ["_law_script", "_law_size"]) fun _ _ _ _ _ _ us hl => match us, hl with | [_, _], _ => rfl
  have g__law_folded := PySem.W.mg_of X G a__law_folded
  have U__law_line := fun_mk (st := topS 29) l__law_line e__law_line k__law_line
  have b__law_line := U__law_line.binds (ps := ["_law_box_here", "_law_most", "_law_wide"]) fun _ _ _ _ _ _ us hl => match us, hl with | [_, _, _], _ => rfl
  have g__law_line := PySem.W.mg_of X G a__law_line
  have U__law_gates := fun_mk (st := topS 30) l__law_gates e__law_gates k__law_gates
  have b__law_gates := U__law_gates.binds (ps := ["_law_line_here"]) fun _ _ _ _ _ _ us hl => match us, hl with | [_], _ => rfl
  have g__law_gates := PySem.W.mg_of X G a__law_gates
  have U__law_widths := fun_mk (st := topS 31) l__law_widths e__law_widths k__law_widths
  have b__law_widths := U__law_widths.binds (ps := ["_law_box_here", "_law_line_here", "_law_wide"]) fun _ _ _ _ _ _ us hl => match us, hl with | [_, _, _], _ => rfl
  have g__law_widths := PySem.W.mg_of X G a__law_widths
  have U__law_lying := fun_mk (st := topS 32) l__law_lying e__law_lying k__law_lying
  have b__law_lying := U__law_lying.binds (ps := ["_law_box_here", "_law_line_here"]) fun _ _ _ _ _ _ us hl => match us, hl with | [_, _], _ => rfl
  have g__law_lying := PySem.W.mg_of X G a__law_lying
  have U__law_number := fun_mk (st := topS 33) l__law_number e__law_number k__law_number
  have b__law_number := U__law_number.binds (ps := ["_law_word", "_law_figures"]) fun _ _ _ _ _ _ us hl => match us, hl with | [_, _], _ => rfl
  have g__law_number := PySem.W.mg_of X G a__law_number
  have U__law_spoilt := fun_mk (st := topS 34) l__law_spoilt e__law_spoilt k__law_spoilt
  have b__law_spoilt := U__law_spoilt.binds (ps := ["_law_box_here", "_law_text_here"]) fun _ _ _ _ _ _ us hl => match us, hl with | [_, _], _ => rfl
  have g__law_spoilt := PySem.W.mg_of X G a__law_spoilt
  have U__law_text := fun_mk (st := topS 35) l__law_text e__law_text k__law_text
  have b__law_text := U__law_text.binds (ps := ["_law_line_here", "_law_widths_here", "_law_lot"]) fun _ _ _ _ _ _ us hl => match us, hl with | [_, _, _], _ => rfl
  have g__law_text := PySem.W.mg_of X G a__law_text
  have U__law_bin := fun_mk (st := topS 36) l__law_bin e__law_bin k__law_bin
  have b__law_bin := U__law_bin.binds (ps := ["_law_word"]) fun _ _ _ _ _ _ us hl => match us, hl with | [_], _ => rfl
  have g__law_bin := PySem.W.mg_of X G a__law_bin
  have U__law_read := fun_mk (st := topS 37) l__law_read e__law_read k__law_read
  have b__law_read := U__law_read.binds (ps := ["_law_text_here"]) fun _ _ _ _ _ _ us hl => match us, hl with | [_], _ => rfl
  have g__law_read := PySem.W.mg_of X G a__law_read
  have U__law_told := fun_mk (st := topS 38) l__law_told e__law_told k__law_told
  have b__law_told := U__law_told.binds (ps := ["_law_text_here"]) fun _ _ _ _ _ _ us hl => match us, hl with | [_], _ => rfl
  have g__law_told := PySem.W.mg_of X G a__law_told
  have U__law_right := fun_mk (st := topS 39) l__law_right e__law_right k__law_right
  have b__law_right := U__law_right.binds (ps := ["_law_box_here"]) fun _ _ _ _ _ _ us hl => match us, hl with | [_], _ => rfl
  have g__law_right := PySem.W.mg_of X G a__law_right
  have U_law := fun_mk (st := topS 40) l_law e_law k_law
  have b_law := U_law.binds (ps := ["_law_script"]) fun _ _ _ _ _ _ us hl => match us, hl with | [_], _ => rfl
  have g_law := PySem.W.mg_of X G a_law
  have ti_when : PySem.W.tabIn K "when" = none := tabIn_none ab_when
  have ti_rests_when : PySem.W.tabIn K "rests_when" = none := tabIn_none ab_rests_when
  have ti_slowest : PySem.W.tabIn K "slowest" = none := tabIn_none ab_slowest
  have tabs_eq : tabsOf K = [] := by
    unfold tabsOf lamDefs
    simp only [List.filterMap_cons, List.filterMap_nil, ti_when, ti_rests_when, ti_slowest]
  have tof_eq : Tof K = [] := by
    unfold Tof lamDefs
    simp only [List.filterMap_cons, List.filterMap_nil, Option.map_some, Option.map_none, ti_when, ti_rests_when, ti_slowest]
  refine ⟨fun p hp => (by rw [tabs_eq] at hp; cases hp), ?_⟩
  refine ⟨PySem.W.fnOf "law" "law" (defArgs (topS 40)) (defBody (topS 40)) (defScope (topS 40)) .none kV_law dc_law pm_law an_law cd_law ct_law, fun s v => .of_eq rfl, fun base _ _ tb => ?_⟩
  have N : Nm mg := ⟨PySem.W.mg_none_of X G z_ValueError, PySem.W.mg_none_of X G z_abs, PySem.W.mg_none_of X G z_all, PySem.W.mg_none_of X G z_bool, PySem.W.mg_none_of X G z_enumerate, PySem.W.mg_none_of X G z_int, PySem.W.mg_none_of X G z_isinstance, PySem.W.mg_none_of X G z_len, PySem.W.mg_none_of X G z_list, PySem.W.mg_none_of X G z_range, PySem.W.mg_none_of X G z_str, PySem.W.mg_none_of X G z_tuple, PySem.W.mg_none_of X G z_zip⟩
  have c_FIGURES : ∃ u, mg "FIGURES" = some u ∧ L2.RelV (.str "0123456789") u := ⟨_, PySem.W.mg_of X G y_FIGURES, _, rfl⟩
  have c_LINE_FIGURES : ∃ u, mg "LINE_FIGURES" = some u ∧ L2.RelV (.int 10) u := ⟨_, PySem.W.mg_of X G y_LINE_FIGURES, _, rfl⟩
  have c_RING : ∃ u, mg "RING" = some u ∧ L2.RelV (.str "ring") u := ⟨_, PySem.W.mg_of X G y_RING, _, rfl⟩
  have c_ROW : ∃ u, mg "ROW" = some u ∧ L2.RelV (.str "row") u := ⟨_, PySem.W.mg_of X G y_ROW, _, rfl⟩
  have c_WIDE : ∃ u, mg "WIDE" = some u ∧ L2.RelV (.str "~") u := ⟨_, PySem.W.mg_of X G y_WIDE, _, rfl⟩
  have q_BadDeed : Ex.ca K "BadDeed" = C_BadDeed := Ex.ca_of ax_BadDeed
  have gc_BadDeed : mg "BadDeed" = some (.ref (Ex.ca K "BadDeed")) := by
    rw [q_BadDeed]
    exact PySem.W.mg_of X G ax_BadDeed
  have q_BadRow : Ex.ca K "BadRow" = C_BadRow := Ex.ca_of ax_BadRow
  have gc_BadRow : mg "BadRow" = some (.ref (Ex.ca K "BadRow")) := by
    rw [q_BadRow]
    exact PySem.W.mg_of X G ax_BadRow
  have q_BadWord : Ex.ca K "BadWord" = C_BadWord := Ex.ca_of ax_BadWord
  have gc_BadWord : mg "BadWord" = some (.ref (Ex.ca K "BadWord")) := by
    rw [q_BadWord]
    exact PySem.W.mg_of X G ax_BadWord
  have q_NoStep : Ex.ca K "NoStep" = C_NoStep := Ex.ca_of ax_NoStep
  have gc_NoStep : mg "NoStep" = some (.ref (Ex.ca K "NoStep")) := by
    rw [q_NoStep]
    exact PySem.W.mg_of X G ax_NoStep
  have q_NotAlike : Ex.ca K "NotAlike" = C_NotAlike := Ex.ca_of ax_NotAlike
  have gc_NotAlike : mg "NotAlike" = some (.ref (Ex.ca K "NotAlike")) := by
    rw [q_NotAlike]
    exact PySem.W.mg_of X G ax_NotAlike
  have q_Unlike : Ex.ca K "Unlike" = C_Unlike := Ex.ca_of ax_Unlike
  have gc_Unlike : mg "Unlike" = some (.ref (Ex.ca K "Unlike")) := by
    rw [q_Unlike]
    exact PySem.W.mg_of X G ax_Unlike
  have XF_0 : ∀ x ∈ (["BadWord"] : List Str), ExcC K (Ex.ca K x) := by
    intro x hx
    simp only [List.mem_cons, List.not_mem_nil, or_false] at hx
    rcases hx with rfl
    · rw [q_BadWord]
      exact Ex.isB_ok fx_XF_0_BadWord
  have XF_1 : ∀ x ∈ (["BadWord"] : List Str), PySem.W.exmAny K (.ref (Ex.ca K x)) [.ref (Ex.ca K "BadDeed"), .ref (Ex.ca K "BadRow"), .ref (Ex.ca K "BadWord"), .ref (Ex.ca K "NoStep"), .ref (Ex.ca K "NotAlike"), .ref (Ex.ca K "Unlike")] = some true := by
    intro x hx
    simp only [List.mem_cons, List.not_mem_nil, or_false] at hx
    rcases hx with rfl
    · simp only [List.map_cons, List.map_nil, q_BadDeed, q_BadRow, q_BadWord, q_NoStep, q_NotAlike, q_Unlike]
      exact fx_XF_1_BadWord.trans (by decide +kernel)
  have XF_2 : ∀ x ∈ (["BadWord"] : List Str), PySem.W.kitOne K (.ref (Ex.ca K x)) (.ref (Ex.ca K "BadWord")) = some (decide (x = "BadWord")) := by
    intro x hx
    simp only [List.mem_cons, List.not_mem_nil, or_false] at hx
    rcases hx with rfl
    · simp only [List.map_cons, List.map_nil, q_BadDeed, q_BadRow, q_BadWord, q_NoStep, q_NotAlike, q_Unlike]
      exact fx_XF_2_BadWord.trans (by decide +kernel)
  have XF_3 : ∀ x ∈ (["BadWord"] : List Str), PySem.W.kitOne K (.ref (Ex.ca K x)) (.type "ValueError") = some true := by
    intro x hx
    simp only [List.mem_cons, List.not_mem_nil, or_false] at hx
    rcases hx with rfl
    · simp only [List.map_cons, List.map_nil, q_BadDeed, q_BadRow, q_BadWord, q_NoStep, q_NotAlike, q_Unlike]
      exact fx_XF_3_BadWord.trans (by decide +kernel)
  have XF_4 : ∀ x ∈ (["BadWord"] : List Str), PySem.W.kitAny K (.ref (Ex.ca K x)) ((["BadDeed", "BadRow", "NoStep", "NotAlike", "Unlike"] : List Str).map fun y => .ref (Ex.ca K y)) = some ((["BadDeed", "BadRow", "NoStep", "NotAlike", "Unlike"] : List Str).contains x) := by
    intro x hx
    simp only [List.mem_cons, List.not_mem_nil, or_false] at hx
    rcases hx with rfl
    · simp only [List.map_cons, List.map_nil, q_BadDeed, q_BadRow, q_BadWord, q_NoStep, q_NotAlike, q_Unlike]
      exact fx_XF_4_BadWord.trans (by decide +kernel)
  have XF_5 : ∀ x ∈ (["BadWord"] : List Str), PySem.W.findIn K (.ref (Ex.ca K x)) "at" = some none := by
    intro x hx
    simp only [List.mem_cons, List.not_mem_nil, or_false] at hx
    rcases hx with rfl
    · simp only [List.map_cons, List.map_nil, q_BadDeed, q_BadRow, q_BadWord, q_NoStep, q_NotAlike, q_Unlike]
      exact fx_XF_5_BadWord.trans (by decide +kernel)
  have MX_BadWord : Ex.Mk1 l.prog w K mg base "BadWord" "at" (Ex.ca K "BadWord") := by
    rw [q_BadWord]
    exact mk_BadWord (fun_mk (st := inClass (topS 6) 0) lx_BadWord cx_BadWord kx_BadWord) (Ex.xcB_ok xx_BadWord) nx_BadWord ix_BadWord tx_BadWord vx_ValueError (PySem.W.mg_none_of X G z_ValueError) (PySem.W.mg_of X G ax_BadWord)
  have U__law_pick__x := U__law_pick
  have b__law_pick__x := b__law_pick
  have g__law_pick__x := g__law_pick
  have D_width_text : Df l.prog w K mg base "width_text" ["width"] 1 (spD K 0 F_width_text) := ⟨_, _, ok_width_text U_width_text N c_WIDE, g_width_text, U_width_text.kp, b_width_text⟩
  have D_line_text : Df l.prog w K mg base "line_text" ["line", "widths", "standing"] 2 (spD K 0 F_line_text) := ⟨_, _, ok_line_text U_line_text N c_ROW D_width_text, g_line_text, U_line_text.kp, b_line_text⟩
  have D_is_whole : Df l.prog w K mg base "is_whole" ["words"] 1 (spD K 0 F_is_whole) := ⟨_, _, ok_is_whole U_is_whole N c_ROW, g_is_whole, U_is_whole.kp, b_is_whole⟩
  have D_bin_in : Df l.prog w K mg base "bin_in" ["word"] 1 (spD K 0 F_bin_in) := ⟨_, _, ok_bin_in U_bin_in N, g_bin_in, U_bin_in.kp, b_bin_in⟩
  have D_is_number_text : Df l.prog w K mg base "is_number_text" ["word", "most_figures"] 1 (spD K 0 F_is_number_text) := ⟨_, _, ok_is_number_text U_is_number_text N c_FIGURES, g_is_number_text, U_is_number_text.kp, b_is_number_text⟩
  have D_is_width_text : Df l.prog w K mg base "is_width_text" ["word", "most_figures"] 2 (spD K 0 F_is_width_text) := ⟨_, _, ok_is_width_text U_is_width_text N c_WIDE D_is_number_text, g_is_width_text, U_is_width_text.kp, b_is_width_text⟩
  have D_is_bin_text : Df l.prog w K mg base "is_bin_text" ["word"] 2 (spD K 0 F_is_bin_text) := ⟨_, _, ok_is_bin_text U_is_bin_text N c_LINE_FIGURES D_bin_in D_is_number_text, g_is_bin_text, U_is_bin_text.kp, b_is_bin_text⟩
  have D_can_stand : Df l.prog w K mg base "can_stand" ["word", "at"] 3 (spD K 0 F_can_stand) := ⟨_, _, ok_can_stand U_can_stand N c_LINE_FIGURES c_RING c_ROW D_is_bin_text D_is_width_text, g_can_stand, U_can_stand.kp, b_can_stand⟩
  have D_width_in : Df l.prog w K mg base "width_in" ["word"] 1 (spD K 0 F_width_in) := ⟨_, _, ok_width_in U_width_in N c_WIDE, g_width_in, U_width_in.kp, b_width_in⟩
  have D_line_in : Df l.prog w K mg base "line_in" ["text"] 4 (spD K 0 F_line_in) := ⟨_, _, ok_line_in U_line_in N D_bin_in D_can_stand D_is_whole D_width_in, g_line_in, U_line_in.kp, b_line_in⟩
  have DX_line_in : Ex.DfX l.prog w K mg base "line_in" ["text"] 4 (Ex.spR K 0 R_line_in) := ⟨_, _, okR_line_in U_line_in N D_can_stand D_is_whole MX_BadWord, g_line_in, U_line_in.kp, b_line_in⟩
  have DB_line_in : Ex.DfB l.prog w K mg base "line_in" ["text"] 4 4 (spD K 0 F_line_in) (Ex.spR K 0 R_line_in) := ⟨_, _, ok_line_in U_line_in N D_bin_in D_can_stand D_is_whole D_width_in, okR_line_in U_line_in N D_can_stand D_is_whole MX_BadWord, g_line_in, U_line_in.kp, b_line_in⟩
  have D__law_box : Df l.prog w K mg base "_law_box" ["_law_script", "_law_k"] 1 (spBx K) := ⟨_, _, g_box U__law_box N.len N.abs N.int, g__law_box, U__law_box.kp, b__law_box⟩
  have D__law_take : Df l.prog w K mg base "_law_take" ["_law_box_here", "_law_size"] 1 (spD K 1 F_take) := ⟨_, _, g_take U__law_take, g__law_take, U__law_take.kp, b__law_take⟩
  have D__law_pick : Df l.prog w K mg base "_law_pick" ["_law_box_here", "_law_some"] 2 (spD K 1 F__law_pick) := ⟨_, _, ok__law_pick U__law_pick N D__law_take, g__law_pick, U__law_pick.kp, b__law_pick⟩
  have D__law_pick__x : Df l.prog w K mg base "_law_pick" ["_law_box_here", "_law_some"] 2 (spD K 1 F__law_pick__x) := ⟨_, _, ok__law_pick__x U__law_pick__x N D__law_take, g__law_pick__x, U__law_pick__x.kp, b__law_pick__x⟩
  have D__law_same : Df l.prog w K mg base "_law_same" ["_law_found", "_law_due"] 6 (spD K 0 F_same) := ⟨_, _, g_same U__law_same b__law_same g__law_same ⟨N.isinstance, N.list, N.tuple, N.len, N.all, N.zip, N.str, N.int, N.bool⟩, g__law_same, U__law_same.kp, b__law_same⟩
  have D__law_folded : Df l.prog w K mg base "_law_folded" ["_law_script", "_law_size"] 1 (spFold K 3) := ⟨_, _, g_fold U__law_folded N.list N.enumerate, g__law_folded, U__law_folded.kp, b__law_folded⟩
  have D__law_line : Df l.prog w K mg base "_law_line" ["_law_box_here", "_law_most", "_law_wide"] 3 (spD K 103 F__law_line) := ⟨_, _, ok__law_line U__law_line N D__law_pick D__law_take, g__law_line, U__law_line.kp, b__law_line⟩
  have D__law_gates : Df l.prog w K mg base "_law_gates" ["_law_line_here"] 1 (spD K 0 F__law_gates) := ⟨_, _, ok__law_gates U__law_gates N, g__law_gates, U__law_gates.kp, b__law_gates⟩
  have D__law_widths : Df l.prog w K mg base "_law_widths" ["_law_box_here", "_law_line_here", "_law_wide"] 3 (spD K 202 F__law_widths) := ⟨_, _, ok__law_widths U__law_widths N D__law_gates D__law_pick D__law_take, g__law_widths, U__law_widths.kp, b__law_widths⟩
  have D__law_lying : Df l.prog w K mg base "_law_lying" ["_law_box_here", "_law_line_here"] 3 (spD K 301 F__law_lying) := ⟨_, _, ok__law_lying U__law_lying N D__law_pick D__law_take, g__law_lying, U__law_lying.kp, b__law_lying⟩
  have D__law_number : Df l.prog w K mg base "_law_number" ["_law_word", "_law_figures"] 1 (spD K 0 F__law_number) := ⟨_, _, ok__law_number U__law_number N, g__law_number, U__law_number.kp, b__law_number⟩
  have D__law_spoilt : Df l.prog w K mg base "_law_spoilt" ["_law_box_here", "_law_text_here"] 3 (spD K 7 F__law_spoilt) := ⟨_, _, ok__law_spoilt U__law_spoilt N D__law_pick D__law_pick__x D__law_take, g__law_spoilt, U__law_spoilt.kp, b__law_spoilt⟩
  have D__law_text : Df l.prog w K mg base "_law_text" ["_law_line_here", "_law_widths_here", "_law_lot"] 1 (spD K 0 F__law_text) := ⟨_, _, ok__law_text U__law_text N, g__law_text, U__law_text.kp, b__law_text⟩
  have D__law_bin : Df l.prog w K mg base "_law_bin" ["_law_word"] 2 (spD K 0 F__law_bin) := ⟨_, _, ok__law_bin U__law_bin N D__law_number, g__law_bin, U__law_bin.kp, b__law_bin⟩
  have D__law_read : Df l.prog w K mg base "_law_read" ["_law_text_here"] 3 (spD K 0 F__law_read) := ⟨_, _, ok__law_read U__law_read N D__law_bin D__law_number, g__law_read, U__law_read.kp, b__law_read⟩
  have D__law_told : Df l.prog w K mg base "_law_told" ["_law_text_here"] 5 (spD K 0 F__law_told) := ⟨_, _, ok__law_told U__law_told N D_line_in DB_line_in gc_BadDeed gc_BadRow gc_BadWord gc_NoStep gc_NotAlike gc_Unlike XF_0 XF_1 XF_2 XF_3 XF_4 XF_5, g__law_told, U__law_told.kp, b__law_told⟩
  have D__law_right : Df l.prog w K mg base "_law_right" ["_law_box_here"] 7 (spD K 788 F__law_right) := ⟨_, _, ok__law_right U__law_right N D__law_line D__law_lying D__law_pick D__law_read D__law_same D__law_spoilt D__law_take D__law_text D__law_told D__law_widths D_line_text, g__law_right, U__law_right.kp, b__law_right⟩
  exact ok_law U_law N D__law_box D__law_folded D__law_right
end Kc
open PySem PySem.W PyProof.Rows
set_option maxHeartbeats 0 in
theorem PySem.Challenge.cw_forthback_k81_texts_of_lines_spoilt_holds : PySem.Challenge.rw_forthback_k81_texts_of_lines_spoilt.Holds := by
  w_on; o_law; k_head; (case hw => w_witness2)
  k_fill
  refine Dv.walkGT (l := PySem.Challenge.rw_forthback_k81_texts_of_lines_spoilt) (n := 63) (k := 8) (x := "_law_script") (sp := fun w => Dv.spD _ 157600 Kc.F_law) rfl (by decide) rfl ⟨rfl, by decide, by decide⟩ (fun w h Y => PySem.W.kIn_of Y) ?F (fun w _ a ns hl hT hS => Dv.law_sp (Kc.m_law []) (by decide) hS hT (Kc.law_true ns hl))
  case F =>
    intro w mg fa h Y KX G hmg
    refine' Kc.all_mk KX G hmg ?a_line_text ?l_line_text ?e_line_text ?k_line_text ?a_width_text ?l_width_text ?e_width_text ?k_width_text ?a_line_in ?l_line_in ?e_line_in ?k_line_in ?a_can_stand ?l_can_stand ?e_can_stand ?k_can_stand ?a_is_whole ?l_is_whole ?e_is_whole ?k_is_whole ?a_is_number_text ?l_is_number_text ?e_is_number_text ?k_is_number_text ?a_is_width_text ?l_is_width_text ?e_is_width_text ?k_is_width_text ?a_width_in ?l_width_in ?e_width_in ?k_width_in ?a_is_bin_text ?l_is_bin_text ?e_is_bin_text ?k_is_bin_text ?a_bin_in ?l_bin_in ?e_bin_in ?k_bin_in ?a__law_box ?l__law_box ?e__law_box ?k__law_box ?a__law_take ?l__law_take ?e__law_take ?k__law_take ?a__law_pick ?l__law_pick ?e__law_pick ?k__law_pick ?a__law_same ?l__law_same ?e__law_same ?k__law_same ?a__law_folded ?l__law_folded ?e__law_folded ?k__law_folded ?a__law_line ?l__law_line ?e__law_line ?k__law_line ?a__law_gates ?l__law_gates ?e__law_gates ?k__law_gates ?a__law_widths ?l__law_widths ?e__law_widths ?k__law_widths ?a__law_lying ?l__law_lying ?e__law_lying ?k__law_lying ?a__law_number ?l__law_number ?e__law_number ?k__law_number ?a__law_spoilt ?l__law_spoilt ?e__law_spoilt ?k__law_spoilt ?a__law_text ?l__law_text ?e__law_text ?k__law_text ?a__law_bin ?l__law_bin ?e__law_bin ?k__law_bin ?a__law_read ?l__law_read ?e__law_read ?k__law_read ?a__law_told ?l__law_told ?e__law_told ?k__law_told ?a__law_right ?l__law_right ?e__law_right ?k__law_right ?a_law ?l_law ?e_law ?k_law ?ab_when ?ab_rests_when ?ab_slowest ?ax_BadDeed ?ax_BadRow ?ax_BadWord ?ax_NoStep ?ax_NotAlike ?ax_Unlike ?nx_BadWord ?ix_BadWord ?tx_BadWord ?lx_BadWord ?cx_BadWord ?kx_BadWord ?xx_BadWord ?vx_ValueError ?fx_XF_0_BadWord ?fx_XF_1_BadWord ?fx_XF_2_BadWord ?fx_XF_3_BadWord ?fx_XF_4_BadWord ?fx_XF_5_BadWord ?y_FIGURES ?y_LINE_FIGURES ?y_RING ?y_ROW ?y_WIDE ?z_ValueError ?z_abs ?z_all ?z_bool ?z_enumerate ?z_int ?z_isinstance ?z_len ?z_list ?z_range ?z_str ?z_tuple ?z_zip
    (case a_line_text => k_is)
    (case l_line_text => k_is)
    (case e_line_text => k_is)
    (case k_line_text => k_is)
    (case a_width_text => k_is)
    (case l_width_text => k_is)
    (case e_width_text => k_is)
    (case k_width_text => k_is)
    (case a_line_in => k_is)
    (case l_line_in => k_is)
    (case e_line_in => k_is)
    (case k_line_in => k_is)
    (case a_can_stand => k_is)
    (case l_can_stand => k_is)
    (case e_can_stand => k_is)
    (case k_can_stand => k_is)
    (case a_is_whole => k_is)
    (case l_is_whole => k_is)
    (case e_is_whole => k_is)
    (case k_is_whole => k_is)
    (case a_is_number_text => k_is)
    (case l_is_number_text => k_is)
    (case e_is_number_text => k_is)
    (case k_is_number_text => k_is)
    (case a_is_width_text => k_is)
    (case l_is_width_text => k_is)
    (case e_is_width_text => k_is)
    (case k_is_width_text => k_is)
    (case a_width_in => k_is)
    (case l_width_in => k_is)
    (case e_width_in => k_is)
    (case k_width_in => k_is)
    (case a_is_bin_text => k_is)
    (case l_is_bin_text => k_is)
    (case e_is_bin_text => k_is)
    (case k_is_bin_text => k_is)
    (case a_bin_in => k_is)
    (case l_bin_in => k_is)
    (case e_bin_in => k_is)
    (case k_bin_in => k_is)
    (case a__law_box => k_is)
    (case l__law_box => k_is)
    (case e__law_box => k_is)
    (case k__law_box => k_is)
    (case a__law_take => k_is)
    (case l__law_take => k_is)
    (case e__law_take => k_is)
    (case k__law_take => k_is)
    (case a__law_pick => k_is)
    (case l__law_pick => k_is)
    (case e__law_pick => k_is)
    (case k__law_pick => k_is)
    (case a__law_same => k_is)
    (case l__law_same => k_is)
    (case e__law_same => k_is)
    (case k__law_same => k_is)
    (case a__law_folded => k_is)
    (case l__law_folded => k_is)
    (case e__law_folded => k_is)
    (case k__law_folded => k_is)
    (case a__law_line => k_is)
    (case l__law_line => k_is)
    (case e__law_line => k_is)
    (case k__law_line => k_is)
    (case a__law_gates => k_is)
    (case l__law_gates => k_is)
    (case e__law_gates => k_is)
    (case k__law_gates => k_is)
    (case a__law_widths => k_is)
    (case l__law_widths => k_is)
    (case e__law_widths => k_is)
    (case k__law_widths => k_is)
    (case a__law_lying => k_is)
    (case l__law_lying => k_is)
    (case e__law_lying => k_is)
    (case k__law_lying => k_is)
    (case a__law_number => k_is)
    (case l__law_number => k_is)
    (case e__law_number => k_is)
    (case k__law_number => k_is)
    (case a__law_spoilt => k_is)
    (case l__law_spoilt => k_is)
    (case e__law_spoilt => k_is)
    (case k__law_spoilt => k_is)
    (case a__law_text => k_is)
    (case l__law_text => k_is)
    (case e__law_text => k_is)
    (case k__law_text => k_is)
    (case a__law_bin => k_is)
    (case l__law_bin => k_is)
    (case e__law_bin => k_is)
    (case k__law_bin => k_is)
    (case a__law_read => k_is)
    (case l__law_read => k_is)
    (case e__law_read => k_is)
    (case k__law_read => k_is)
    (case a__law_told => k_is)
    (case l__law_told => k_is)
    (case e__law_told => k_is)
    (case k__law_told => k_is)
    (case a__law_right => k_is)
    (case l__law_right => k_is)
    (case e__law_right => k_is)
    (case k__law_right => k_is)
    (case a_law => k_is)
    (case l_law => k_is)
    (case e_law => k_is)
    (case k_law => k_is)
    (case ab_when => k_is)
    (case ab_rests_when => k_is)
    (case ab_slowest => k_is)
    (case ax_BadDeed => k_is)
    (case ax_BadRow => k_is)
    (case ax_BadWord => k_is)
    (case ax_NoStep => k_is)
    (case ax_NotAlike => k_is)
    (case ax_Unlike => k_is)
    (case nx_BadWord => k_is)
    (case ix_BadWord => k_is)
    (case tx_BadWord => k_is)
    (case lx_BadWord => k_is)
    (case cx_BadWord => k_is)
    (case kx_BadWord => k_is)
    (case xx_BadWord => kernel_rfl)
    (case vx_ValueError => k_is)
    (case fx_XF_0_BadWord => kernel_rfl)
    (case fx_XF_1_BadWord => kernel_rfl)
    (case fx_XF_2_BadWord => kernel_rfl)
    (case fx_XF_3_BadWord => kernel_rfl)
    (case fx_XF_4_BadWord => kernel_rfl)
    (case fx_XF_5_BadWord => kernel_rfl)
    (case y_FIGURES => k_is)
    (case y_LINE_FIGURES => k_is)
    (case y_RING => k_is)
    (case y_ROW => k_is)
    (case y_WIDE => k_is)
    (case z_ValueError => k_is)
    (case z_abs => k_is)
    (case z_all => k_is)
    (case z_bool => k_is)
    (case z_enumerate => k_is)
    (case z_int => k_is)
    (case z_isinstance => k_is)
    (case z_len => k_is)
    (case z_list => k_is)
    (case z_range => k_is)
    (case z_str => k_is)
    (case z_tuple => k_is)
    (case z_zip => k_is)
