import PyProof.Rows.All
import Wide.All
import OpenK.AllK
import Wide.FinOn
import HandS.Base
import HandS.Call
import HandS.List
import HandS.Comp
import HandS.Ends
import HandS.Iter
import HandS.Words
import HandS.TryOnly
import HandS.Evl
import HandS.WordsList
import HandS.IsInst
import HandS.Walk
import HandS.Zip
import HandS.Conv
import HandS.Rev
import HandS.TupMul
import HandS.TupAny
import PyProof.ReprRoads
import KE.GoesMore
import HandS.Style
import HandS.WideBits
import HandS.FltList
import HandS.Wide
import PyProof.WalksMore
import PyProof.SumWalkG
import HandS.TupLe
import PyProof.WalkInts
import PyProof.MinMaxWalk
import PyProof.SeqI3
import KE.KIndexOf
import KE.GoesZip
import KE.GoesEnum
import HandS.Star
import HandS.SortKw
import KE.DataMinMax
import ObjForm.LawKit
import HandS.Deep
import KE.IntBitsLaws
import PyProof.ReprLen
import PySem.Challenge.RW_forthback_k31_whole_far_in_pieces
set_option Elab.async false
set_option linter.all false
set_option maxRecDepth 100000
set_option maxHeartbeats 8000000
/-! Data instead of heaps: what an expression, a statement, a def comes to, told over PyData alone. -/
namespace Dv
open PySem PySem.Spec PyProof.Rows L2
open Classical
abbrev LIM : Nat := 900000000
/-- the heap without some of its addresses -/
noncomputable def rm (H : Hp) (S : Addr → Prop) : Hp := fun a => if S a then none else H a
theorem rm_out {H : Hp} {S : Addr → Prop} {a : Addr} (h : ¬ S a) : rm H S a = H a := if_neg h
theorem rm_some {H : Hp} {S : Addr → Prop} {a : Addr} {o : HO} (h : rm H S a = some o) : ¬ S a ∧ H a = some o := by
  unfold rm at h
  split at h
  · cases h
  · exact ⟨by assumption, h⟩
theorem rm_le {H : Hp} {S : Addr → Prop} : Evl.Ex (rm H S) H := fun a o h => (rm_some h).2
theorem rm_mono {H H' : Hp} {S : Addr → Prop} (e : ∀ a o, ¬ S a → H a = some o → H' a = some o) : Evl.Ex (rm H S) (rm H' S) := fun a o h => by
  obtain ⟨n, g⟩ := rm_some h
  rw [rm_out n]
  exact e a o n g
theorem rm_sub {H : Hp} {S T : Addr → Prop} (h : ∀ a, T a → S a) : Evl.Ex (rm H S) (rm H T) := fun a o g => by
  obtain ⟨n, g⟩ := rm_some g
  rw [rm_out fun z => n (h a z)]
  exact g
theorem rm_ex {H H' : Hp} {S : Addr → Prop} (e : Evl.Ex H H') : Evl.Ex (rm H S) (rm H' S) := rm_mono fun a o _ h => e a o h
mutual
/-- v reads as d; each list is a tracked one -/
inductive Da (K : PySem.W.Frag) (H : Hp) : V → PyData → Prop
  | non : Da K H .non .none
  | bl (b : Bool) : Da K H (.bl b) (.bool b)
  | int (i : Int) : Da K H (.int i) (.int i)
  | str (x : Str) : Da K H (.str x) (.str x)
  | lst {a : Addr} {xs : List V} {ds : List PyData} : H a = some (.lst xs) → DaL K H xs ds → Da K H (.ref a) (.list ds)
  | tup {a : Addr} {xs : List V} {ds : List PyData} : SqT K H a xs → DaL K H xs ds → Da K H (.ref a) (.tuple ds)
inductive DaL (K : PySem.W.Frag) (H : Hp) : List V → List PyData → Prop
  | nil : DaL K H [] []
  | cons {v : V} {vs : List V} {d : PyData} {ds : List PyData} : Da K H v d → DaL K H vs ds → DaL K H (v :: vs) (d :: ds)
end
section
variable {K : PySem.W.Frag} {H H' : Hp} {S : Addr → Prop}
mutual
theorem Da.mono (e : Evl.Ex H H') : ∀ {v : V} {d : PyData}, Da K H v d → Da K H' v d
  | _, _, .non => .non
  | _, _, .bl b => .bl b
  | _, _, .int i => .int i
  | _, _, .str x => .str x
  | _, _, .lst h g => .lst (e _ _ h) (DaL.mono e g)
  | _, _, .tup h g => .tup (Evl.ex_t e h) (DaL.mono e g)
theorem DaL.mono (e : Evl.Ex H H') : ∀ {vs : List V} {ds : List PyData}, DaL K H vs ds → DaL K H' vs ds
  | _, _, .nil => .nil
  | _, _, .cons h g => .cons (Da.mono e h) (DaL.mono e g)
end
mutual
theorem Da.dp : ∀ {v : V} {d : PyData}, Da K H v d → Dp K H v d
  | _, _, .non => .non
  | _, _, .bl b => .bl b
  | _, _, .int i => .int i
  | _, _, .str x => .str x
  | _, _, .lst h g => .lst (.inl (.inl h)) (DaL.dp g)
  | _, _, .tup h g => .tup h (DaL.dp g)
theorem DaL.dp : ∀ {vs : List V} {ds : List PyData}, DaL K H vs ds → DpAll K H vs ds
  | _, _, .nil => .nil
  | _, _, .cons h g => .cons (Da.dp h) (DaL.dp g)
end
theorem DaL.len : ∀ {vs : List V} {ds : List PyData}, DaL K H vs ds → vs.length = ds.length
  | _, _, .nil => rfl
  | _, _, .cons _ g => by rw [List.length_cons, List.length_cons, DaL.len g]
theorem DaL.at_ : ∀ {vs : List V} {ds : List PyData} {i : Nat} {d : PyData}, DaL K H vs ds → ds[i]? = some d → ∃ v, vs[i]? = some v ∧ Da K H v d
  | _, _, _, _, .nil, e => by simp at e
  | _, _, 0, _, .cons h g, e => by
    simp at e
    subst e
    exact ⟨_, rfl, h⟩
  | _, _, i + 1, _, .cons h g, e => DaL.at_ (i := i) g (by simpa using e)
theorem DaL.at' : ∀ {vs : List V} {ds : List PyData} {i : Nat} {v : V}, DaL K H vs ds → vs[i]? = some v → ∃ d, ds[i]? = some d ∧ Da K H v d
  | _, _, _, _, .nil, e => by simp at e
  | _, _, 0, _, .cons h g, e => by
    simp at e
    subst e
    exact ⟨_, rfl, h⟩
  | _, _, i + 1, _, .cons h g, e => DaL.at' (i := i) g (by simpa using e)
theorem DaL.app : ∀ {vs ws : List V} {ds es : List PyData}, DaL K H vs ds → DaL K H ws es → DaL K H (vs ++ ws) (ds ++ es)
  | _, _, _, _, .nil, h => h
  | _, _, _, _, .cons h g, k => .cons h (DaL.app g k)
theorem DaL.of_at : ∀ {vs : List V} {ds : List PyData}, vs.length = ds.length → (∀ (i : Nat) (v : V) (d : PyData), vs[i]? = some v → ds[i]? = some d → Da K H v d) → DaL K H vs ds
  | [], [], _, _ => .nil
  | v :: vs, d :: ds, l, h => .cons (h 0 v d rfl rfl) (DaL.of_at (by simpa using l) fun i x y e g => h (i + 1) x y (by simpa using e) (by simpa using g))
  | [], _ :: _, l, _ => by simp at l
  | _ :: _, [], l, _ => by simp at l
theorem DaL.take {vs : List V} {ds : List PyData} (h : DaL K H vs ds) (n : Nat) : DaL K H (vs.take n) (ds.take n) :=
  .of_at (by rw [List.length_take, List.length_take, h.len]) fun i v d e g => by
    rw [List.getElem?_take] at e g
    split at e <;> rename_i z
    · rw [if_pos z] at g
      obtain ⟨d', k1, k2⟩ := h.at' e
      rw [g] at k1; cases k1
      exact k2
    · cases e
theorem DaL.drop {vs : List V} {ds : List PyData} (h : DaL K H vs ds) (n : Nat) : DaL K H (vs.drop n) (ds.drop n) :=
  .of_at (by rw [List.length_drop, List.length_drop, h.len]) fun i v d e g => by
    rw [List.getElem?_drop] at e g
    obtain ⟨d', k1, k2⟩ := h.at' e
    rw [g] at k1; cases k1
    exact k2
theorem DaL.rev {vs : List V} {ds : List PyData} (h : DaL K H vs ds) : DaL K H vs.reverse ds.reverse := by
  induction h using DaL.rec (motive_1 := fun _ _ _ => True) with
  | non => trivial
  | bl => trivial
  | int => trivial
  | str => trivial
  | lst => trivial
  | tup => trivial
  | nil => exact .nil
  | cons h g _ ih =>
    rw [List.reverse_cons, List.reverse_cons]
    exact ih.app (.cons h .nil)
theorem DaL.set_ {vs : List V} {ds : List PyData} {v : V} {d : PyData} (h : DaL K H vs ds) (j : Nat) (k : Da K H v d) : DaL K H (vs.set j v) (ds.set j d) :=
  .of_at (by rw [List.length_set, List.length_set, h.len]) fun i x y e g => by
    rw [List.getElem?_set] at e g
    by_cases z : j = i
    · rw [if_pos z] at e g
      split at e
      · rename_i l
        cases e
        rw [if_pos (by rw [← h.len]; exact l)] at g
        cases g
        exact k
      · cases e
    · rw [if_neg z] at e g
      obtain ⟨d', k1, k2⟩ := h.at' e
      rw [g] at k1; cases k1
      exact k2
theorem DaL.ints {ns : List Int} : DaL K H (ns.map V.int) (ns.map PyData.int) := by
  induction ns with
  | nil => exact .nil
  | cons n r ih => exact .cons (.int n) ih
theorem DaL.ints_inv : ∀ {ns : List Int} {vs : List V}, DaL K H vs (ns.map PyData.int) → vs = ns.map V.int
  | [], _, .nil => rfl
  | n :: r, _, .cons h g => by
    cases h
    rw [DaL.ints_inv g]
    rfl
theorem DaL.bools_inv : ∀ {bs : List Bool} {vs : List V}, DaL K H vs (bs.map PyData.bool) → vs = bs.map V.bl
  | [], _, .nil => rfl
  | n :: r, _, .cons h g => by
    cases h
    rw [DaL.bools_inv g]
    rfl
theorem DaL.atI {vs : List V} {ds : List PyData} {i : Int} {d : PyData} (h : DaL K H vs ds) (e : L2.atI ds i = some d) : ∃ v, L2.atI vs i = some v ∧ Da K H v d := by
  unfold L2.atI at e ⊢
  rw [h.len]
  cases z : ixN ds.length i with
  | none => rw [z] at e; cases e
  | some j =>
    rw [z] at e
    exact h.at_ e
end
/-- held addresses stand in the heap -/
def Al (S : Addr → Prop) (H : Hp) : Prop := ∀ a, S a → H a ≠ none
theorem Al.ex {S : Addr → Prop} {H H' : Hp} (h : Al S H) (e : Evl.Ex H H') : Al S H' := fun a s => by
  cases z : H a with
  | none => exact absurd z (h a s)
  | some o => rw [e a o z]; simp
theorem Al.new {S : Addr → Prop} {H : Hp} {p : Addr} (h : Al S H) (n : H p = none) : ¬ S p := fun s => h p s n
section
variable {K : PySem.W.Frag} {H : Hp} {S : Addr → Prop} {p : Addr} {xs : List V} {ds : List PyData}
theorem new_tup (al : Al S H) (n : H p = none) (h : DaL K (rm H S) xs ds) : Da K (rm (upd H p (.tup xs)) S) (.ref p) (.tuple ds) := by
  refine .tup (.inl (.inl ?_)) (h.mono (rm_ex (Evl.Ex.new n)))
  rw [rm_out (al.new n), upd_same]
theorem new_lst (al : Al S H) (n : H p = none) (h : DaL K (rm H S) xs ds) : Da K (rm (upd H p (.lst xs)) S) (.ref p) (.list ds) := by
  refine .lst ?_ (h.mono (rm_ex (Evl.Ex.new n)))
  rw [rm_out (al.new n), upd_same]
end
/-- v reads as d, v itself maybe a list that is still being made -/
inductive Vw (K : PySem.W.Frag) (b : Option Addr) (S : Addr → Prop) (H : Hp) : V → PyData → Prop
  | st {v : V} {d : PyData} : Da K (rm H S) v d → Vw K b S H v d
  | ow {p : Addr} {vs : List V} {ds : List PyData} : b ≠ some p → H p = some (.lst vs) → DaL K (rm H S) vs ds → Vw K b S H (.ref p) (.list ds)
section
variable {K : PySem.W.Frag} {b : Option Addr} {H H' : Hp} {S : Addr → Prop} {v : V} {d : PyData} {ds : List PyData}
theorem Vw.dp (h : Vw K b S H v d) : Dp K H v d := by
  cases h with
  | st h => exact (h.mono rm_le).dp
  | ow _ h g => exact .lst (.inl (.inl h)) (g.mono rm_le).dp
theorem Vw.list (h : Vw K b S H v (.list ds)) : ∃ p vs, v = .ref p ∧ H p = some (.lst vs) ∧ DaL K (rm H S) vs ds := by
  cases h with
  | st h =>
    cases h with
    | lst h g => exact ⟨_, _, rfl, rm_le _ _ h, g⟩
  | ow _ h g => exact ⟨_, _, rfl, h, g⟩
theorem Vw.tuple (h : Vw K b S H v (.tuple ds)) : ∃ p vs, v = .ref p ∧ SqT K H p vs ∧ DaL K (rm H S) vs ds := by
  cases h with
  | st h =>
    cases h with
    | tup h g => exact ⟨_, _, rfl, Evl.ex_t rm_le h, g⟩
theorem Vw.int {i : Int} (h : Vw K b S H v (.int i)) : v = .int i := by
  cases h with
  | st h => cases h; rfl
theorem Vw.bool {k : Bool} (h : Vw K b S H v (.bool k)) : v = .bl k := by
  cases h with
  | st h => cases h; rfl
theorem Vw.str {x : Str} (h : Vw K b S H v (.str x)) : v = .str x := by
  cases h with
  | st h => cases h; rfl
theorem Vw.none (h : Vw K b S H v .none) : v = .non := by
  cases h with
  | st h => cases h; rfl
end
def flat : PyData → Bool
  | .none => true
  | .bool _ => true
  | .int _ => true
  | .str _ => true
  | _ => false
theorem Da.flat {K : PySem.W.Frag} {H H' : Hp} {v : V} {d : PyData} (h : Da K H v d) (f : Dv.flat d = true) : Da K H' v d := by
  cases h with
  | non => exact .non
  | bl b => exact .bl b
  | int i => exact .int i
  | str x => exact .str x
  | lst _ _ => cases f
  | tup _ _ => cases f
/-- by a value kept, or by a value looked at -/
def VD (md : Bool) (K : PySem.W.Frag) (b : Option Addr) (S : Addr → Prop) (H : Hp) (v : V) (d : PyData) : Prop := match md with
  | true => Da K (rm H S) v d
  | false => Vw K b S H v d
theorem VD.vw {md : Bool} {K : PySem.W.Frag} {b : Option Addr} {S : Addr → Prop} {H : Hp} {v : V} {d : PyData} (h : VD md K b S H v d) : Vw K b S H v d := by
  cases md with
  | true => exact .st h
  | false => exact h
/-- the box, at most m numbers drawn by reckoning -/
def BxO : Option Addr → Hp → Nat → Prop
  | none, _, _ => True
  | some b, H, m => ∃ x y z : Int, 0 ≤ x ∧ 0 ≤ y ∧ y < 1000000000000 ∧ 0 ≤ z ∧ z ≤ m ∧ H b = some (.lst [.int x, .int y, .int z])
/-- all but the box is as it was -/
def Stp (b : Option Addr) (H H' : Hp) : Prop := ∀ c o, b ≠ some c → H c = some o → H' c = some o
section
variable {K : PySem.W.Frag} {b : Option Addr} {S : Addr → Prop} {H H1 H2 H' : Hp} {m n : Nat} {v : V} {d : PyData} {md : Bool}
theorem Stp.refl : Stp b H H := fun _ _ _ h => h
theorem Stp.trans (h : Stp b H H1) (g : Stp b H1 H2) : Stp b H H2 := fun c o n e => g c o n (h c o n e)
theorem Stp.ex (e : Evl.Ex H H') : Stp b H H' := fun c o _ h => e c o h
theorem BxO.ex (h : BxO b H m) (e : Evl.Ex H H') : BxO b H' m := by
  cases b with
  | none => trivial
  | some b =>
    obtain ⟨x, y, z, h1, h2, h3, h4, h5, h6⟩ := h
    exact ⟨x, y, z, h1, h2, h3, h4, h5, e _ _ h6⟩
theorem BxO.le (h : BxO b H m) (l : m ≤ n) : BxO b H n := by
  cases b with
  | none => trivial
  | some b =>
    obtain ⟨x, y, z, h1, h2, h3, h4, h5, h6⟩ := h
    exact ⟨x, y, z, h1, h2, h3, h4, by omega, h6⟩
theorem Stp.rm (h : Stp b H H') (bs : ∀ p, b = some p → S p) : Evl.Ex (rm H S) (rm H' S) := rm_mono fun a o n g => h a o (fun e => n (bs a e)) g
theorem Vw.step (h : Vw K b S H v d) (st : Stp b H H') (bs : ∀ p, b = some p → S p) : Vw K b S H' v d := by
  cases h with
  | st h => exact .st (h.mono (st.rm bs))
  | ow n h g => exact .ow n (st _ _ n h) (g.mono (st.rm bs))
theorem VD.step (h : VD md K b S H v d) (st : Stp b H H') (bs : ∀ p, b = some p → S p) : VD md K b S H' v d := by
  cases md with
  | true => exact Da.mono (st.rm bs) h
  | false => exact Vw.step h st bs
end
/-- what stands in a slot, told by its data -/
inductive Sl where
  | no
  | dt (d : PyData)
  | own (ds : List PyData)
  | box
  | scr (ns : List Int)
def SlR (K : PySem.W.Frag) (b : Option Addr) (S : Addr → Prop) (H : Hp) (x : Option (Option V)) : Sl → Prop
  | .no => True
  | .dt d => ∃ v, x = some (some v) ∧ Da K (rm H S) v d
  | .own ds => ∃ p vs, x = some (some (.ref p)) ∧ S p ∧ b ≠ some p ∧ H p = some (.lst vs) ∧ DaL K (rm H S) vs ds
  | .box => ∃ p, x = some (some (.ref p)) ∧ b = some p
  | .scr ns => ∃ p, x = some (some (.ref p)) ∧ SqL K (rm H S) p (ns.map V.int)
structure DEnv (K : PySem.W.Frag) (b : Option Addr) (S : Addr → Prop) (m : Nat) (H : Hp) (σ : L2.St) (ρ : List Sl) : Prop where
  len : σ.length = ρ.length
  sl : ∀ (i : Nat) (s : Sl), ρ[i]? = some s → SlR K b S H σ[i]? s
  bx : BxO b H m
  bs : ∀ p, b = some p → S p
  al : Al S H
section
variable {K : PySem.W.Frag} {b : Option Addr} {S : Addr → Prop} {H H' : Hp} {m n : Nat} {σ : L2.St} {ρ : List Sl}
theorem SlR.step {x : Option (Option V)} {s : Sl} (h : SlR K b S H x s) (st : Stp b H H') (bs : ∀ p, b = some p → S p) : SlR K b S H' x s := by
  cases s with
  | no => trivial
  | dt d =>
    obtain ⟨v, e, g⟩ := h
    exact ⟨v, e, g.mono (st.rm bs)⟩
  | own ds =>
    obtain ⟨p, vs, e, s1, n, g, k⟩ := h
    exact ⟨p, vs, e, s1, n, st _ _ n g, k.mono (st.rm bs)⟩
  | box => exact h
  | scr ns =>
    obtain ⟨p, e, g⟩ := h
    exact ⟨p, e, Evl.ex_l (st.rm bs) g⟩
theorem Al.step (h : Al S H) (st : Stp b H H') (bx : BxO b H' n) : Al S H' := fun a s => by
  by_cases z : b = some a
  · subst z
    obtain ⟨_, _, _, _, _, _, _, _, e⟩ := bx
    rw [e]
    simp
  · cases q : H a with
    | none => exact absurd q (h a s)
    | some o => rw [st a o z q]; simp
theorem DEnv.step (h : DEnv K b S m H σ ρ) (st : Stp b H H') (bx : BxO b H' n) : DEnv K b S n H' σ ρ :=
  ⟨h.len, fun i s e => (h.sl i s e).step st h.bs, bx, h.bs, h.al.step st bx⟩
theorem DEnv.le (h : DEnv K b S m H σ ρ) (l : m ≤ n) : DEnv K b S n H σ ρ := ⟨h.len, h.sl, h.bx.le l, h.bs, h.al⟩
end
abbrev FE := List Sl → (PyData → Prop) → Prop
structure Snd (md : Bool) (K : PySem.W.Frag) (t : TE) (c : Nat) (f : FE) : Prop where
  mono : ∀ (ρ : List Sl) (P P' : PyData → Prop), (∀ d, P d → P' d) → f ρ P → f ρ P'
  run : ∀ (b : Option Addr) (S : Addr → Prop) (m : Nat) (σ : L2.St) (H : Hp) (ρ : List Sl) (Q : VK), DEnv K b S m H σ ρ → m + c ≤ LIM →
    f ρ (fun d => ∀ v H', Stp b H H' → BxO b H' (m + c) → VD md K b S H' v d → Q v H') → t σ H Q
theorem Snd.go {md : Bool} {K : PySem.W.Frag} {t : TE} {c : Nat} {f : FE} (a : Snd md K t c f) {b : Option Addr} {S : Addr → Prop} {m : Nat} {σ : L2.St} {H : Hp} {ρ : List Sl} {Q : VK} {P : PyData → Prop} (E : DEnv K b S m H σ ρ) (hm : m + c ≤ LIM) (hf : f ρ P)
    (k : ∀ d v H', P d → Stp b H H' → BxO b H' (m + c) → VD md K b S H' v d → Q v H') : t σ H Q :=
  a.run b S m σ H ρ Q E hm (a.mono ρ _ _ (fun d p v H' s x y => k d v H' p s x y) hf)
theorem Snd.v {md : Bool} {K : PySem.W.Frag} {t : TE} {c : Nat} {f : FE} (a : Snd md K t c f) : Snd false K t c f :=
  ⟨a.mono, fun b S m σ H ρ Q E hm hf => a.go E hm hf fun d v H' p st bx vd => p v H' st bx vd.vw⟩
end Dv
namespace Dv
open PySem PySem.Spec PyProof.Rows L2
open Classical
abbrev FT := List Sl → (Bool → Prop) → Prop
abbrev FD := List Sl → (List PyData → Prop) → Prop
abbrev FA := List Sl → (List Sl → Prop) → Prop
structure SndT (K : PySem.W.Frag) (t : TT) (c : Nat) (f : FT) : Prop where
  mono : ∀ (ρ : List Sl) (P P' : Bool → Prop), (∀ d, P d → P' d) → f ρ P → f ρ P'
  go : ∀ {b : Option Addr} {S : Addr → Prop} {m : Nat} {σ : L2.St} {H : Hp} {ρ : List Sl} {Q : Bool → Hp → Prop} {P : Bool → Prop}, DEnv K b S m H σ ρ → m + c ≤ LIM → f ρ P →
    (∀ k H', P k → Stp b H H' → BxO b H' (m + c) → Q k H') → t σ H Q
inductive VwL (md : Bool) (K : PySem.W.Frag) (b : Option Addr) (S : Addr → Prop) (H : Hp) : List V → List PyData → Prop
  | nil : VwL md K b S H [] []
  | cons {v : V} {vs : List V} {d : PyData} {ds : List PyData} : VD md K b S H v d → VwL md K b S H vs ds → VwL md K b S H (v :: vs) (d :: ds)
theorem VwL.dal {K : PySem.W.Frag} {b : Option Addr} {S : Addr → Prop} {H : Hp} : ∀ {vs : List V} {ds : List PyData}, VwL true K b S H vs ds → DaL K (rm H S) vs ds
  | _, _, .nil => .nil
  | _, _, .cons h g => .cons h (VwL.dal g)
structure SndD (md : Bool) (K : PySem.W.Frag) (t : TA) (n : Nat) (c : Nat) (f : FD) : Prop where
  mono : ∀ (ρ : List Sl) (P P' : List PyData → Prop), (∀ d, P d → P' d) → f ρ P → f ρ P'
  go : ∀ {b : Option Addr} {S : Addr → Prop} {m : Nat} {σ : L2.St} {H : Hp} {ρ : List Sl} {Q : List V → Hp → Prop} {P : List PyData → Prop}, DEnv K b S m H σ ρ → m + c ≤ LIM → f ρ P →
    (∀ ds vs H', P ds → vs.length = n → Stp b H H' → BxO b H' (m + c) → VwL md K b S H' vs ds → Q vs H') → t σ H Q
/-- what is handed to a def -/
def ArgR (K : PySem.W.Frag) (b : Option Addr) (S : Addr → Prop) (H : Hp) (v : V) : Sl → Prop
  | .dt d => Da K (rm H S) v d
  | .box => ∃ p, v = .ref p ∧ b = some p
  | .scr ns => ∃ p, v = .ref p ∧ SqL K (rm H S) p (ns.map V.int)
  | _ => False
inductive ArgL (K : PySem.W.Frag) (b : Option Addr) (S : Addr → Prop) (H : Hp) : List V → List Sl → Prop
  | nil : ArgL K b S H [] []
  | cons {v : V} {vs : List V} {s : Sl} {as : List Sl} : ArgR K b S H v s → ArgL K b S H vs as → ArgL K b S H (v :: vs) (s :: as)
structure SndA (K : PySem.W.Frag) (t : TA) (c : Nat) (f : FA) : Prop where
  mono : ∀ (ρ : List Sl) (P P' : List Sl → Prop), (∀ d, P d → P' d) → f ρ P → f ρ P'
  go : ∀ {b : Option Addr} {S : Addr → Prop} {m : Nat} {σ : L2.St} {H : Hp} {ρ : List Sl} {Q : List V → Hp → Prop} {P : List Sl → Prop}, DEnv K b S m H σ ρ → m + c ≤ LIM → f ρ P →
    (∀ as vs H', P as → Stp b H H' → BxO b H' (m + c) → ArgL K b S H' vs as → Q vs H') → t σ H Q
theorem mk_snd {md : Bool} {K : PySem.W.Frag} {t : TE} {c : Nat} {f : FE} (mono : ∀ (ρ : List Sl) (P P' : PyData → Prop), (∀ d, P d → P' d) → f ρ P → f ρ P')
    (go : ∀ {b : Option Addr} {S : Addr → Prop} {m : Nat} {σ : L2.St} {H : Hp} {ρ : List Sl} {Q : VK} {P : PyData → Prop}, DEnv K b S m H σ ρ → m + c ≤ LIM → f ρ P →
      (∀ d v H', P d → Stp b H H' → BxO b H' (m + c) → VD md K b S H' v d → Q v H') → t σ H Q) : Snd md K t c f :=
  ⟨mono, fun b S m σ H ρ Q E hm hf => go E hm hf fun d v H' p s x y => p v H' s x y⟩
section
variable {K : PySem.W.Frag} {md md2 : Bool} {ta tb : TE} {ca cb c : Nat} {fa fb : FE}
/-! names, constants -/
abbrev eVar (i : Nat) : FE := fun ρ Q => match ρ[i]? with
  | some (.dt d) => Q d
  | _ => False
abbrev eVarV (i : Nat) : FE := fun ρ Q => match ρ[i]? with
  | some (.dt d) => Q d
  | some (.own ds) => Q (.list ds)
  | _ => False
theorem snd_var {i : Nat} : Snd true K (tVar i) 0 (eVar i) := mk_snd
  (fun ρ P P' h g => by
    unfold eVar at g ⊢
    split at g
    · exact h _ g
    · exact g.elim)
  (fun {b S m σ H ρ Q P} E hm hf k => by
    unfold eVar at hf
    split at hf
    · rename_i d e
      obtain ⟨v, e1, e2⟩ := E.sl i _ e
      exact ⟨v, e1, k d v H hf Stp.refl E.bx e2⟩
    · exact hf.elim)
theorem sndV_var {i : Nat} : Snd false K (tVar i) 0 (eVarV i) := mk_snd
  (fun ρ P P' h g => by
    unfold eVarV at g ⊢
    split at g
    · exact h _ g
    · exact h _ g
    · exact g.elim)
  (fun {b S m σ H ρ Q P} E hm hf k => by
    unfold eVarV at hf
    split at hf
    · rename_i d e
      obtain ⟨v, e1, e2⟩ := E.sl i _ e
      exact ⟨v, e1, k d v H hf Stp.refl E.bx (.st e2)⟩
    · rename_i ds e
      obtain ⟨p, vs, e1, e2, e3, e4, e5⟩ := E.sl i _ e
      exact ⟨.ref p, e1, k _ _ H hf Stp.refl E.bx (.ow e3 e4 e5)⟩
    · exact hf.elim)
abbrev eC (d : PyData) : FE := fun _ Q => Q d
theorem snd_int {i : Int} : Snd true K (tC (.int i)) 0 (eC (.int i)) := mk_snd (fun ρ P P' h g => h _ g) (fun E hm hf k => k _ _ _ hf Stp.refl E.bx (.int i))
theorem snd_bl {i : Bool} : Snd true K (tC (.bl i)) 0 (eC (.bool i)) := mk_snd (fun ρ P P' h g => h _ g) (fun E hm hf k => k _ _ _ hf Stp.refl E.bx (.bl i))
theorem snd_str {i : Str} : Snd true K (tC (.str i)) 0 (eC (.str i)) := mk_snd (fun ρ P P' h g => h _ g) (fun E hm hf k => k _ _ _ hf Stp.refl E.bx (.str i))
theorem snd_non : Snd true K (tC .non) 0 (eC .none) := mk_snd (fun ρ P P' h g => h _ g) (fun E hm hf k => k _ _ _ hf Stp.refl E.bx .non)
/-! two operands -/
structure OpSnd (K : PySem.W.Frag) (r : R2) (g : PyData → PyData → (PyData → Prop) → Prop) : Prop where
  mono : ∀ x y (P P' : PyData → Prop), (∀ d, P d → P' d) → g x y P → g x y P'
  run : ∀ {b : Option Addr} {S : Addr → Prop} {H : Hp} {x y : V} {dx dy : PyData} {Q : VK} {P : PyData → Prop}, Al S H → Vw K b S H x dx → Vw K b S H y dy → g dx dy P →
    (∀ d v H', P d → Evl.Ex H H' → Da K (rm H' S) v d → Q v H') → r x y H Q
abbrev eBin (g : PyData → PyData → (PyData → Prop) → Prop) (fa fb : FE) : FE := fun ρ Q => fa ρ fun x => fb ρ fun y => g x y Q
theorem snd_op {r : R2} {g : PyData → PyData → (PyData → Prop) → Prop} (o : OpSnd K r g) (a : Snd md K ta ca fa) (b : Snd md2 K tb cb fb) : Snd true K (tOp r ta tb) (ca + cb) (eBin g fa fb) := mk_snd
  (fun ρ P P' h q => a.mono _ _ _ (fun x => b.mono _ _ _ fun y => o.mono x y _ _ h) q)
  (fun E hm hf k => a.go E (by omega) hf fun x vx H1 h1 s1 b1 d1 => b.go (E.step s1 b1) (by omega) h1 fun y vy H2 h2 s2 b2 d2 =>
    o.run ((E.step s1 b1).step s2 b2).al (d1.vw.step s2 E.bs) d2.vw h2 fun d v H' p e q => k d v H' p ((s1.trans s2).trans (Stp.ex e)) ((b2.ex e).le (by omega)) q)
/-! one operand -/
structure UnSnd (K : PySem.W.Frag) (r : V → Hp → VK → Prop) (g : PyData → (PyData → Prop) → Prop) : Prop where
  mono : ∀ x (P P' : PyData → Prop), (∀ d, P d → P' d) → g x P → g x P'
  run : ∀ {b : Option Addr} {S : Addr → Prop} {H : Hp} {x : V} {dx : PyData} {Q : VK} {P : PyData → Prop}, Al S H → Vw K b S H x dx → g dx P →
    (∀ d v H', P d → Evl.Ex H H' → Da K (rm H' S) v d → Q v H') → r x H Q
abbrev eUn (g : PyData → (PyData → Prop) → Prop) (fa : FE) : FE := fun ρ Q => fa ρ fun x => g x Q
theorem snd_un0 {r : V → Hp → VK → Prop} {g : PyData → (PyData → Prop) → Prop} (o : UnSnd K r g) (a : Snd md K ta ca fa) : Snd true K (fun σ H Q => ta σ H fun x H1 => r x H1 Q) ca (eUn g fa) := mk_snd
  (fun ρ P P' h q => a.mono _ _ _ (fun x => o.mono x _ _ h) q)
  (fun E hm hf k => a.go E (by omega) hf fun x vx H1 h1 s1 b1 d1 =>
    o.run (E.step s1 b1).al d1.vw h1 fun d v H' p e q => k d v H' p (s1.trans (Stp.ex e)) (b1.ex e) q)
theorem snd_un {r : V → Hp → VK → Prop} {g : PyData → (PyData → Prop) → Prop} (o : UnSnd K r g) (a : Snd md K ta ca fa) : Snd true K (tUn r ta) ca (eUn g fa) := snd_un0 (r := r) o a
/-! tests -/
abbrev asB (Q : Bool → Prop) : PyData → Prop
  | .bool k => Q k
  | _ => False
theorem asB_mono {P P' : Bool → Prop} (h : ∀ k, P k → P' k) : ∀ d, asB P d → asB P' d := fun d g => by
  cases d <;> first | exact h _ g | exact g.elim
abbrev fTest (f : FE) : FT := fun ρ Q => f ρ (asB Q)
theorem asB_of {md : Bool} {b : Option Addr} {S : Addr → Prop} {H : Hp} {Q : Bool → Prop} {d : PyData} {v : V} (h : asB Q d) (g : VD md K b S H v d) : ∃ k, v = .bl k ∧ Q k := by
  cases d with
  | bool k => exact ⟨k, g.vw.bool, h⟩
  | _ => exact h.elim
theorem sndt_test (a : Snd md K ta ca fa) : SndT K (tTest ta) ca (fTest fa) :=
  ⟨fun ρ P P' h g => a.mono _ _ _ (asB_mono h) g, fun E hm hf k => a.go E hm hf fun d v H' p s x y => by
    obtain ⟨q, rfl, z⟩ := asB_of p y
    exact ⟨q, rfl, k q H' z s x⟩⟩
theorem sndt_B (a : Snd md K ta ca fa) : SndT K (tB ta) ca (fTest fa) :=
  ⟨fun ρ P P' h g => a.mono _ _ _ (asB_mono h) g, fun E hm hf k => a.go E hm hf fun d v H' p s x y => by
    obtain ⟨q, rfl, z⟩ := asB_of p y
    exact ⟨q, rfl, k q H' z s x⟩⟩
abbrev truD (Q : Bool → Prop) : PyData → Prop
  | .none => Q false
  | .bool k => Q k
  | .int i => Q (i != 0)
  | .list ds => Q (!ds.isEmpty)
  | .tuple ds => Q (!ds.isEmpty)
  | _ => False
theorem DaL.empty {H : Hp} {vs : List V} {ds : List PyData} (h : DaL K H vs ds) : (!vs.isEmpty) = !ds.isEmpty := by
  cases h <;> rfl
theorem truD_mono {P P' : Bool → Prop} (h : ∀ k, P k → P' k) : ∀ d, truD P d → truD P' d := fun d g => by
  cases d <;> first | exact h _ g | exact g.elim
abbrev fTru (f : FE) : FT := fun ρ Q => f ρ (truD Q)
theorem sndt_tru (a : Snd md K ta ca fa) : SndT K (fun σ H Q => ta σ H fun x H' => ∃ k, TruV K x H' k ∧ Q k H') ca (fTru fa) :=
  ⟨fun ρ P P' h g => a.mono _ _ _ (truD_mono h) g, fun E hm hf k => a.go E hm hf fun d v H' p s x y => by
    have y := y.vw
    cases d with
    | none => rw [y.none]; exact ⟨false, rfl, k _ _ p s x⟩
    | bool q => rw [y.bool]; exact ⟨q, rfl, k _ _ p s x⟩
    | int i => rw [y.int]; exact ⟨_, rfl, k _ _ p s x⟩
    | list ds =>
      obtain ⟨q, vs, rfl, e, g⟩ := y.list
      exact ⟨_, .inl ⟨vs, .inl (.inl e), rfl⟩, by rw [g.empty]; exact k _ _ p s x⟩
    | tuple ds =>
      obtain ⟨q, vs, rfl, e, g⟩ := y.tuple
      exact ⟨_, .inr (.inl ⟨vs, e, rfl⟩), by rw [g.empty]; exact k _ _ p s x⟩
    | str _ => exact p.elim
    | dict _ => exact p.elim⟩
abbrev fAnd (f g : FT) : FT := fun ρ Q => f ρ fun k => if k = true then g ρ Q else Q false
abbrev fOr (f g : FT) : FT := fun ρ Q => f ρ fun k => if k = true then Q true else g ρ Q
abbrev fNot (f : FT) : FT := fun ρ Q => f ρ fun k => Q (!k)
variable {tt tu : TT} {ft fu : FT} {ct cu : Nat}
theorem sndt_and (a : SndT K tt ct ft) (b : SndT K tu cu fu) : SndT K (tAnd tt tu) (ct + cu) (fAnd ft fu) :=
  ⟨fun ρ P P' h g => a.mono _ _ _ (fun k q => by
      cases k with
      | true => exact b.mono _ _ _ h q
      | false => exact h _ q) g,
   fun E hm hf k => a.go E (by omega) hf fun q H1 p s1 b1 => by
    cases q with
    | true => exact b.go (E.step s1 b1) (by omega) p fun q2 H2 p2 s2 b2 => k _ _ p2 (s1.trans s2) (b2.le (by omega))
    | false => exact k _ _ p s1 (b1.le (by omega))⟩
theorem sndt_or (a : SndT K tt ct ft) (b : SndT K tu cu fu) : SndT K (tOr tt tu) (ct + cu) (fOr ft fu) :=
  ⟨fun ρ P P' h g => a.mono _ _ _ (fun k q => by
      cases k with
      | false => exact b.mono _ _ _ h q
      | true => exact h _ q) g,
   fun E hm hf k => a.go E (by omega) hf fun q H1 p s1 b1 => by
    cases q with
    | false => exact b.go (E.step s1 b1) (by omega) p fun q2 H2 p2 s2 b2 => k _ _ p2 (s1.trans s2) (b2.le (by omega))
    | true => exact k _ _ p s1 (b1.le (by omega))⟩
theorem sndt_not (a : SndT K tt ct ft) : SndT K (tNot tt) ct (fNot ft) :=
  ⟨fun ρ P P' h g => a.mono _ _ _ (fun k q => h _ q) g, fun E hm hf k => a.go E hm hf fun q H1 p s1 b1 => k _ _ p s1 b1⟩
/-! and, or, not as values (of truths) -/
abbrev eAnd (f g : FE) : FE := fun ρ Q => f ρ (asB fun k => if k = true then g ρ Q else Q (.bool false))
abbrev eOr (f g : FE) : FE := fun ρ Q => f ρ (asB fun k => if k = true then Q (.bool true) else g ρ Q)
abbrev eNot (f : FE) : FE := fun ρ Q => f ρ (asB fun k => Q (.bool (!k)))
theorem snd_and (a : Snd md K ta ca fa) (b : Snd true K tb cb fb) : Snd true K (tAndV ta tb) (ca + cb) (eAnd fa fb) := mk_snd
  (fun ρ P P' h q => a.mono _ _ _ (asB_mono fun k z => by
      cases k with
      | true => exact b.mono _ _ _ h z
      | false => exact h _ z) q)
  (fun E hm hf k => a.go E (by omega) hf fun x vx H1 h1 s1 b1 d1 => by
    obtain ⟨q, rfl, z⟩ := asB_of h1 d1
    refine ⟨q, rfl, ?_⟩
    cases q with
    | true => exact b.go (E.step s1 b1) (by omega) z fun y vy H2 h2 s2 b2 d2 => k _ _ _ h2 (s1.trans s2) (b2.le (by omega)) d2
    | false => exact k _ _ _ z s1 (b1.le (by omega)) (.bl false))
theorem snd_or (a : Snd md K ta ca fa) (b : Snd true K tb cb fb) : Snd true K (tOrV ta tb) (ca + cb) (eOr fa fb) := mk_snd
  (fun ρ P P' h q => a.mono _ _ _ (asB_mono fun k z => by
      cases k with
      | false => exact b.mono _ _ _ h z
      | true => exact h _ z) q)
  (fun E hm hf k => a.go E (by omega) hf fun x vx H1 h1 s1 b1 d1 => by
    obtain ⟨q, rfl, z⟩ := asB_of h1 d1
    refine ⟨q, rfl, ?_⟩
    cases q with
    | false => exact b.go (E.step s1 b1) (by omega) z fun y vy H2 h2 s2 b2 d2 => k _ _ _ h2 (s1.trans s2) (b2.le (by omega)) d2
    | true => exact k _ _ _ z s1 (b1.le (by omega)) (.bl true))
theorem snd_not (a : Snd md K ta ca fa) : Snd true K (tNotV ta) ca (eNot fa) := mk_snd
  (fun ρ P P' h q => a.mono _ _ _ (asB_mono fun k z => h _ z) q)
  (fun E hm hf k => a.go E (by omega) hf fun x vx H1 h1 s1 b1 d1 => by
    obtain ⟨q, rfl, z⟩ := asB_of h1 d1
    exact ⟨q, rfl, k _ _ _ z s1 b1 (.bl _)⟩)
abbrev eIf (t : FT) (f g : FE) : FE := fun ρ Q => t ρ fun k => if k = true then f ρ Q else g ρ Q
theorem snd_if (t : SndT K tt ct ft) (a : Snd true K ta ca fa) (b : Snd true K tb cb fb) : Snd true K (tIf tt ta tb) (ct + (ca + cb)) (eIf ft fa fb) := mk_snd
  (fun ρ P P' h q => t.mono _ _ _ (fun k z => by
      cases k with
      | true => exact a.mono _ _ _ h z
      | false => exact b.mono _ _ _ h z) q)
  (fun E hm hf k => t.go E (by omega) hf fun q H1 p s1 b1 => by
    cases q with
    | true => exact a.go (E.step s1 b1) (by omega) p fun y vy H2 h2 s2 b2 d2 => k _ _ _ h2 (s1.trans s2) (b2.le (by omega)) d2
    | false => exact b.go (E.step s1 b1) (by omega) p fun y vy H2 h2 s2 b2 d2 => k _ _ _ h2 (s1.trans s2) (b2.le (by omega)) d2)
/-! lists of expressions -/
abbrev dNil : FD := fun _ Q => Q []
abbrev dCons (f : FE) (g : FD) : FD := fun ρ Q => f ρ fun d => g ρ fun ds => Q (d :: ds)
theorem VwL.step {b : Option Addr} {S : Addr → Prop} {H H' : Hp} (st : Stp b H H') (bs : ∀ p, b = some p → S p) : ∀ {vs : List V} {ds : List PyData}, VwL md K b S H vs ds → VwL md K b S H' vs ds
  | _, _, .nil => .nil
  | _, _, .cons h g => .cons (h.step st bs) (VwL.step st bs g)
theorem sndd_nil : SndD md K tNil 0 0 dNil := ⟨fun ρ P P' h g => h _ g, fun E hm hf k => k _ _ _ hf rfl Stp.refl E.bx .nil⟩
variable {tr : TA} {fr : FD} {n cr : Nat}
theorem sndd_cons (a : Snd md K ta ca fa) (r : SndD md K tr n cr fr) : SndD md K (tCons ta tr) (n + 1) (ca + cr) (dCons fa fr) :=
  ⟨fun ρ P P' h g => a.mono _ _ _ (fun d => r.mono _ _ _ fun ds => h _) g, fun E hm hf k => a.go E (by omega) hf fun d v H1 h1 s1 b1 d1 =>
    r.go (E.step s1 b1) (by omega) h1 fun ds vs H2 h2 l s2 b2 d2 => k _ _ _ h2 (by rw [List.length_cons, l]) (s1.trans s2) (b2.le (by omega)) (.cons (d1.step s2 E.bs) d2)⟩
abbrev eTup (f : FD) : FE := fun ρ Q => f ρ fun ds => Q (.tuple ds)
abbrev eLst (f : FD) : FE := fun ρ Q => f ρ fun ds => Q (.list ds)
theorem snd_tup (r : SndD true K tr n cr fr) (hn : n ≤ sizeLine) : Snd true K (tTup tr) cr (eTup fr) := mk_snd
  (fun ρ P P' h g => r.mono _ _ _ (fun ds => h _) g)
  (fun E hm hf k => r.go E hm hf fun ds vs H1 h1 l s1 b1 d1 => ⟨by rw [l]; exact hn, fun p np => k _ _ _ h1 (s1.trans (Stp.ex (Evl.Ex.new np))) (b1.ex (Evl.Ex.new np)) (new_tup (E.step s1 b1).al np d1.dal)⟩)
/-- a list that is new -/
structure SndL (K : PySem.W.Frag) (t : TE) (c : Nat) (f : FD) : Prop where
  mono : ∀ (ρ : List Sl) (P P' : List PyData → Prop), (∀ d, P d → P' d) → f ρ P → f ρ P'
  go : ∀ {b : Option Addr} {S : Addr → Prop} {m : Nat} {σ : L2.St} {H : Hp} {ρ : List Sl} {Q : VK} {P : List PyData → Prop}, DEnv K b S m H σ ρ → m + c ≤ LIM → f ρ P →
    (∀ ds vs p H', P ds → H p = none → Stp b H H' → BxO b H' (m + c) → H' p = some (.lst vs) → DaL K (rm H' fun a => S a ∨ a = p) vs ds → Q (.ref p) H') → t σ H Q
theorem fresh_old {b : Option Addr} {S : Addr → Prop} {H H' : Hp} {p : Addr} (al : Al S H) (n : H p = none) : ¬ S p := fun z => al p z n
theorem SndL.d {t : TE} {f : FD} (a : SndL K t c f) : Snd true K t c (fun ρ Q => f ρ fun ds => Q (.list ds)) := mk_snd
  (fun ρ P P' h g => a.mono _ _ _ (fun ds => h _) g)
  (fun E hm hf k => a.go E hm hf fun ds vs p H' h n st bx e g => k _ _ _ h st bx (.lst (by
    rw [rm_out (E.al.new n)]
    exact e) (g.mono (rm_sub fun a z => .inl z))))
theorem back {b : Option Addr} {H H1 : Hp} {p : Addr} {k : Nat} (st : Stp b H H1) (bx : BxO b H1 k) (np : H1 p = none) : H p = none := by
  cases z : H p with
  | none => rfl
  | some o =>
    exfalso
    by_cases q : b = some p
    · rw [q] at bx
      obtain ⟨_, _, _, _, _, _, _, _, e2⟩ := bx
      rw [np] at e2
      cases e2
    · rw [st p o q z] at np
      cases np
theorem DaL.fresh {S : Addr → Prop} {H : Hp} {p : Addr} {o : HO} {vs : List V} {ds : List PyData} (h : DaL K (rm H S) vs ds) (np : H p = none) : DaL K (rm (upd H p o) fun a => S a ∨ a = p) vs ds := h.mono fun a o z => by
  obtain ⟨g1, g2⟩ := rm_some z
  have ne : a ≠ p := fun w => by rw [w, np] at g2; cases g2
  rw [rm_out (fun w => w.elim g1 ne), upd_ne ne]
  exact g2
theorem sndl_lst (r : SndD true K tr n cr fr) (hn : n ≤ sizeLine) : SndL K (tLst tr) cr fr := ⟨r.mono,
  (fun E hm hf k => r.go E hm hf fun ds vs H1 h1 l s1 b1 d1 => ⟨by rw [l]; exact hn, fun p np =>
    k _ _ _ _ h1 (back s1 b1 np) (s1.trans (Stp.ex (Evl.Ex.new np))) (b1.ex (Evl.Ex.new np)) upd_same (d1.dal.fresh np)⟩)⟩
end
end Dv
/-! Two rules in one; keywords alone; defs whose caller tells that no repr runs around them; repr of data. -/
namespace Xg
open PySem PySem.Spec PyProof.Rows L2

theorem pe_or {X : Cx} {e : Expr} {t u : TE} (a : PE X e t) (b : PE X e u) : PE X e (fun σ H Q => t σ H Q ∨ u σ H Q) :=
  ⟨fun pins s σ H Q I h => h.elim (a.run pins s σ H Q I) (b.run pins s σ H Q I)⟩
theorem pg_or {X : Cx} {e : Expr} {t u : TG} (a : PG X e t) (b : PG X e u) : PG X e (fun v σ H Q => t v σ H Q ∨ u v σ H Q) :=
  ⟨fun pins s σ H v z Q I r h => h.elim (a.run pins s σ H v z Q I r) (b.run pins s σ H v z Q I r)⟩
theorem op_or {X : Cx} {f : Value → Value → Sem Value} {r1 r2 : R2} (a : OpR X f r1) (b : OpR X f r2) : OpR X f (fun x y H Q => r1 x y H Q ∨ r2 x y H Q) :=
  fun pins s σ H x y v u Q I rx ry h => h.elim (a pins s σ H x y v u Q I rx ry) (b pins s σ H x y v u Q I rx ry)

/-! ### f(k = v, ..), keywords alone -/
/-- how they bind: g puts the keywords' values in the parameters' order -/
def KwOnly (K : PySem.W.Frag) (fd : FuncData) (ps ks : List Str) (g : {α : Type} → List α → List α) : Prop :=
  ∀ (s : Shared) (ws : List Value), K.In s.heap → ws.length = ks.length → BindsTo s fd ⟨[], ks.zip ws⟩ (ps.zip (g ws))
def tKw (n : Nat) (sp : Sp) (g : {α : Type} → List α → List α) (tk : TA) : TE := fun σ H Q => tk σ H fun zs H1 => zs.length = n ∧ sp (g zs) H1 Q E0
theorem pe_kw {X : Cx} {k : Nat} {f : Addr} {fd : FuncData} {ps ks : List Str} {sp : Sp} {x : Str} {p pos : Pos} {kws : List Keyword} {tk : TA} {g : {α : Type} → List α → List α}
    (F : FnOk X.prog X.w X.K X.mg X.base CX0 k f fd ps sp) (hr : Room k X.A) (hg : Gl X x) (hm : X.mg x = some (.ref f)) (hk : PySem.W.keepIn X.K (.ref f) = true)
    (hb : KwOnly X.K fd ps ks g) (hrel : ∀ {zs : List V} {ws : List Value}, Vals zs ws → Vals (g zs) (g ws)) (hkw : PK X kws tk)
    (hall : (backToKw pos (keywordEach kws X.env)).all (·.1.isSome) = true := by rfl) (hks : (backToKw pos (keywordEach kws X.env)).filterMap (·.1) = ks := by rfl)
    (hdb : (x == ("__debug__" : Str)) = false := by decide) (hpl : ((backTo pos (starEach [] X.env)).any (·.1) || (backToKw pos (keywordEach kws X.env)).any (·.1.isNone)) = false := by rfl) :
    PE X (.Call (.Name x p) [] kws pos) (tKw ks.length sp g tk) := by
  refine ⟨fun pins s σ H Q I h => ?_⟩
  refine wpAny_Call_Name_kw (ld_glob I hg hm ?_ hdb)
  refine PySem.W.callWith_KW0 (h₀ := X.base) I.ok.mod.kin hk hall (thn (hkw.run pos pins s σ H _ I h) fun ws s1 ⟨zs, H1, I1, rz, l1, q⟩ => ⟨I1.kIn, ?_⟩) hpl
  rw [hks]
  refine wpAny_call (codeAny_mono (F.run X.A X.stack s1 H1 ⟨[], ks.zip ws⟩ (g ws) (g zs) Q E0 hr I1.env0 (hb s1 ws I1.kIn (rz.length.symm.trans l1)) (hrel rz) q) fun res s' hq => ?_)
  cases res with
  | error er => exact hq.elim
  | ok fl =>
    cases fl with
    | ret u => exact I1.after hq
    | next => exact False.elim hq
    | brk => exact False.elim hq
    | cont => exact False.elim hq

/-! ### a def called where no repr runs around -/
structure FnG (P : Program) (w : World) (K : PySem.W.Frag) (mg : Str → Option Value) (base : Heap) (k : Nat) (f : Addr) (fd : FuncData) (ps : List Str) (sp : Sp) : Prop where
  len : ∀ vs H Q, sp vs H Q E0 → vs.length = ps.length
  run : ∀ (A : Around) (outer : List Env) (s : Shared) (H : Hp) (args : Args) (us : List Value) (vs : List V) (Q : VK), A.guards = some [] → Room k A → Env0 P w K mg base A outer s H →
    BindsTo s fd args (ps.zip us) → Vals vs us → sp vs H Q E0 → codeAny (model P w) A (.call (.ref f) args) (CR CX0 outer P w H s Q E0) s
section
variable {P : Program} {w : World} {K : PySem.W.Frag} {mg : Str → Option Value} {base : Heap}
theorem okG {x qual : Str} {st : Stmt} {f : Addr} {fd : FuncData} {N ps : List Str} {k : Nat} {sp : Sp} (F : Fun K x qual st f fd) (S : FnScope N ps (defScope st)) (len : ∀ vs H Q, sp vs H Q E0 → vs.length = ps.length)
    (hbody : ∀ (cdv : Value) (A : Around) (outer : List Env) (s : Shared) (H : Hp) (vs : List V) (Q : VK), (A.deeper (envOfC qual (defScope st) s.heap.objs.size f cdv)).guards = some [] →
      Room k (A.deeper (envOfC qual (defScope st) s.heap.objs.size f cdv)) → sp vs H Q E0 →
      ∃ t, PSs (cxOf CX0 P w K mg base N qual (defScope st) f cdv A outer s H E0).nox (defBody st) t ∧ t { nx := fun _ H' => Q .non H', rt := Q } (L2.start N vs) H) :
    FnG P w K mg base (k + 1) f fd ps sp := by
  obtain ⟨oc, od, kV, doc, pm, an, cdv, ct, osl, rfl, lk, hcd⟩ := F.ex
  refine ⟨len, fun A outer s H args us vs Q hG hr e0 hb r hsp => ?_⟩
  have inH : K.In s.heap := e0.mod.kin.keeps fun c u z => (e0.bs c u z).1
  have noL : s.heap.NoLimit := e0.mod.nolimit.keeps fun c u z => (e0.bs c u z).1
  refine codeAny_call_function hr.depth (inH _ _ lk) rfl S.co S.gen rfl (PySem.W.codeRec_of inH hcd) (hb _ _ _ _ ?_)
  refine wpAny_newFunctionEnv_cells S.kind (fun ⟨n, v⟩ hy => ?_) fun env he s1 ic => ?_
  · rcases S.par n (List.of_mem_zip hy).1 with z | z
    · exact .inl z
    · exact .inr ⟨z, PySem.W.cellsFrom_some _ _ _ (.inl z)⟩
  subst he
  refine ⟨noL.keeps ic.toInCall.keep, codeAny_func ?_⟩
  obtain ⟨t, ht0, hq⟩ := hbody cdv A outer s H vs Q hG (hr.deeper _) hsp
  have ht := ht0.nox
  have J0 : Inv (cxOf CX0 P w K mg base N qual (defScope st) f cdv A outer s H E0) [] (L2.start N vs) H s1 := inv_start S hr.hd e0 (len _ _ _ hsp) r ic
  refine wpAny_mono (ht.run [] s1 (L2.start N vs) H _ J0 hq) (fun fl s' hs => ?_) fun e s' hs => hs
  cases fl with
  | ret u =>
    obtain ⟨v, σ', H', J, rv, q⟩ := hs
    exact ⟨v, H', J.os, J.bare, J.base, J.hok, rv, q⟩
  | next =>
    obtain ⟨σ', H', J, q⟩ := hs
    exact ⟨V.non, H', J.os, J.bare, J.base, J.hok, rfl, q⟩
  | brk =>
    obtain ⟨_, _, _, q⟩ := hs
    exact False.elim q
  | cont =>
    obtain ⟨_, _, _, q⟩ := hs
    exact False.elim q
def tCallG (sp : Sp) (t : TA) : TE := fun σ H Q => t σ H fun vs H1 => sp vs H1 Q E0
theorem pe_callG {X : Cx} {k : Nat} {f : Addr} {fd : FuncData} {ps : List Str} {sp : Sp} {x : Str} {p pos : Pos} {e : Expr} {es : List Expr} {t : TA} (F : FnG X.prog X.w X.K X.mg X.base k f fd ps sp) (hG : X.A.guards = some []) (hr : Room k X.A)
    (hg : Gl X x) (hm : X.mg x = some (.ref f)) (hk : PySem.W.keepIn X.K (.ref f) = true) (hb : L2.Binds X.K fd ps []) (ha : PA X (e :: es) t) (hdb : (x == ("__debug__" : Str)) = false := by decide)
    (he : starEach (e :: es) X.env = (false, eval e X.env) :: starEach es X.env := by rfl) (hpl : (backTo pos (starEach es X.env)).any (·.1) = false := by rfl) :
    PE X (.Call (.Name x p) (e :: es) [] pos) (tCallG sp t) := by
  refine ⟨fun pins s σ H Q I h => ?_⟩
  refine wpAny_Call_Name_kw (ld_glob I hg hm ?_ hdb)
  refine PySem.W.callWith_K (h₀ := X.base) I.ok.mod.kin hk (thn (ha.run pos pins s σ H _ I h) fun us s1 ⟨vs, H1, I1, r, q⟩ => ⟨I1.kIn, ?_⟩) he hpl
  have hb1 := hb s1 us I1.kIn (by rw [List.append_nil, ← r.length]; exact F.len _ _ _ q)
  rw [List.append_nil] at hb1
  refine wpAny_call (codeAny_mono (F.run X.A X.stack s1 H1 ⟨us, []⟩ us vs Q hG hr I1.env0 hb1 r q) fun res s' hq => ?_)
  cases res with
  | error er => exact hq.elim
  | ok fl =>
    cases fl with
    | ret u => exact I1.after hq
    | next => exact False.elim hq
    | brk => exact False.elim hq
    | cont => exact False.elim hq
end
/-! ### the law's own call -/
theorem lawG {P : Program} {w : World} {K : PySem.W.Frag} {mg mb : Str → Option Value} {k : Nat} {fa a : Addr} {fd : FuncData} {x : Str} {sp : Sp} {s1 : Shared} {vs : List Value} {ns : List Int}
    (inK : K.In s1.heap) (gl : s1.heap.Ns mainGlobals mg) (bl : s1.heap.Ns builtinsNs mb) (bb : ∀ x : Str, x ≠ "__name__" → mb x = bootBuiltins x) (noL : s1.heap.NoLimit) (gn : s1.gens = #[])
    (at_ : s1.heap.get? a = some { cls := .type "list", data := .seq vs.toArray }) (are : IntsAre vs ns) (few : ns.length ≤ sizeLine) (rm : Room k callerA)
    (F : ∀ base : Heap, K.In base → base.Ns mainGlobals mg → FnG P w K mg base k fa fd [x] sp) (bd : ∀ (s : Shared) (u : Value), BindsTo s fd ⟨[u], []⟩ [(x, u)])
    (hsp : ∀ H : Hp, Only H → SqL K H a (ns.map V.int) → sp [.ref a] H (fun v _ => v = .bl true) E0) :
    codeAny (model P w) callerA (.call (.ref fa) ⟨[.ref a], []⟩) (fun r s' => r = .ok (.ret (.bool true)) ∧ OldK s1.heap s'.heap ∧ s'.os = s1.os ∧ AllBare s'.gens) s1 := by
  have rel := vals_ints are
  have ln := are.length
  have main : ∀ H : Hp, Only H → SqL K H a (ns.map V.int) → HOk P w H s1.heap → (∀ b, H b ≠ none → b = a) → (H a ≠ none → K.lookup a = none) →
      codeAny (model P w) callerA (.call (.ref fa) ⟨[.ref a], []⟩) (fun r s' => r = .ok (.ret (.bool true)) ∧ OldK s1.heap s'.heap ∧ s'.os = s1.os ∧ AllBare s'.gens) s1 := by
    intro H only sq ok here off
    have hid : ∀ {b : Addr} {o : Obj}, s1.heap.get? b = some o → H b = none → (hidT s1.heap H).get? b = some o := fun e n => hidT_get e n
    have isA : ∀ {b : Addr} {u : HO}, H b = some u → b = a := fun {b u} z => here b (by rw [z]; simp)
    have dictFree : ∀ {b : Addr} {o : Obj} {es : Array DictEntry} {ep : Nat}, s1.heap.get? b = some o → o.data = .dict es ep → H b = none := fun {b o es ep} e d => by
      cases z : H b with
      | none => rfl
      | some u =>
        have e1 := isA z
        subst e1
        rw [at_] at e
        cases e
        have d1 : Data.seq vs.toArray _ = Data.dict es ep := d
        cases d1
    have nsOk : ∀ {b : Addr} {m : Str → Option Value}, s1.heap.Ns b m → (hidT s1.heap H).Ns b m := fun {b m} ⟨o, es, ep, e, d, r⟩ => ⟨o, es, ep, hid e (dictFree e d), d, r⟩
    have inB : K.In (hidT s1.heap H) := fun b o e => hid (inK b o e) (by
      cases z : H b with
      | none => rfl
      | some u =>
        have e1 := isA z
        subst e1
        rw [off (by rw [z]; simp)] at e
        cases e)
    have md : Mod K mg (hidT s1.heap H) := ⟨inB, nsOk gl, ⟨mb, nsOk bl, bb⟩, let ⟨mc, h1, h2⟩ := noL; ⟨mc, nsOk h1, h2⟩⟩
    have ev : Env0 P w K mg (hidT s1.heap H) callerA [] s1 H :=
      ⟨rfl, md, fun b o e => of_hidT e, Nat.le_of_eq (hidT_size _ _), trivial, fun b hb => absurd (show b ∈ ([] : List Addr) from hb) (by simp), ok, .of_eq gn⟩
    refine codeAny_mono ((F _ inB (nsOk gl)).run callerA [] s1 H ⟨[.ref a], []⟩ [.ref a] [.ref a] _ rfl rm ev (bd s1 (.ref a)) (.cons rfl .nil) (hsp H only sq)) fun r s' h => ?_
    cases r with
    | error e => exact h.elim
    | ok fl =>
      cases fl with
      | next => exact False.elim h
      | brk => exact False.elim h
      | cont => exact False.elim h
      | ret u =>
        obtain ⟨v, H', os, bare, un, ok', rv, z⟩ := h
        obtain rfl : v = .bl true := z
        obtain rfl : u = Value.bool true := rv
        refine ⟨rfl, OldK.of_keep fun b o e => ?_, os, bare⟩
        rcases only b with n | ⟨ob, xs, z⟩
        · exact un.keep b o e n (fun z => absurd (show b ∈ ([] : List Addr) from z) (by simp)) (by simp)
        · have z2 := un.frzs b ob _ z
          obtain ⟨e1, _⟩ := ok b _ z
          obtain ⟨e2, _⟩ := ok' b _ z2
          rw [e] at e1
          cases e1
          exact e2
  cases lk : K.lookup a with
  | some o =>
    have e := inK a o lk
    rw [at_] at e
    cases e
    refine main (fun _ => none) (fun _ => .inl rfl) (.inr ⟨_, vs.toArray, _, lk, rfl, rfl, rfl, by rw [List.size_toArray, ln]; exact few, by simpa using rel⟩)
      (fun b u z => by have z1 : (none : Option HO) = some u := z; cases z1) (fun b z => absurd rfl z) fun z => absurd rfl z
  | none =>
    refine main (fun b => if b = a then some (.frz { cls := .type "list", data := .seq vs.toArray } (.lst (ns.map V.int))) else none) (fun b => ?_)
      (.inl (.inr ⟨{ cls := .type "list", data := .seq vs.toArray }, if_pos rfl⟩)) (fun b u z => ?_) (fun b z => ?_) fun _ => lk
    · by_cases e : b = a
      · exact .inr ⟨_, _, if_pos e⟩
      · exact .inl (if_neg e)
    · by_cases e : b = a
      · have z1 := (if_pos e).symm.trans z
        cases z1
        subst e
        exact ⟨at_, by rw [List.length_map]; exact few, vs, _, rel, at_⟩
      · have z1 := (if_neg e).symm.trans z
        cases z1
    · by_cases e : b = a
      · exact e
      · exact absurd (if_neg e) z
theorem walkG {l : PySem.W.OpenLaw} {n k : Nat} {q : Program} {loose : List Str} {XP : (Str → Option Value) → Heap → Prop} {YP : World → Heap → Prop} {d : DefRec} {K : Params → PySem.W.Frag} {sp : World → Sp} {x : Str}
    (hn : l.most = some n) (hn2 : n ≤ sizeLine) (hdf : d.params.defaults = []) (rm : Room k callerA) (hY : ∀ (w : World) (h : Heap), YP w h → (K w.params).In h)
    (F : ∀ (w : World) (mg : Str → Option Value) (fa : Addr) (h : Heap), (K w.params).In h → h.Ns mainGlobals mg → mg d.name = some (.ref fa) →
      ∃ fd : FuncData, (∀ (s : Shared) (u : Value), BindsTo s fd ⟨[u], []⟩ [(x, u)]) ∧
        ∀ base : Heap, (K w.params).In base → base.Ns mainGlobals mg → FnG l.prog w (K w.params) mg base k fa fd [x] (sp w))
    (hsp : ∀ (w : World) (H : Hp) (a : Addr) (ns : List Int), ns.length ≤ n → Only H → SqL (K w.params) H a (ns.map V.int) → sp w [.ref a] H (fun v _ => v = .bl true) E0) :
    PySem.W.WalkO q loose XP YP l.row.toRowW d [] (fun f vs => PySem.call f vs) := by
  refine Att.attach_call hn hdf fun w s0 s1 mg mb fa o pm cd doc a vs ns G Y ho hd hcd hmg at_ are few gn => ?_
  obtain ⟨fd, bd, hF⟩ := F w mg fa _ (hY w _ Y) G.T.g hmg
  exact lawG (hY w _ Y) G.T.g G.T.b G.T.builtins G.T.nolimit gn at_ are (Nat.le_trans few hn2) rm hF bd fun H only sq => hsp w H a ns few only sq

/-! ### repr of data -/
theorem bt_repr : bootBuiltins "repr" = some (.builtin "repr") := by decide +kernel
def rRepr (K : PySem.W.Frag) : List V → Hp → VK → Prop := fun xs H Q => ∃ (a : Addr) (d : PyData), xs = [.ref a] ∧ Dp K H (.ref a) d ∧ d.showable = true ∧ d.hasDict = false ∧ d.depth ≤ 60 ∧ d.shown.length ≤ sizeLine ∧ Q (.str d.shown) H
theorem call_reprD {X : Cx} (hG : X.A.guards = some []) (hu : X.A.units + 64 < cLine) : CallR X (.builtin "repr") (rRepr X.K) := by
  intro pins s σ H xs us Q I r h
  obtain ⟨a, d, rfl, hd, h1, h2, h3, h4, q⟩ := h
  cases r with
  | cons rx rr =>
    cases rr
    cases rx
    obtain ⟨as, rd⟩ := Dp.reads I d (.ref a) (.ref a) hd rfl
    refine repr_of_reads' rd h1 (fun z => by rw [h2] at z; cases z) hG (by omega) (fun b o e => e) (fun h' u tk hk => ?_) h4
    exact ⟨.str d.shown, H, I.kept (t' := tk) hk, ⟨_, rfl⟩, q⟩
end Xg
/-! tuple(reversed(t)) of a tuple, at the library's level -/
namespace RT
open PySem PySem.Spec PyProof.Rows
theorem nolen_rt : typeLookup (.type "reversed") "__len__" = pure none := by rw [typeLookup_type, builtinLookup_eq_fast]; kernel_rfl
theorem slot_rt_hint : Slot "reversed" "__length_hint__" "reversed.__length_hint__" :=
  .of (owner := "reversed") (n := "__length_hint__") (by rw [typeLookup_type, builtinLookup_eq_fast]; kernel_rfl) (by decide +kernel) (by decide +kernel)
    (by decide +kernel) (by first | exact .inl (by decide +kernel) | exact .inr (by decide +kernel)) (by rw [isSubtype_type]; kernel_rfl)
theorem entry_rt_hint : entryFor table "reversed.__length_hint__" = some Builtin.«reversed.__length_hint__» := entryFor_of_tree (by kernel_rfl)
theorem args_rt_hint (a : Value) : argsOk "reversed.__length_hint__" ⟨[a], []⟩ := by
  unfold argsOk
  rw [signature?_of (id := "reversed.__length_hint__") (n := ['_', '_', 't', 'n', 'i', 'h', '_', 'h', 't', 'g', 'n', 'e', 'l', '_', '_']) (o := ['d', 'e', 's', 'r', 'e', 'v', 'e', 'r']) (by kernel_rfl) owner_rt]
  kernel_rfl
section
variable {prog : Program} {w : World} {A : Around} {E : Value → Shared → Prop} {s : Shared}
theorem hint_rt {it t : Addr} {items : Array Value} {Q : Bool → Shared → Prop} (hit : IsRt s.heap it t ((items.size : Int) - 1)) (ht : IsTup s.heap t items) (hpos : 0 < items.size) (hn : items.size ≤ 1000)
    (k : ∀ tk, Q true { s with toks := tk }) : wpAny (model prog w) A (Builtin.List.listLengthHint (.ref it)) Q E s := by
  obtain ⟨o, ho, hc, hd⟩ := id hit
  have hT := hit.typeIs
  unfold Builtin.List.listLengthHint
  refine wpAny_bind (wpAny_specialOf hT nolen_rt ?_)
  show wpAny _ _ (specialOf (Value.ref it) (Str.ofString "__length_hint__") >>= _) _ _ _
  refine wpAny_bind (wpAny_specialOf hT slot_rt_hint.lookup ?_)
  generalize hid : ("reversed.__length_hint__" : String) = id0
  wp_delta
  rw [show splitId id0 = some ("reversed", "__length_hint__") from by subst hid; decide +kernel]
  subst hid
  refine wpAny_bind (wpAny_isInstance (b := true) hT (by rw [isSubtype_type]; kernel_rfl) ?_)
  refine wpAny_ite_split (fun hab => absurd hab (by decide)) (fun _ => ?_)
  refine wpAny_ite_split (fun hab => absurd hab (by decide +kernel)) (fun _ => ?_)
  refine wpAny_bind (wpAny_rule ?_)
  rw [slot_rt_hint.bind]
  refine wpAny_bind (wpAny_pure ?_)
  refine wpAny_bind (wpAny_attempt (wpAny_call_entry slot_rt_hint hT entry_rt_hint ?_ (args_rt_hint _)))
  unfold Builtin.«reversed.__length_hint__»
  refine wpAny_bind (wpAny_of_eq (a := Value.ref it) rfl ?_)
  refine wpAny_bind (wpAny_field ho hd (x := .ref t) rfl ?_)
  refine wpAny_ite_split (fun hab => absurd hab (by simp)) (fun _ => ?_)
  refine wpAny_bind (len_tuple ht (by omega) ?_)
  refine wpAny_bind (m := asInt? _) (wpAny_pure ?_)
  refine wpAny_bind (wpAny_field (s := { s with toks := s.toks + 1 + 1 }) ho hd (x := rawInt ((items.size : Int) - 1)) rfl ?_)
  show wpAny _ _ (if (items.size : Int) < (items.size : Int) - 1 + 1 then _ else _) _ _ _
  rw [if_neg (by omega)]
  unfold retInt
  refine wpAny_bind (wpAny_mkInt (wpAny_pure ⟨_, rfl, ?_⟩))
  show wpAny _ _ (asInt? (Value.int ((items.size : Int) - 1 + 1) _) >>= _) _ _ _
  refine wpAny_bind (m := asInt? _) (wpAny_pure ?_)
  have f1 : Builtin.List.listFitsIndex ((items.size : Int) - 1 + 1) = true := by
    unfold Builtin.List.listFitsIndex
    simp
    omega
  have f2 : Builtin.List.listTooLong ((items.size : Int) - 1 + 1).toNat = false := by
    simp [Builtin.List.listTooLong, sizeLine]
    omega
  refine wpAny_ite_split (fun hab => absurd hab (by rw [f1]; decide)) (fun _ => ?_)
  refine wpAny_ite_split (fun hab => absurd hab (by omega)) (fun _ => ?_)
  refine wpAny_ite_split (fun hab => absurd hab (by rw [f2]; decide)) (fun _ => ?_)
  refine wpAny_pure ?_
  have e : ((items.size : Int) - 1 + 1 != 0) = true := bne_iff_ne.mpr (by omega)
  rw [e]
  exact k _
/-- its items, one by one -/
theorem walks_rt (hh : A.handled = none) (I t : Addr) (hne : t ≠ I) (items : Array Value) (hn : items.size ≤ sizeLine) :
    Walks prog w A I [I, t] [I] items.size (fun i v => items[items.size - 1 - i]? = some v) (fun i h => i ≤ items.size ∧ IsRt h I t ((items.size : Int) - 1 - (i : Int)) ∧ IsTup h t items) where
  sub := fun b hb => by
    simp at hb
    simp [hb]
  frame := fun _ _ _ x hk => ⟨x.1, x.2.1.at fun o e => hk I (by simp) o e, let ⟨o, ho, r⟩ := x.2.2; ⟨o, hk t (by simp) o ho, r⟩⟩
  item := fun i s Q E hi x hQ => by
    have e : (items.size : Int) - 1 - (i : Int) = ((items.size - 1 - i : Nat) : Int) := by omega
    have g := x.2.1
    rw [e] at g
    have hx : items[items.size - 1 - i]? = some (items[items.size - 1 - i]'(by omega)) := Array.getElem?_eq_getElem (by omega)
    refine next_rt_item g x.2.2 hx hn fun h' g' sm => ?_
    have e2 : ((items.size - 1 - i : Nat) : Int) - 1 = (items.size : Int) - 1 - ((i + 1 : Nat) : Int) := by omega
    rw [e2] at g'
    have tp : IsTup h' t items := let ⟨o, ho, r⟩ := x.2.2; ⟨o, (sm.2 t hne).trans ho, r⟩
    exact hQ _ h' _ hx ⟨hi, g', tp⟩ fun b o hb eo => sm.extBut b o (fun z => hb (by simp [z])) eo
  done := fun s Q E x hQ => by
    have e : (items.size : Int) - 1 - (items.size : Int) = -1 := by omega
    have g := x.2.1
    rw [e] at g
    exact next_rt_end hh g fun h' he => hQ h' s.toks fun b o hb eo => he b o (fun z => hb (by simp [z])) eo
  self := fun _ _ _ _ x hQ => iter_rt x.2.1 hQ
theorem collect_rt {it t : Addr} {items : Array Value} {Q : List Value → Shared → Prop} (hh : A.handled = none) (hit : IsRt s.heap it t ((items.size : Int) - 1)) (ht : IsTup s.heap t items) (hne : t ≠ it) (hpos : 0 < items.size) (hn : items.size ≤ 1000)
    (fin : ∀ (h' : Heap) (tk : Nat) (acc : Array Value), (∀ b o, b ≠ it → s.heap.get? b = some o → h'.get? b = some o) → ItemsOf (fun i v => items[items.size - 1 - i]? = some v) acc items.size → Q acc.toList { s with heap := h', toks := tk }) :
    wpAny (model prog w) A (collect (.ref it)) Q E s := by
  have hn' : items.size ≤ sizeLine := by rw [sizeLine_eq]; omega
  have W := (walks_rt (prog := prog) (w := w) (A := A.in1) hh it t hne items hn').toS
  obtain ⟨oi, hoi, _⟩ := id hit
  obtain ⟨ot, hot, _⟩ := id ht
  have nI : s.heap.objs.size ≠ it := Nat.ne_of_gt (Heap.lt_size hoi)
  have nT : s.heap.objs.size ≠ t := Nat.ne_of_gt (Heap.lt_size hot)
  have nF : s.heap.objs.size ∉ [it, t] := by
    simp only [List.mem_cons, List.not_mem_nil, or_false, not_or]
    exact ⟨nI, nT⟩
  unfold collect
  refine wpAny_bind (wpAny_runValue (codeAny_builtin F.entry_proto_collect ?_))
  rw [Around.under_plainId F.plain_proto_collect _]
  show wpAny _ A.in1 (newList [] >>= fun n' => again (.builtin "list.__iadd__" ⟨[n', .ref it], []⟩)) _ _ s
  refine wpAny_bind (wpAny_newObj_type ?_)
  refine wpAny_pure ⟨plainId_quiet F.plain_list_iadd _, codeAny_builtin F.entry_list_iadd ?_⟩
  rw [Around.under_plainId F.plain_list_iadd _]
  have s0 : (s.heap.push { cls := .type "list", data := .seq ([] : List Value).toArray }).get? s.heap.objs.size = some { cls := .type "list", data := .seq ([] : List Value).toArray } := Heap.get?_push_size _ rfl
  have hit1 : IsRt (s.heap.push { cls := .type "list", data := .seq ([] : List Value).toArray }) it t ((items.size : Int) - 1) := hit.at fun o e => Heap.get?_push_of_some _ e
  have ht1 : IsTup (s.heap.push { cls := .type "list", data := .seq ([] : List Value).toArray }) t items := let ⟨o, ho, r⟩ := ht; ⟨o, Heap.get?_push_of_some _ ho, r⟩
  have hT : ({ s with heap := s.heap.push { cls := .type "list", data := .seq ([] : List Value).toArray } } : Shared).TypeIs (.ref it) "reversed" := hit1.typeIs
  have n1 : Builtin.List.listSameRef (.ref s.heap.objs.size) (.ref it) = false := by simp [Builtin.List.listSameRef, nI]
  show wpAny _ A.in1 (Builtin.List.listExtendWith (.ref s.heap.objs.size) (.ref it) (.ref s.heap.objs.size)) _ _ _
  unfold Builtin.List.listExtendWith
  refine wpAny_bind (wpAny_typeOf hT ?_)
  rw [if_neg (by rw [n1]; decide)]
  refine wpAny_bind (iter_rt (s := { s with heap := s.heap.push { cls := .type "list", data := .seq ([] : List Value).toArray } }) hit1 ?_)
  refine wpAny_bind (wpAny_holding (hint_rt (s := { s with heap := s.heap.push { cls := .type "list", data := .seq ([] : List Value).toArray } }) hit1 ht1 hpos hn fun tk => ?_))
  show wpAny _ A.in1 (rule "list.extend.makes-room" >>= fun _ => Builtin.List.listTouch (.ref s.heap.objs.size) >>= fun _ =>
    again (.builtin "list.extend.loop" ⟨[.ref s.heap.objs.size, .ref it, .ref s.heap.objs.size], []⟩)) _ _ _
  refine wpAny_bind (wpAny_rule ?_)
  refine wpAny_bind ?_
  show wpAny _ A.in1 (updateSeq s.heap.objs.size (·.push .none) >>= fun _ => updateSeq s.heap.objs.size (·.pop)) _ _ _
  refine wpAny_bind (wpAny_updateSeq s0 rfl ?_)
  have s2 := Heap.get?_update_self (Obj.mapSeq (·.push Value.none)) s0 rfl
  refine wpAny_updateSeq s2 rfl ?_
  have s3 := Heap.get?_update_self (Obj.mapSeq (·.pop)) s2 rfl
  have oth : ∀ b o, b ≠ s.heap.objs.size → (s.heap.push { cls := .type "list", data := .seq ([] : List Value).toArray }).get? b = some o →
      (((s.heap.push { cls := .type "list", data := .seq ([] : List Value).toArray }).update s.heap.objs.size (Obj.mapSeq (·.push Value.none))).update s.heap.objs.size (Obj.mapSeq (·.pop))).get? b = some o :=
    fun b o hb e => (Heap.get?_update_other _ _ (Ne.symm hb)).trans ((Heap.get?_update_other _ _ (Ne.symm hb)).trans e)
  have e0 : ((items.size : Nat) : Int) - 1 - ((0 : Nat) : Int) = (items.size : Int) - 1 := by omega
  have st0 : IsRt _ it t ((items.size : Int) - 1) := hit1.at fun o e => oth it o nI.symm e
  have st1 : IsTup _ t items := let ⟨o, ho, r⟩ := ht1; ⟨o, oth t o nT.symm ho, r⟩
  refine wpAny_pure ⟨plainId_quiet F.plain_extend_loop _, codeAny_extend_loopS W hn' _ nF _ items.size 0 _ _ _ rfl (Nat.zero_le _) ⟨Nat.zero_le _, by rw [e0]; exact st0, st1⟩ s3 (ItemsOf.nil _) fun s' acc' c' hm hS' hacc => ?_⟩
  show wpAny _ A (load s.heap.objs.size >>= _) _ _ s'
  refine wpAny_bind (wpAny_load hS' ?_)
  refine wpAny_pure ?_
  rw [Moved.eq_with hm]
  refine fin s'.heap s'.toks acc' (fun b o hb e => ?_) hacc
  have lt := Heap.lt_size e
  refine hm.heap b o (fun hmem => ?_) (oth b o (Nat.ne_of_lt lt) (Heap.get?_push_of_some _ e))
  rcases List.mem_cons.mp hmem with z | z
  · exact absurd lt (by rw [z]; exact Nat.lt_irrefl _)
  · exact hb (List.mem_singleton.mp z)
theorem tuple_new_rt {it t : Addr} {items : Array Value} {Q1 : Value → Shared → Prop} (hh : A.handled = none) (hit : IsRt s.heap it t ((items.size : Int) - 1)) (ht : IsTup s.heap t items) (hne : t ≠ it) (hpos : 0 < items.size) (hn : items.size ≤ 1000)
    (fin : ∀ (h' : Heap) (tk : Nat) (acc : Array Value), (∀ b o, b ≠ it → s.heap.get? b = some o → h'.get? b = some o) → ItemsOf (fun i v => items[items.size - 1 - i]? = some v) acc items.size →
      Q1 (.ref h'.objs.size) { s with heap := h'.push { cls := .type "tuple", data := .seq acc }, toks := tk }) :
    codeAny (model prog w) A (.call (.builtin "tuple.__new__") ⟨[.type "tuple", .ref it], []⟩) (wants Q1 E) s := by
  refine codeAny_of_tree ?_
  show wpAny _ A.in1 (do
    checkBuiltinCall "tuple.__new__" ⟨[.type "tuple", .ref it], []⟩
    again (.builtin "tuple.__new__" ⟨[.type "tuple", .ref it], []⟩)) _ _ s
  refine wpAny_bind (wpAny_of_eq (F.newCall_tuple_1 _) (wpAny_pure ⟨plainId_quiet F.plain_tuple_new _, codeAny_builtin F.entry_tuple_new ?_⟩))
  rw [Around.under_plainId F.plain_tuple_new _]
  have f1 := sub_tuple_self
  have f2 := init_tuple_lookup
  have f3 := madeHere_tuple
  have f4 : s.TypeIs (.ref it) "reversed" := hit.typeIs
  have f5 : A.in1.handled = none := hh
  wp_walk using wpAny_typeOf f4, collect_rt (A := A.in1) f5 hit ht hne hpos hn
  intro h' tk acc keep items'
  show wpAny _ _ (Builtin.Tuple.tupleExact acc.toList.toArray >>= fun v => ret v) _ _ _
  unfold Builtin.Tuple.tupleExact
  have e : acc.toList.toArray = acc := by simp
  rw [e]
  refine wpAny_bind (wpAny_newObj_type ?_ (by show acc.size ≤ sizeLine; rw [items'.1, sizeLine_eq]; omega))
  exact wpAny_pure (fin h' tk acc keep items')
theorem call_tuple_rt {it t : Addr} {items : Array Value} {Q : Value → Shared → Prop} (hh : A.handled = none) (hit : IsRt s.heap it t ((items.size : Int) - 1)) (ht : IsTup s.heap t items) (hne : t ≠ it) (hpos : 0 < items.size) (hn : items.size ≤ 1000)
    (fin : ∀ (h' : Heap) (tk : Nat) (acc : Array Value), (∀ b o, b ≠ it → s.heap.get? b = some o → h'.get? b = some o) → ItemsOf (fun i v => items[items.size - 1 - i]? = some v) acc items.size →
      Q (.ref h'.objs.size) { s with heap := h'.push { cls := .type "tuple", data := .seq acc }, toks := tk }) :
    wpAny (model prog w) A (call (.type "tuple") [.ref it]) Q E s := by
  refine callType_codes (Q₁ := fun obj s' => s'.TypeIs obj "tuple" ∧ Q obj s') F.called_tuple (F.typeCall_tuple_1 _) F.entry_object_init
    (tuple_new_rt (A := A.in1) hh hit ht hne hpos hn fun h' tk acc keep its => ⟨⟨_, Heap.get?_push_size _ rfl, rfl⟩, fin h' tk acc keep its⟩) fun obj s' g => ?_
  exact ⟨g.1, F.args_object_init_2 obj _, object_init_meets F.called_tuple.init.lookup F.called_tuple.made (by decide) prog w A.in1 _ s' ⟨g.1, rfl, g.2⟩⟩
end
end RT
namespace Xg
open PySem PySem.Spec PyProof.Rows L2
/-- tuple(reversed(x)), x a tuple that isn't bare: a new tuple -/
def tRevT (K : PySem.W.Frag) (te : TE) : TE := fun σ H Q => te σ H fun v H1 => ∃ (a : Addr) (xs : List V), v = .ref a ∧ SqT K H1 a xs ∧ xs ≠ [] ∧ xs.length ≤ 1000 ∧ ∀ q, H1 q = none → Q (.ref q) (upd H1 q (.tup xs.reverse))
theorem pe_revT {X : Cx} {e : Expr} {te : TE} {p p2 pos pos2 : Pos} (hc : X.calm = true) (hg : Gl X "tuple") (hm : X.mg "tuple" = none) (hg2 : Gl X "reversed") (hm2 : X.mg "reversed" = none) (he : PE X e te)
    (h1 : starEach [e] X.env = (false, eval e X.env) :: starEach [] X.env := by rfl)
    (h2 : starEach [.Call (.Name "reversed" p2) [e] [] pos2] X.env = (false, eval (.Call (.Name "reversed" p2) [e] [] pos2) X.env) :: starEach [] X.env := by rfl) :
    PE X (.Call (.Name "tuple" p) [.Call (.Name "reversed" p2) [e] [] pos2] [] pos) (tRevT X.K te) := by
  refine ⟨fun pins s σ H Q I h => ?_⟩
  refine Call_ (ld_blt I hg hm boot_tuple (PyProof.Rows.callWith_type1 (args_cons (Call_ (ld_blt I hg2 hm2 PyProof.Rows.boot_reversed
    (PyProof.Rows.callWith_type1 (args_cons (thn (he.run pins s σ H _ I h) fun u s1 hh => args_nil ?_) h1) h1 rfl))) h2) h2 rfl))
  obtain ⟨v, H1, I1, r1, a, xs, rfl, hq, hx, hl, q⟩ := hh
  obtain rfl : u = Value.ref a := r1
  obtain ⟨its, rv, tp, hz⟩ := I1.tuple hq
  have len1 := rv.length
  have sz : its.toArray.size = xs.length := by rw [List.size_toArray, len1]
  have pos0 : 0 < its.toArray.size := by
    rw [sz]
    exact List.length_pos_iff.mpr hx
  refine RT.call_reversed_tup tp (fun A E Q k => len_tuple tp (by rw [sz]; omega) k) (args_nil ?_)
  obtain ⟨I2, _⟩ : Inv X pins σ H1 { s1 with heap := s1.heap.push (RT.rtObj a ((its.toArray.size : Int) - 1)), toks := s1.toks + 1 + 1 } ∧ True :=
    ⟨I1.kept (t' := s1.toks + 1 + 1) fun b o z => Heap.get?_push_of_some _ z, trivial⟩
  obtain ⟨f0, f1, f2, f3, f4, f5⟩ := I1.fpOk (H' := H1) (b := s1.heap.objs.size) (Nat.le_refl _) (I1.hok.fresh (Nat.le_refl _))
  obtain ⟨ot, hot, r⟩ := id tp
  have ne : a ≠ s1.heap.objs.size := Nat.ne_of_lt (Heap.lt_size hot)
  refine RT.call_tuple_rt (s := { s1 with heap := s1.heap.push (RT.rtObj a ((its.toArray.size : Int) - 1)), toks := s1.toks + 1 + 1 }) (I1.ok.hd hc) ⟨_, Heap.get?_push_size _ rfl, rfl, rfl⟩
    ⟨ot, Heap.get?_push_of_some _ hot, r⟩ ne pos0 (by rw [sz]; exact hl) fun h' tk acc keep hi => ?_
  have I3 : Inv X pins σ H1 { s1 with heap := h', toks := tk } := I2.turned (t' := tk) (fun b o hb z => keep b o hb z) f0 f1 f3 f4 f5
  refine ⟨.ref h'.objs.size, upd H1 h'.objs.size (.tup xs.reverse), I3.laid (t' := tk) (fun c o z => Heap.get?_push_of_some _ z) (Nat.le_refl _)
    (show ObjOk X.prog X.w _ _ _ (.tup xs.reverse) from ⟨by rw [List.length_reverse]; exact Evl.sz_of (by omega), acc.toList, RT.vals_rev rv hi, ?_⟩), rfl, q _ (I3.hok.fresh (Nat.le_refl _))⟩
  rw [Array.toArray_toList]
  exact IsTup.new _ _
end Xg
namespace Xg
open PySem PySem.Spec PyProof.Rows L2
/-- t * 1 is t -/
theorem tuple_mul1 (l : Addr) (items : Array Value) (n : Nat) (dd : Option Addr) (sl : Array (Option Value)) (u : Tok) :
    Meets (Builtin.«tuple.__mul__» ⟨[.ref l, .int 1 u], []⟩) (fun _ R s => s.heap.get? l = some { cls := .type "tuple", dict := dd, data := .seq items n, slots := sl } ∧ R (.ok (.ret (Value.ref l))) s) :=
  .of_wp fun prog w A R s h => by
    obtain ⟨hp, g, d, tk, os⟩ := s
    obtain ⟨hl, h⟩ := h
    have f1 := AutoSeq1.idx_int
    have c1 : (items.isEmpty || (1 : Int) == 1) = true := by simp
    wp_walk using wpAny_loadPart' hl
    exact ⟨_, rfl, h⟩
def rRep1 (K : PySem.W.Frag) : R2 := fun x y H Q => ∃ l xs, x = .ref l ∧ y = .int 1 ∧ SqT K H l xs ∧ Q (.ref l) H
theorem op_rep1 {X : Cx} : OpR X (binaryOp .Mult) (rRep1 X.K) := by
  intro pins s σ H x y v u Q I rx ry h
  obtain ⟨l, xs, rfl, rfl, hT, q⟩ := h
  cases rx
  obtain ⟨t, rfl⟩ := ry
  obtain ⟨its, r, ⟨⟨cls, dd, data, sl⟩, ho, hc, n, hd⟩, hs⟩ := I.tuple hT
  simp only at hc hd
  subst hc hd
  refine wpAny_binaryOp_repeat_ref (T := "tuple") (U := "int") (by decide) ⟨_, ho, rfl⟩ (fun s' => typeIs_int s' 1 t) noFill_tuple_mul F.fills_int_mul F.slot_int_rmul repeat_tuple F.slot_int_index.lookup
    (call_meets F.slot_int_rmul (typeIs_int s 1 t) F.entry_int_rmul (F.args_int_rmul_2 _ _) (int_rmul_tuple 1 t l its.toArray n dd sl)
      ⟨ho, rfl, ⟨_, ho, rfl⟩, call_meets F.slot_tuple_mul ⟨_, ho, rfl⟩ F.entry_tuple_mul (F.args_tuple_mul_2 _ _) (tuple_mul1 l its.toArray n dd sl t) ⟨ho, ?_⟩⟩)
  exact ⟨.ref l, H, I, rfl, q⟩
end Xg
/-! zip of two, each a tuple or a list by itself -/
namespace Zq
open PySem PySem.Spec PyProof.Rows L2
open PySem.Sem (wp)
def sqK (t : Bool) (g : Heap) (l : Addr) (xs : Array Value) : Prop := bif t then g.IsTuple l xs else g.IsList l xs
def itK (t : Bool) (g : Heap) (p l : Addr) (i : Nat) : Prop := bif t then g.IsTupleIter p l i else g.IsListIter p l i
theorem sq_ext {t : Bool} {g g' : Heap} {l b : Addr} {xs : Array Value} (x : sqK t g l xs) (e : Heap.ExtBut b g g') (n : l ≠ b) : sqK t g' l xs := by
  cases t
  · exact Heap.IsList.extBut x e n
  · exact Heap.IsTuple.extBut x e n
theorem it_ext {t : Bool} {g g' : Heap} {p l b : Addr} {i : Nat} (x : itK t g p l i) (e : Heap.ExtBut b g g') (n : p ≠ b) : itK t g' p l i := by
  cases t
  · exact Heap.IsListIter.extBut x e n
  · exact Heap.IsTupleIter.extBut x e n
theorem it_at {t : Bool} {g g' : Heap} {p l : Addr} {i : Nat} (x : itK t g p l i) (e : ∀ o, g.get? p = some o → g'.get? p = some o) : itK t g' p l i := by
  cases t
  · exact Heap.IsListIter.at x e
  · exact Heap.IsTupleIter.at x e
theorem it_obj {t : Bool} {g : Heap} {p l : Addr} {i : Nat} (x : itK t g p l i) : ∃ o, g.get? p = some o ∧ o.data = .fields #[.ref l, .int i 0] := by
  cases t
  · exact let ⟨o, e, _, d⟩ := x; ⟨o, e, d⟩
  · exact let ⟨o, e, _, d⟩ := x; ⟨o, e, d⟩
theorem it_lt {t : Bool} {g : Heap} {p l : Addr} {i : Nat} (x : itK t g p l i) : p < g.objs.size := let ⟨_, e, _⟩ := it_obj x; Heap.lt_size e
section
variable {prog : Program} {w : World} {A : Around} {E : Value → Shared → Prop} {s : Shared}
theorem nx_item {t : Bool} {p l : Addr} {i : Nat} {xs : Array Value} {x : Value} {Q : Value → Shared → Prop} (h : itK t s.heap p l i) (hl : sqK t s.heap l xs) (hx : xs[i]? = some x)
    (q : ∀ g, itK t g p l (i + 1) → Heap.SameBut p s.heap g → Q x { s with heap := g }) : wpAny (model prog w) A (Builtin.SmallTypes.nextOf (.ref p)) Q E s := by
  cases t
  · exact wpAny_nextOf_list_item h hl hx q
  · exact RZ.nextOf_tuple_item h hl hx q
theorem nx_end {t : Bool} {p l : Addr} {i : Nat} {xs : Array Value} {Q : Value → Shared → Prop} (hh : A.handled = none) (h : itK t s.heap p l i) (hl : sqK t s.heap l xs) (hx : xs[i]? = none)
    (q : ∀ g e, Heap.ExtBut p s.heap g → (∃ o, g.get? e = some o ∧ o.cls = .type "StopIteration") → E (.ref e) { s with heap := g }) : wpAny (model prog w) A (Builtin.SmallTypes.nextOf (.ref p)) Q E s := by
  cases t
  · exact wpAny_nextOf_list_end hh h hl hx q
  · exact RZ.nextOf_tuple_end hh h hl hx q
/-- all but four stay -/
def Stay (g g' : Heap) (z T p1 p2 : Addr) : Prop := ∀ c o, c ≠ z → c ≠ T → c ≠ p1 → c ≠ p2 → g.get? c = some o → g'.get? c = some o
theorem zq_item {t u : Bool} {z S T p1 p2 l1 l2 : Addr} {i j : Nat} {xs ys : Array Value} {x y a b : Value} {Q : Value → Shared → Prop} (D : ZipApart z S T p1 p2 l1 l2)
    (z0 : IsZip s.heap z S T .none) (S0 : IsPair s.heap S (.ref p1) (.ref p2)) (T0 : IsPair s.heap T a b) (f1 : itK t s.heap p1 l1 i) (f2 : itK u s.heap p2 l2 j)
    (m1 : sqK t s.heap l1 xs) (m2 : sqK u s.heap l2 ys) (hx : xs[i]? = some x) (hy : ys[j]? = some y)
    (q : ∀ g, IsZip g z S T (rawInt s.heap.objs.size) → IsPair g T x y → itK t g p1 l1 (i + 1) → itK u g p2 l2 (j + 1) → IsPair g s.heap.objs.size x y → g.objs.size = s.heap.objs.size + 1 → Stay s.heap g z T p1 p2 →
      Q (.ref s.heap.objs.size) { s with heap := g }) : wpAny (model prog w) A (Builtin.«zip.__next__» ⟨[.ref z], []⟩) (fun r s' => ∃ v, r = .done (.ret v) ∧ Q v s') E s := by
  show wpAny _ _ (field (.ref z) 2 >>= fun _ => _) _ _ _
  refine wpAny_bind (wpAny_field z0 rfl (x := .bool false) rfl ?_)
  show wpAny _ _ (field (.ref z) 3 >>= fun _ => _) _ _ _
  refine wpAny_bind (wpAny_field z0 rfl (x := .ref S) rfl (wpAny_bind (wpAny_seqItems S0 rfl ?_)))
  show wpAny _ _ (Builtin.SmallTypes.ownedTupleIsFree (.ref z) >>= fun _ => _) _ _ _
  refine wpAny_bind ?_
  unfold Builtin.SmallTypes.ownedTupleIsFree
  refine wpAny_bind (wpAny_field z0 rfl (x := .none) rfl (wpAny_pure ?_))
  simp only [if_true]
  refine wpAny_bind (wpAny_rule (wpAny_bind (wpAny_field z0 rfl (x := .ref T) rfl (wpAny_bind (wpAny_setField_rec z0 (by simp) fun g1 z1 k1 => ?_)))))
  replace z1 : IsZip g1 z S T .ellipsis := z1
  refine wpAny_bind ?_
  simp only [List.zipIdx_cons, List.zipIdx_nil, List.forIn_cons, List.forIn_nil]
  refine wpAny_bind (wpAny_bind (wpAny_onRaise ?_))
  show wpAny _ _ (Builtin.SmallTypes.nextOf (.ref p1) >>= fun _ => _) _ _ _
  refine wpAny_bind (nx_item (it_ext f1 k1.extBut D.i1z) (sq_ext m1 k1.extBut D.l1z) hx fun g2 f1b k2 => wpAny_pure ?_)
  have T2 : IsPair g2 T a b := k2.extBut _ _ D.TOi1 (k1.extBut _ _ D.TOz T0)
  refine wpAny_bind (wpAny_seqItems T2 rfl (wpAny_bind (wpAny_updateSeq_pair T2 fun g3 T3 k3 => ?_)))
  replace T3 : IsPair g3 T x b := T3
  refine wpAny_bind (wpAny_letGo (wpAny_pure (wpAny_bind (wpAny_bind (wpAny_onRaise ?_)))))
  show wpAny _ _ (Builtin.SmallTypes.nextOf (.ref p2) >>= fun _ => _) _ _ _
  have f2c := it_ext (it_ext (it_ext f2 k1.extBut D.i2z) k2.extBut D.i12.symm) k3.extBut D.TOi2.symm
  have m2c := sq_ext (sq_ext (sq_ext m2 k1.extBut D.l2z) k2.extBut D.l2i1) k3.extBut D.l2TO
  refine wpAny_bind (nx_item f2c m2c hy fun g4 f2d k4 => wpAny_pure ?_)
  have T4 : IsPair g4 T x b := k4.extBut _ _ D.TOi2 T3
  refine wpAny_bind (wpAny_seqItems T4 rfl (wpAny_bind (wpAny_updateSeq_pair T4 fun g5 T5 k5 => ?_)))
  replace T5 : IsPair g5 T x y := T5
  refine wpAny_bind (wpAny_letGo (wpAny_pure (wpAny_pure (wpAny_bind (wpAny_seqItems T5 rfl (wpAny_bind (wpAny_newTuple ?_)))))))
  have n5 : g5.objs.size = s.heap.objs.size := by rw [k5.1, k4.1, k3.1, k2.1, k1.1]
  have z5 : IsZip g5 z S T .ellipsis := k5.extBut _ _ D.TOz.symm (k4.extBut _ _ D.i2z.symm (k3.extBut _ _ D.TOz.symm (k2.extBut _ _ D.i1z.symm z1)))
  have st5 : Stay s.heap g5 z T p1 p2 := fun c o c1 c2 c3 c4 e => k5.extBut _ _ c2 (k4.extBut _ _ c4 (k3.extBut _ _ c2 (k2.extBut _ _ c3 (k1.extBut _ _ c1 e))))
  have f15 : itK t g5 p1 l1 (i + 1) := it_ext (it_ext (it_ext f1b k3.extBut D.TOi1.symm) k4.extBut D.i12) k5.extBut D.TOi1.symm
  have f25 : itK u g5 p2 l2 (j + 1) := it_ext f2d k5.extBut D.TOi2.symm
  have ltz : z < g5.objs.size := Heap.lt_size z5
  show wpAny _ _ (Builtin.SmallTypes.ownedTupleHandOut (.ref z) (.ref g5.objs.size) >>= fun _ => _) _ _ _
  refine wpAny_bind ?_
  unfold Builtin.SmallTypes.ownedTupleHandOut
  have z6 : IsZip (g5.push { cls := .type "tuple", data := .seq #[x, y] }) z S T .ellipsis := Heap.get?_push_of_some _ z5
  refine wpAny_bind (wpAny_setField_rec z6 (by simp) fun g7 z7 k7 => ?_)
  replace z7 : IsZip g7 z S T (rawInt g5.objs.size) := z7
  refine wpAny_setField_rec z7 (by simp) fun g8 z8 k8 => ?_
  replace z8 : IsZip g8 z S T (rawInt g5.objs.size) := z8
  have on : ∀ c o, c ≠ z → g5.get? c = some o → g8.get? c = some o := fun c o c1 e => k8.extBut _ _ c1 (k7.extBut _ _ c1 (Heap.get?_push_of_some _ e))
  have W8 : IsPair g8 g5.objs.size x y := k8.extBut _ _ (Nat.ne_of_gt ltz) (k7.extBut _ _ (Nat.ne_of_gt ltz) (Heap.get?_push_size _ rfl))
  have n8 : g8.objs.size = g5.objs.size + 1 := by rw [k8.1, k7.1, Heap.size_push]
  rw [n5] at z8 W8 n8
  refine wpAny_pure ⟨.ref g5.objs.size, rfl, ?_⟩
  rw [n5]
  exact q g8 z8 (on _ _ D.TOz T5) (it_at f15 fun o e => on _ o D.i1z e) (it_at f25 fun o e => on _ o D.i2z e) W8 n8 fun c o c1 c2 c3 c4 e => on c o c1 (st5 c o c1 c2 c3 c4 e)
theorem zq_end {t u : Bool} {z S T p1 p2 l1 l2 : Addr} {i j : Nat} {xs ys : Array Value} {a b : Value} {Q : Fin → Shared → Prop} (hh : A.handled = none) (D : ZipApart z S T p1 p2 l1 l2)
    (z0 : IsZip s.heap z S T .none) (S0 : IsPair s.heap S (.ref p1) (.ref p2)) (T0 : IsPair s.heap T a b) (f1 : itK t s.heap p1 l1 i) (f2 : itK u s.heap p2 l2 j)
    (m1 : sqK t s.heap l1 xs) (m2 : sqK u s.heap l2 ys) (he : xs[i]? = none ∨ ys[j]? = none)
    (q : ∀ g e, Stay s.heap g z T p1 p2 → (∃ o, g.get? e = some o ∧ o.cls = .type "StopIteration") → E (.ref e) { s with heap := g }) : wpAny (model prog w) A (Builtin.«zip.__next__» ⟨[.ref z], []⟩) Q E s := by
  show wpAny _ _ (field (.ref z) 2 >>= fun _ => _) _ _ _
  refine wpAny_bind (wpAny_field z0 rfl (x := .bool false) rfl ?_)
  show wpAny _ _ (field (.ref z) 3 >>= fun _ => _) _ _ _
  refine wpAny_bind (wpAny_field z0 rfl (x := .ref S) rfl (wpAny_bind (wpAny_seqItems S0 rfl ?_)))
  show wpAny _ _ (Builtin.SmallTypes.ownedTupleIsFree (.ref z) >>= fun _ => _) _ _ _
  refine wpAny_bind ?_
  unfold Builtin.SmallTypes.ownedTupleIsFree
  refine wpAny_bind (wpAny_field z0 rfl (x := .none) rfl (wpAny_pure ?_))
  simp only [if_true]
  refine wpAny_bind (wpAny_rule (wpAny_bind (wpAny_field z0 rfl (x := .ref T) rfl (wpAny_bind (wpAny_setField_rec z0 (by simp) fun g1 z1 k1 => ?_)))))
  replace z1 : IsZip g1 z S T .ellipsis := z1
  refine wpAny_bind ?_
  simp only [List.zipIdx_cons, List.zipIdx_nil, List.forIn_cons, List.forIn_nil]
  refine wpAny_bind (wpAny_bind (wpAny_onRaise ?_))
  show wpAny _ _ (Builtin.SmallTypes.nextOf (.ref p1) >>= fun _ => _) _ _ _
  have f1a := it_ext f1 k1.extBut D.i1z
  have m1a := sq_ext m1 k1.extBut D.l1z
  cases hx : xs[i]? with
  | none =>
    refine wpAny_bind (nx_end hh f1a m1a hx fun g2 e k2 ⟨o, eo, ec⟩ => ?_)
    have z2 : IsZip g2 z S T .ellipsis := k2 _ _ D.i1z.symm z1
    have ne : e ≠ z := fun c => by rw [c, z2] at eo; cases eo; simp at ec
    exact wpAny_setField_rec z2 (by simp) fun g3 _ k3 => q g3 e (fun c o c1 _ c3 _ v => k3.extBut _ _ c1 (k2 _ _ c3 (k1.extBut _ _ c1 v))) ⟨o, k3.extBut _ _ ne eo, ec⟩
  | some x =>
    have hy : ys[j]? = none := he.resolve_left (by rw [hx]; simp)
    refine wpAny_bind (nx_item f1a m1a hx fun g2 f1b k2 => wpAny_pure ?_)
    have T2 : IsPair g2 T a b := k2.extBut _ _ D.TOi1 (k1.extBut _ _ D.TOz T0)
    refine wpAny_bind (wpAny_seqItems T2 rfl (wpAny_bind (wpAny_updateSeq_pair T2 fun g3 T3 k3 => ?_)))
    refine wpAny_bind (wpAny_letGo (wpAny_pure (wpAny_bind (wpAny_bind (wpAny_onRaise ?_)))))
    show wpAny _ _ (Builtin.SmallTypes.nextOf (.ref p2) >>= fun _ => _) _ _ _
    have f2c := it_ext (it_ext (it_ext f2 k1.extBut D.i2z) k2.extBut D.i12.symm) k3.extBut D.TOi2.symm
    have m2c := sq_ext (sq_ext (sq_ext m2 k1.extBut D.l2z) k2.extBut D.l2i1) k3.extBut D.l2TO
    refine wpAny_bind (nx_end hh f2c m2c hy fun g4 e k4 ⟨o, eo, ec⟩ => ?_)
    have z4 : IsZip g4 z S T .ellipsis := k4 _ _ D.i2z.symm (k3.extBut _ _ D.TOz.symm (k2.extBut _ _ D.i1z.symm z1))
    have ne : e ≠ z := fun c => by rw [c, z4] at eo; cases eo; simp at ec
    exact wpAny_setField_rec z4 (by simp) fun g5 _ k5 => q g5 e (fun c o c1 c2 c3 c4 v => k5.extBut _ _ c1 (k4 _ _ c4 (k3.extBut _ _ c2 (k2.extBut _ _ c3 (k1.extBut _ _ c1 v))))) ⟨o, k5.extBut _ _ ne eo, ec⟩
end
end Zq
namespace Zq
open PySem PySem.Spec PyProof.Rows L2
open PySem.Sem (wp)
section
variable {prog : Program} {w : World} {A : Around} {E : Value → Shared → Prop} {s : Shared}
theorem pyn_item {t u : Bool} {z S T p1 p2 l1 l2 : Addr} {i j : Nat} {xs ys : Array Value} {x y a b : Value} {Q : Option Value → Shared → Prop} (D : ZipApart z S T p1 p2 l1 l2)
    (z0 : IsZip s.heap z S T .none) (S0 : IsPair s.heap S (.ref p1) (.ref p2)) (T0 : IsPair s.heap T a b) (f1 : itK t s.heap p1 l1 i) (f2 : itK u s.heap p2 l2 j)
    (m1 : sqK t s.heap l1 xs) (m2 : sqK u s.heap l2 ys) (hx : xs[i]? = some x) (hy : ys[j]? = some y)
    (q : ∀ g, IsZip g z S T (rawInt s.heap.objs.size) → IsPair g T x y → itK t g p1 l1 (i + 1) → itK u g p2 l2 (j + 1) → IsPair g s.heap.objs.size x y → g.objs.size = s.heap.objs.size + 1 → Stay s.heap g z T p1 p2 →
      Q (some (.ref s.heap.objs.size)) { s with heap := g }) : wpAny (model prog w) A (pyNext (.ref z)) Q E s := by
  have ty : s.TypeIs (.ref z) "zip" := ⟨_, z0, rfl⟩
  unfold pyNext
  refine wpAny_bind (wpAny_attempt (wpAny_callSpecial?_slot (name := Str.ofString "__next__") ty F.slot_zip_next (wpAny_call_entry F.slot_zip_next ty F.entry_zip_next (zq_item D z0 S0 T0 f1 f2 m1 m2 hx hy fun g a1 a2 a3 a4 a5 a6 a7 => wpAny_pure (q g a1 a2 a3 a4 a5 a6 a7)) (F.args_zip_next_1 _))))
theorem pyn_end {t u : Bool} {z S T p1 p2 l1 l2 : Addr} {i j : Nat} {xs ys : Array Value} {a b : Value} {Q : Option Value → Shared → Prop} (hh : A.handled = none) (D : ZipApart z S T p1 p2 l1 l2)
    (z0 : IsZip s.heap z S T .none) (S0 : IsPair s.heap S (.ref p1) (.ref p2)) (T0 : IsPair s.heap T a b) (f1 : itK t s.heap p1 l1 i) (f2 : itK u s.heap p2 l2 j)
    (m1 : sqK t s.heap l1 xs) (m2 : sqK u s.heap l2 ys) (he : xs[i]? = none ∨ ys[j]? = none) (q : ∀ g, Stay s.heap g z T p1 p2 → Q none { s with heap := g }) : wpAny (model prog w) A (pyNext (.ref z)) Q E s := by
  have ty : s.TypeIs (.ref z) "zip" := ⟨_, z0, rfl⟩
  unfold pyNext
  refine wpAny_bind (wpAny_attempt (wpAny_callSpecial?_slot (name := Str.ofString "__next__") ty F.slot_zip_next (wpAny_call_entry F.slot_zip_next ty F.entry_zip_next (zq_end hh D z0 S0 T0 f1 f2 m1 m2 he fun g e st ⟨o, eo, ec⟩ => ?_) (F.args_zip_next_1 _))))
  exact wpAny_bind (wpAny_isInstance (T := "StopIteration") (b := true) ⟨o, eo, ec⟩ isSubtype_stop (wpAny_pure (q _ st)))
/-- zip's five new ones, of a tuple and a list -/
abbrev e1 (g : Heap) (l1 : Addr) : Heap := g.push { cls := .type "tuple_iterator", data := .fields #[.ref l1, .int 0 0] }
abbrev e2 (g : Heap) (l1 l2 : Addr) : Heap := (e1 g l1).push { cls := .type "list_iterator", data := .fields #[.ref l2, .int 0 0] }
abbrev e3 (g : Heap) (l1 l2 : Addr) : Heap := (e2 g l1 l2).push { cls := .type "tuple", data := .seq #[.ref g.objs.size, .ref (e1 g l1).objs.size] }
abbrev e4 (g : Heap) (l1 l2 : Addr) : Heap := (e3 g l1 l2).push { cls := .type "tuple", data := .seq #[.none, .none] }
abbrev e5 (g : Heap) (l1 l2 : Addr) : Heap := (e4 g l1 l2).push { cls := .type "zip", data := .fields #[.none, .bool false, .bool false, .ref (e2 g l1 l2).objs.size, .ref (e3 g l1 l2).objs.size] }
theorem made (l1 l2 : Addr) (xs ys : Array Value) : Meets (Builtin.«zip.__new__» ⟨[.type "zip", .ref l1, .ref l2], []⟩) (fun _ R s => s.heap.IsTuple l1 xs ∧ s.heap.IsList l2 ys ∧ R (.ok (.ret (.ref (e4 s.heap l1 l2).objs.size))) { s with heap := e5 s.heap l1 l2 }) :=
  .of_wp fun prog w A R s h => by
    obtain ⟨g, a, d, k, o⟩ := s; obtain ⟨m1, m2, r⟩ := h
    have sub := sub_zip
    have M1 : Heap.IsTuple (Shared.heap ⟨g, a, d, k, o⟩) l1 xs := m1
    have M2 : Heap.IsList (Shared.heap ⟨e1 g l1, a, d, k, o⟩) l2 ys := Heap.IsList.push m2 _
    wp_walk using wpAny_pyIter_tuple M1, wpAny_pyIter_list M2
    exact ⟨_, rfl, r⟩
theorem call_zq {l1 l2 : Addr} {xs ys : Array Value} {Q : Value → Shared → Prop} (m1 : s.heap.IsTuple l1 xs) (m2 : s.heap.IsList l2 ys)
    (q : ∀ g, IsZip g (s.heap.objs.size + 4) (s.heap.objs.size + 2) (s.heap.objs.size + 3) .none → IsPair g (s.heap.objs.size + 2) (.ref s.heap.objs.size) (.ref (s.heap.objs.size + 1)) → IsPair g (s.heap.objs.size + 3) .none .none →
      itK true g s.heap.objs.size l1 0 → itK false g (s.heap.objs.size + 1) l2 0 → (∀ c o, s.heap.get? c = some o → g.get? c = some o) → Q (.ref (s.heap.objs.size + 4)) { s with heap := g }) :
    wpAny (model prog w) A (call (.type "zip") [.ref l1, .ref l2]) Q E s := by
  refine callType_new F.called_zip (by decide) (F.typeCall_zip_2 _ _) (F.newCall_zip_2 _ _) (fun obj => F.args_object_init_3 obj _ _) F.entry_zip_new (made l1 l2 xs ys) ⟨m1, m2, ?_⟩
  have n1 : (e1 s.heap l1).objs.size = s.heap.objs.size + 1 := Heap.size_push ..
  have n2 : (e2 s.heap l1 l2).objs.size = s.heap.objs.size + 2 := (Heap.size_push ..).trans (congrArg (· + 1) n1)
  have n3 : (e3 s.heap l1 l2).objs.size = s.heap.objs.size + 3 := (Heap.size_push ..).trans (congrArg (· + 1) n2)
  have n4 : (e4 s.heap l1 l2).objs.size = s.heap.objs.size + 4 := (Heap.size_push ..).trans (congrArg (· + 1) n3)
  have k1 : ∀ {c : Addr} {o : Obj}, (e1 s.heap l1).get? c = some o → (e5 s.heap l1 l2).get? c = some o := fun e => Heap.get?_push_of_some _ (Heap.get?_push_of_some _ (Heap.get?_push_of_some _ (Heap.get?_push_of_some _ e)))
  have k2 : ∀ {c : Addr} {o : Obj}, (e2 s.heap l1 l2).get? c = some o → (e5 s.heap l1 l2).get? c = some o := fun e => Heap.get?_push_of_some _ (Heap.get?_push_of_some _ (Heap.get?_push_of_some _ e))
  have g5 : (e5 s.heap l1 l2).get? (e4 s.heap l1 l2).objs.size = some _ := Heap.get?_push_size _ rfl
  have g4 : (e5 s.heap l1 l2).get? (e3 s.heap l1 l2).objs.size = some _ := Heap.get?_push_of_some _ (Heap.get?_push_size _ rfl)
  have g3 : (e5 s.heap l1 l2).get? (e2 s.heap l1 l2).objs.size = some _ := Heap.get?_push_of_some _ (Heap.get?_push_of_some _ (Heap.get?_push_size _ rfl))
  have g2 : (e5 s.heap l1 l2).get? (e1 s.heap l1).objs.size = some _ := k2 (Heap.get?_push_size _ rfl)
  have g1 : (e5 s.heap l1 l2).get? s.heap.objs.size = some _ := k1 (Heap.get?_push_size _ rfl)
  show _ ∧ _
  rw [n2, n3, n4] at g5
  rw [n3] at g4
  rw [n1, n2] at g3
  rw [n1] at g2
  rw [n4]
  exact ⟨⟨_, g5, rfl⟩, q _ g5 g3 g4 ⟨_, g1, rfl, rfl⟩ ⟨_, g2, rfl, rfl⟩ fun c o e => k1 (Heap.get?_push_of_some _ e)⟩
end
end Zq
namespace Zq
open PySem PySem.Spec PyProof.Rows L2
/-- a tuple at a, a list at b, pair by pair -/
def ItM (K : PySem.W.Frag) (a b : Addr) : It where
  go i H := ∃ (xs ys : List V) (x y : V), (SqT K H a xs ∧ xs[i]? = some x) ∧ (SqL K H b ys ∧ ys[i]? = some y)
  yld i H v H' := ∃ W x y, v = .ref W ∧ H W = none ∧ H' = upd H W (.tup [x, y]) ∧ (∀ l, SqT K H a l → l[i]? = some x) ∧ (∀ l, SqL K H b l → l[i]? = some y)
  stop i H := ∃ xs ys : List V, SqT K H a xs ∧ SqL K H b ys ∧ min xs.length ys.length ≤ i
def tnM (z S T p1 p2 a b : Addr) (i : Nat) (g : Heap) : Prop := IsZip g z S T .none ∧ IsPair g S (.ref p1) (.ref p2) ∧ (∃ x y, IsPair g T x y) ∧ itK true g p1 a i ∧ itK false g p2 b i
theorem five {z S T p1 p2 c : Addr} {M : Prop} (h : c ∈ [z, S, T, p1, p2]) (m1 : c = z → M) (m2 : c = S → M) (m3 : c = T → M) (m4 : c = p1 → M) (m5 : c = p2 → M) : M := by
  simp only [List.mem_cons, List.not_mem_nil, or_false] at h
  exact h.elim m1 fun h => h.elim m2 fun h => h.elim m3 fun h => h.elim m4 m5
theorem tnM_obj {z S T p1 p2 a b : Addr} {i : Nat} {g : Heap} (st : tnM z S T p1 p2 a b i g) {c : Addr} (hc : c ∈ [z, S, T, p1, p2]) : ∃ o, g.get? c = some o ∧ ∀ v, o.data ≠ .cell v := by
  obtain ⟨z0, S0, ⟨x, y, T0⟩, f1, f2⟩ := st
  obtain ⟨o1, g1, d1⟩ := it_obj f1
  obtain ⟨o2, g2, d2⟩ := it_obj f2
  refine five hc (fun e => ?_) (fun e => ?_) (fun e => ?_) (fun e => ?_) (fun e => ?_) <;> rw [e]
  · exact ⟨_, z0, fun _ k => nomatch k⟩
  · exact ⟨_, S0, fun _ k => nomatch k⟩
  · exact ⟨_, T0, fun _ k => nomatch k⟩
  · exact ⟨o1, g1, fun _ k => by cases d1.symm.trans k⟩
  · exact ⟨o2, g2, fun _ k => by cases d2.symm.trans k⟩
theorem turn_M {P : Program} {w : World} {K : PySem.W.Frag} {es : List Expr} {kk : Nat} {tp : Pos} {a b z S T p1 p2 : Addr} (D : ZipApart z S T p1 p2 a b) :
    Turn P w K (.Tuple es kk tp) (ItM K a b) [z, S, T, p1, p2] z (tnM z S T p1 p2 a b) where
  mem := List.mem_cons_self
  obj := fun i g st c hc => tnM_obj st hc
  keep := fun i g g' ⟨z0, S0, ⟨x, y, T0⟩, f1, f2⟩ k => ⟨k z (by simp) _ z0, k S (by simp) _ S0, ⟨x, y, k T (by simp) _ T0⟩, it_at f1 (k p1 (by simp)), it_at f2 (k p2 (by simp))⟩
  item := by
    rintro X rfl rfl rfl hc i pins s σ H E I hf st ⟨xs, ys, x, y, ⟨qx, ex⟩, qy, ey⟩
    have lts : ∀ c ∈ [z, S, T, p1, p2], c < s.heap.objs.size := fun c hm => let ⟨_, e, _⟩ := tnM_obj st hm; Heap.lt_size e
    obtain ⟨z0, S0, ⟨x0, y0, T0⟩, f1, f2⟩ := st
    obtain ⟨us, r1, m1, _⟩ := I.tuple qx
    obtain ⟨vs, r2, m2, _⟩ := I.list qy
    obtain ⟨u, eu, ru⟩ := r1.get ex
    obtain ⟨v, ev, rv⟩ := r2.get ey
    refine pyn_item (t := true) (u := false) D z0 S0 T0 f1 f2 m1 m2.isList (x := u) (y := v) (by simpa using eu) (by simpa using ev) fun g z1 T1 f1' f2' W1 n1 st => ⟨_, rfl, ?_⟩
    refine wpAny_letOwnedTupleGo_zip (s := { s with heap := g }) z1 fun g' z2 sb => ?_
    have out : ∀ c o, c ∉ [z, S, T, p1, p2] → s.heap.get? c = some o → g'.get? c = some o := fun c o hb e => by
      have h5 : c ≠ z ∧ c ≠ T ∧ c ≠ p1 ∧ c ≠ p2 := by
        simp only [List.mem_cons, List.not_mem_nil, or_false, not_or] at hb
        exact ⟨hb.1, hb.2.2.1, hb.2.2.2.1, hb.2.2.2.2⟩
      exact (sb.2 c h5.1).trans (st c o h5.1 h5.2.1 h5.2.2.1 h5.2.2.2 e)
    have W2 : g'.get? s.heap.objs.size = some { cls := .type "tuple", data := .seq #[u, v] } := (sb.2 _ (Nat.ne_of_gt (lts z List.mem_cons_self))).trans W1
    have okW : ObjOk X.prog X.w (upd H s.heap.objs.size (.tup [x, y])) g' s.heap.objs.size (.tup [x, y]) := ⟨(by decide : 2 ≤ sizeLine), [u, v], .cons ru (.cons rv .nil), ⟨_, W2, rfl, _, rfl⟩⟩
    have I' : Inv X pins σ (upd H s.heap.objs.size (.tup [x, y])) { s with heap := g' } := I.turnedNew (t' := s.toks) (ch := [z, S, T, p1, p2]) out hf (Nat.le_refl _) okW
    refine ⟨.ref s.heap.objs.size, _, I', rfl, ⟨_, x, y, rfl, I.hok.fresh (Nat.le_refl _), rfl, fun l hl => I.tuple_inj hl qx ▸ ex, fun l hl => I.list_inj hl qy ▸ ey⟩, ⟨z2, ?_, ⟨u, v, ?_⟩, it_at f1' fun o e => (sb.2 _ D.i1z).trans e, it_at f2' fun o e => (sb.2 _ D.i2z).trans e⟩, fun c hm => ?_⟩
    · exact (sb.2 _ D.TIz).trans (st _ _ D.TIz D.TITO D.TIi1 D.TIi2 S0)
    · exact (sb.2 _ D.TOz).trans T1
    · exact (upd_ne (Nat.ne_of_lt (lts c hm))).trans (hf c hm).1
  done := by
    rintro X rfl rfl rfl hc i pins s σ H E I hf ⟨z0, S0, ⟨x0, y0, T0⟩, f1, f2⟩ ⟨xs, ys, qx, qy, he⟩
    obtain ⟨us, r1, m1, _⟩ := I.tuple qx
    obtain ⟨vs, r2, m2, _⟩ := I.list qy
    have n1 := r1.length
    have n2 := r2.length
    have no : us.toArray[i]? = none ∨ vs.toArray[i]? = none := by
      simp only [List.getElem?_toArray, List.getElem?_eq_none_iff]
      omega
    refine pyn_end (t := true) (u := false) (I.ok.hd hc) D z0 S0 T0 f1 f2 m1 m2.isList no fun g st => ⟨rfl, I.turnedL (t' := s.toks) (ch := [z, S, T, p1, p2]) (fun c o hb e => ?_) hf⟩
    simp only [List.mem_cons, List.not_mem_nil, or_false, not_or] at hb
    exact st c o hb.1 hb.2.2.1 hb.2.2.2.1 hb.2.2.2.2 e
  self := fun A i s Q E st q => wpAny_pyIter_zip st.1 q
def iZipM (K : PySem.W.Frag) (ta : TA) : TI := fun σ H R => ta σ H fun vs H1 => ∃ a b xs ys, vs = [.ref a, .ref b] ∧ SqT K H1 a xs ∧ SqL K H1 b ys ∧ R (ItM K a b) H1
theorem pi_zipM {X : Cx} {e e' : Expr} {ta : TA} {p pos tp : Pos} {es : List Expr} {kk : Nat} (hg : Gl X "zip") (hm : X.mg "zip" = none) (ha : PA X [e, e'] ta)
    (hs : starEach [e, e'] X.env = (false, eval e X.env) :: starEach [e'] X.env := by rfl) (hp : (backTo pos (starEach [e'] X.env)).any (·.1) = false := by rfl) : PI X (.Tuple es kk tp) (.Call (.Name "zip" p) [e, e'] [] pos) (iZipM X.K ta) := by
  refine ⟨fun pins s σ H R I h => Call_ (ld_blt I hg hm PyProof.Rows.boot_zip (PyProof.Rows.callWith_type1 (thn (ha.run pos pins s σ H _ I h) fun us s1 ⟨vs, H1, I1, r1, a, b, xs, ys, ex, qx, qy, q⟩ => ?_) hs hp))⟩
  subst ex
  cases r1 with
  | cons ra rr =>
  cases rr with
  | cons rb rr =>
  cases rr
  cases ra
  cases rb
  obtain ⟨is, _, m1, _⟩ := I1.tuple qx
  obtain ⟨js, _, m2, _⟩ := I1.list qy
  have la : a < s1.heap.objs.size := let ⟨_, e, _⟩ := id m1; Heap.lt_size e
  refine call_zq (show s1.heap.IsTuple a is.toArray from m1) m2.isList fun g z0 S0 T0 f1 f2 k => wpAny_pyIter_zip z0 ?_
  refine ⟨s1.heap.objs.size + 4, _, _, _, H1, rfl, I1.kept (t' := s1.toks) k, turn_M (PySem.W.ktu_apart s1.heap.objs.size a b la m2.lt), ⟨z0, S0, ⟨_, _, T0⟩, f1, f2⟩, fun c hm => ?_, q⟩
  have le : s1.heap.objs.size ≤ c := five hm (fun e => by rw [e]; exact Nat.le_add_right _ 4) (fun e => by rw [e]; exact Nat.le_add_right _ 2) (fun e => by rw [e]; exact Nat.le_add_right _ 3) (fun e => by rw [e]; exact Nat.le_refl _) (fun e => by rw [e]; exact Nat.le_add_right _ 1)
  exact I1.fpOk le (I1.hok.fresh le)
theorem pi_or {X : Cx} {tg e : Expr} {t u : TI} (a : PI X tg e t) (b : PI X tg e u) : PI X tg e (fun σ H R => t σ H R ∨ u σ H R) := ⟨fun pins s σ H R I h => h.elim (a.run pins s σ H R I) (b.run pins s σ H R I)⟩
theorem walk_zipM {K : PySem.W.Frag} {a b : Addr} {xs ys : List V} {n : Nat} (hn : n = min xs.length ys.length) : Walk (ItM K a b) n (fun H => SqT K H a xs ∧ SqL K H b ys) (YPair (fun i => xs[i]?) (fun i => ys[i]?)) := by
  subst hn
  refine ⟨fun i _ hi q => ?_, fun _ q => ⟨xs, ys, q.1, q.2, Nat.le_refl _⟩, fun i H v H' _ q ⟨W, x, y, g1, g2, g3, g4, g5⟩ => ⟨W, x, y, g1, g2, g3, g4 xs q.1, g5 ys q.2⟩⟩
  exact ⟨xs, ys, xs[i]'(by omega), ys[i]'(by omega), ⟨q.1, List.getElem?_eq_getElem _⟩, q.2, List.getElem?_eq_getElem _⟩
end Zq
/-! walks over a list or a tuple, whichever comes; enumerate of a tuple -/
namespace Pw
open PySem PySem.Spec PyProof.Rows L2 Xg
open AutoSeq1 (wpAny_loadPart')
theorem en_new (t : Addr) (us : Array Value) (k : Nat) (q : Option Addr) (z : Array (Option Value)) :
    Meets (Builtin.«enumerate.__new__» ⟨[.type "enumerate", .ref t], []⟩) (fun _ R s => s.heap.get? t = some { cls := .type "tuple", dict := q, data := .seq us k, slots := z } ∧
      R (.ok (.ret (.ref (s.heap.push { cls := .type "tuple_iterator", data := .fields #[.ref t, .int 0 0] }).objs.size)))
        { s with heap := (s.heap.push { cls := .type "tuple_iterator", data := .fields #[.ref t, .int 0 0] }).push { cls := .type "enumerate", data := .fields #[.none, .bool false, .ref s.heap.objs.size, rawInt 0, .none, .none] } }) :=
  .of_wp fun prog w A R s h => by
    obtain ⟨h0, g0, d0, k0, o0⟩ := s
    obtain ⟨ht, h⟩ := h
    have su := sub_enumerate
    have hT : Heap.IsTuple (Shared.heap ⟨h0, g0, d0, k0, o0⟩) t us := ⟨_, ht, rfl, k, rfl⟩
    wp_walk using wpAny_loadPart' ht
    refine wpAny_stack_any fun st => wpAny_pure ?_
    split
    · rename_i c _ _ _ _ _
      cases (c == Value.type "enumerate")
      · wp_walk using wpAny_loadPart' ht, wpAny_pyIter_tuple hT
        exact ⟨_, rfl, h⟩
      · wp_walk using wpAny_loadPart' ht, wpAny_pyIter_tuple hT
        exact ⟨_, rfl, h⟩
    · wp_walk using wpAny_loadPart' ht, wpAny_pyIter_tuple hT
      exact ⟨_, rfl, h⟩
theorem call_en {prog : Program} {w : World} {A : Around} {E : Value → Shared → Prop} {s : Shared} {t : Addr} {us : Array Value} {Q : Value → Shared → Prop} (hT : s.heap.IsTuple t us)
    (h : ∀ g, IsEnum g (s.heap.objs.size + 1) s.heap.objs.size 0 .none → g.IsTupleIter s.heap.objs.size t 0 → (∀ c o, s.heap.get? c = some o → g.get? c = some o) → Q (.ref (s.heap.objs.size + 1)) { s with heap := g }) :
    wpAny (model prog w) A (call (.type "enumerate") [.ref t]) Q E s := by
  obtain ⟨⟨c0, dd, dt, sl⟩, ht, hc, k, hd⟩ := hT
  obtain rfl : c0 = .type "tuple" := hc
  obtain rfl : dt = .seq us k := hd
  refine callType_new F.called_enumerate (by decide) (F.typeCall_enumerate_1 _) (F.newCall_enumerate_1 _) (fun o => F.args_object_init_2 o _) F.entry_enumerate_new (en_new t us k dd sl) ⟨ht, ?_⟩
  generalize e1 : ({ cls := .type "tuple_iterator", data := .fields #[.ref t, .int 0 0] } : Obj) = ob
  have sz : (s.heap.push ob).objs.size = s.heap.objs.size + 1 := Heap.size_push ..
  show _ ∧ _
  rw [sz]
  have he : IsEnum ((s.heap.push ob).push { cls := .type "enumerate", data := .fields #[.none, .bool false, .ref s.heap.objs.size, rawInt 0, .none, .none] }) (s.heap.objs.size + 1) s.heap.objs.size 0 .none := by
    have z := Heap.get?_push_size (s.heap.push ob) (o := { cls := .type "enumerate", data := .fields #[.none, .bool false, .ref s.heap.objs.size, rawInt 0, .none, .none] }) rfl
    rw [sz] at z
    exact z
  refine ⟨⟨_, he, rfl⟩, h _ he ⟨ob, Heap.get?_push_of_some _ (Heap.get?_push_size _ (by subst e1; rfl)), by subst e1; rfl, by subst e1; rfl⟩ fun c o x => Heap.get?_push_of_some _ (Heap.get?_push_of_some _ x)⟩
def ItE (K : PySem.W.Frag) (a : Addr) : It where
  go := fun i H => ∃ (xs : List V) (x : V), SqT K H a xs ∧ xs[i]? = some x
  yld := fun i H v H' => ∃ T x, v = .ref T ∧ H T = none ∧ H' = upd H T (.tup [.int (i : Nat), x]) ∧ ∀ xs, SqT K H a xs → xs[i]? = some x
  stop := fun i H => ∃ xs : List V, SqT K H a xs ∧ xs.length = i
theorem turn_E {P : Program} {w : World} {K : PySem.W.Frag} {es : List Expr} {kk : Nat} {tp : Pos} (a e it : Addr) (n1 : e ≠ it) (n2 : a ≠ it) (n3 : e ≠ a) :
    Turn P w K (.Tuple es kk tp) (ItE K a) [e, it] e (fun i h => (∃ old, IsEnum h e it ((i : Nat) : Int) old) ∧ h.IsTupleIter it a i) where
  mem := List.mem_cons_self ..
  obj := fun i h st c hc => by
    obtain ⟨⟨old, he⟩, o, ho, _, hd⟩ := st
    rcases List.mem_cons.mp hc with z | z
    · subst z
      exact ⟨_, he, fun v q => nomatch q⟩
    · rw [List.mem_singleton.mp z]
      exact ⟨o, ho, fun v q => by rw [hd] at q; cases q⟩
  keep := fun i h h' st k => ⟨let ⟨old, he⟩ := st.1; ⟨old, k e (by simp) _ he⟩, st.2.at fun o q => k it (by simp) o q⟩
  item := by
    intro X hP hw hK hc i pins s σ H E I hf st hg
    subst hP hw hK
    obtain ⟨⟨old, he⟩, hit⟩ := st
    obtain ⟨xs, x, hq, hx⟩ := hg
    obtain ⟨us, rv, p, _⟩ := I.tuple hq
    obtain ⟨u, hu, ru⟩ := rv.get hx
    have l1 : e < s.heap.objs.size := Heap.lt_size he
    have l2 : it < s.heap.objs.size := let ⟨_, q, _⟩ := hit; Heap.lt_size q
    have il : i < us.toArray.size := by
      rw [List.size_toArray]
      exact (List.getElem?_eq_some_iff.mp hu).1
    refine wpAny_pyNext_enum_itemD (Draws.tuple (A := X.A.in1) (I.ok.hd hc) it a n2 us.toArray) he ⟨hit, p⟩ il n1 (by simp [n1, n3]) fun y g tk hy ho hs hT _ hk => ?_
    obtain rfl : u = y := by
      rw [List.getElem?_toArray, hu] at hy
      exact Option.some.inj hy
    refine ⟨_, rfl, wpAny_letOwnedTupleGo_enum (s := { s with heap := g, toks := tk + 1 }) ho fun g2 he2 sb => ?_⟩
    have hT2 := (sb.2 _ (Nat.ne_of_gt l1)).trans hT
    have ok : ObjOk X.prog X.w (upd H s.heap.objs.size (.tup [.int (i : Nat), x])) g2 s.heap.objs.size (.tup [.int (i : Nat), x]) :=
      ⟨by show 2 ≤ sizeLine; decide, [.int i tk, u], .cons ⟨_, rfl⟩ (.cons ru .nil), ⟨_, hT2, rfl, _, rfl⟩⟩
    have J : Inv X pins σ (upd H s.heap.objs.size (.tup [.int (i : Nat), x])) { s with heap := g2, toks := tk + 1 } :=
      I.turnedNew (ch := [e, it]) (fun c ob hb q => by
        rw [List.mem_cons, List.mem_singleton, not_or] at hb
        exact (sb.2 c hb.1).trans (hk c ob hb.1 hb.2 q)) hf (Nat.le_refl _) ok
    refine ⟨.ref s.heap.objs.size, _, J, rfl, ⟨_, x, rfl, I.hok.fresh (Nat.le_refl _), rfl, fun ys hy => ?_⟩, ⟨⟨u, ?_⟩, hs.1.at fun o q => (sb.2 it n1.symm).trans q⟩, fun c hc => ?_⟩
    · rw [I.tuple_inj hy hq]
      exact hx
    · rw [show ((i + 1 : Nat) : Int) = (i : Int) + 1 by omega]
      exact he2
    · have lc : c < s.heap.objs.size := by
        rcases List.mem_cons.mp hc with z | z
        · rw [z]; exact l1
        · rw [List.mem_singleton.mp z]; exact l2
      rw [upd_ne (Nat.ne_of_lt lc)]
      exact (hf c hc).1
  done := by
    intro X hP hw hK hc i pins s σ H E I hf st hg
    subst hP hw hK
    obtain ⟨⟨old, he⟩, hit⟩ := st
    obtain ⟨xs, hq, hx⟩ := hg
    obtain ⟨us, rv, p, _⟩ := I.tuple hq
    obtain ⟨f0, f1, f2, f3, f4, f5⟩ := hf it (by simp)
    have ln : i = us.toArray.size := by
      rw [List.size_toArray, ← rv.length]
      exact hx.symm
    subst ln
    exact wpAny_pyNext_enum_endD (Draws.tuple (A := X.A.in1) (I.ok.hd hc) it a n2 us.toArray) he ⟨hit, p⟩ fun g eb => ⟨rfl, I.turned (t' := s.toks) (fun c o hb q => eb c o hb q) f0 f1 f3 f4 f5⟩
  self := fun A i s Q E st h => let ⟨⟨_, he⟩, _⟩ := st; wpAny_pyIter_enum he h
/-- enumerate(x), x a list or a tuple -/
def iEnumX (K : PySem.W.Frag) (ta : TA) : TI := fun σ H R => ta σ H fun vs H1 => ∃ a xs, vs = [.ref a] ∧ ((SqL K H1 a xs ∧ R (Ite K a) H1) ∨ (SqT K H1 a xs ∧ R (ItE K a) H1))
theorem pi_enumX {X : Cx} {e : Expr} {ta : TA} {p pos tp : Pos} {es : List Expr} {kk : Nat} (hg : Gl X "enumerate") (hm : X.mg "enumerate" = none) (ha : PA X [e] ta) (hs : starEach [e] X.env = [(false, eval e X.env)] := by rfl) :
    PI X (.Tuple es kk tp) (.Call (.Name "enumerate" p) [e] [] pos) (iEnumX X.K ta) := by
  refine ⟨fun pins s σ H R I h => Call_ (ld_blt I hg hm boot_enumerate (PyProof.Rows.callWith_type1 (thn (ha.run pos pins s σ H _ I h) fun us s1 ⟨vs, H1, I1, r1, a, xs, ex, q⟩ => ?_) hs rfl))⟩
  subst ex
  cases r1 with
  | cons r rr =>
  cases rr
  cases r
  have fp : ∀ c ∈ [s1.heap.objs.size + 1, s1.heap.objs.size], FpOk X pins H1 c := fun c hc => by
    have le : s1.heap.objs.size ≤ c := by
      rcases List.mem_cons.mp hc with z | z
      · rw [z]; exact Nat.le_add_right _ 1
      · rw [List.mem_singleton.mp z]; exact Nat.le_refl _
    exact I1.fpOk le (I1.hok.fresh le)
  rcases q with ⟨hq, q⟩ | ⟨hq, q⟩
  · obtain ⟨is, _, m1, _⟩ := I1.list hq
    refine call_enumerate_list m1.isList fun g he hit _ hk => wpAny_pyIter_enum he ⟨_, _, _, _, H1, rfl, I1.kept (t' := s1.toks) hk, turn_enum a (s1.heap.objs.size + 1) s1.heap.objs.size, ⟨⟨.none, he⟩, hit, Nat.succ_ne_self _⟩, fp, q⟩
  · obtain ⟨is, _, m1, _⟩ := I1.tuple hq
    have la : a < s1.heap.objs.size := let ⟨_, e, _⟩ := id m1; Heap.lt_size e
    refine call_en (show s1.heap.IsTuple a is.toArray from m1) fun g he hit hk => wpAny_pyIter_enum he ⟨_, _, _, _, H1, rfl, I1.kept (t' := s1.toks) hk,
      turn_E a (s1.heap.objs.size + 1) s1.heap.objs.size (Nat.succ_ne_self _) (Nat.ne_of_lt la) (Nat.ne_of_gt (Nat.lt_succ_of_lt la)), ⟨⟨.none, he⟩, hit⟩, fp, q⟩
theorem walk_E {K : PySem.W.Frag} {a : Addr} {xs : List V} : Walk (ItE K a) xs.length (fun H => SqT K H a xs) (YPair (fun i => some (.int (i : Nat))) (fun i => xs[i]?)) :=
  ⟨fun i _ hi q => ⟨xs, xs[i], q, List.getElem?_eq_getElem _⟩, fun _ q => ⟨xs, q, rfl⟩, fun i H v H' _ q ⟨T, x, g1, g2, g3, g4⟩ => ⟨T, .int (i : Nat), x, g1, g2, g3, rfl, g4 xs q⟩⟩
/-- x, a list or a tuple -/
def iSeq (K : PySem.W.Frag) (tl : TE) : TI := fun σ H R => tl σ H fun x H1 => ∃ a, x = .ref a ∧ (((∃ xs, SqL K H1 a xs) ∧ R (Itl K a) H1) ∨ ((∃ xs, SqT K H1 a xs) ∧ R (Itt K a) H1))
theorem pi_seq {X : Cx} {tg l : Expr} {tl : TE} (hl : PE X l tl) : PI X tg l (iSeq X.K tl) := by
  refine ⟨fun pins s σ H R I h => thn (hl.run pins s σ H _ I h) fun v s1 ⟨x, H1, I1, r1, a, e, q⟩ => ?_⟩
  subst e
  cases r1
  have fp : ∀ c ∈ [s1.heap.objs.size], FpOk X pins H1 c := fun c hc => by
    rw [List.mem_singleton.mp hc]
    exact I1.fpOk (Nat.le_refl _) (I1.hok.fresh (Nat.le_refl _))
  rcases q with ⟨⟨xs, hq⟩, q⟩ | ⟨⟨xs, hq⟩, q⟩
  · obtain ⟨is, _, m1, _⟩ := I1.list hq
    exact wpAny_pyIter_list m1.isList ⟨_, _, _, _, H1, rfl, I1.kept (t' := s1.toks) fun c o e => Heap.get?_push_of_some _ e, turn_list a _, ⟨_, Heap.get?_push_size _ rfl, rfl, rfl⟩, fp, q⟩
  · obtain ⟨is, _, m1, _⟩ := I1.tuple hq
    exact wpAny_pyIter_tuple (show s1.heap.IsTuple a is.toArray from m1) ⟨_, _, _, _, H1, rfl, I1.kept (t' := s1.toks) fun c o e => Heap.get?_push_of_some _ e, turn_tuple a _, ⟨_, Heap.get?_push_size _ rfl, rfl, rfl⟩, fp, q⟩
/-- zip(x, y), each a list or a tuple (not a list with a tuple) -/
def iZipX (K : PySem.W.Frag) (ta : TA) : TI := fun σ H R => ta σ H fun vs H1 => ∃ a b xs ys, vs = [.ref a, .ref b] ∧ ((SqL K H1 a xs ∧ SqL K H1 b ys ∧ R (Itz K a b) H1) ∨ (SqT K H1 a xs ∧ SqT K H1 b ys ∧ R (RZ.ItzT K a b) H1) ∨ (SqT K H1 a xs ∧ SqL K H1 b ys ∧ R (Zq.ItM K a b) H1))
theorem pi_zipX {X : Cx} {e e' : Expr} {ta : TA} {p pos tp : Pos} {es : List Expr} {kk : Nat} (hg : Gl X "zip") (hm : X.mg "zip" = none) (ha : PA X [e, e'] ta)
    (hs : starEach [e, e'] X.env = (false, eval e X.env) :: starEach [e'] X.env := by rfl) (hp : (backTo pos (starEach [e'] X.env)).any (·.1) = false := by rfl) : PI X (.Tuple es kk tp) (.Call (.Name "zip" p) [e, e'] [] pos) (iZipX X.K ta) := by
  refine ⟨fun pins s σ H R I h => Call_ (ld_blt I hg hm PyProof.Rows.boot_zip (PyProof.Rows.callWith_type1 (thn (ha.run pos pins s σ H _ I h) fun us s1 ⟨vs, H1, I1, r1, a, b, xs, ys, ex, q⟩ => ?_) hs hp))⟩
  subst ex
  cases r1 with
  | cons ra rr =>
  cases rr with
  | cons rb rr =>
  cases rr
  cases ra
  cases rb
  have fp : ∀ c ∈ [s1.heap.objs.size + 4, s1.heap.objs.size + 2, s1.heap.objs.size + 3, s1.heap.objs.size, s1.heap.objs.size + 1], FpOk X pins H1 c := fun c hc => by
    have le : s1.heap.objs.size ≤ c := by
      simp only [List.mem_cons, List.not_mem_nil, or_false] at hc
      omega
    exact I1.fpOk le (I1.hok.fresh le)
  rcases q with ⟨qx, qy, q⟩ | ⟨qx, qy, q⟩ | ⟨qx, qy, q⟩
  · obtain ⟨is, _, m1, _⟩ := I1.list qx
    obtain ⟨js, _, m2, _⟩ := I1.list qy
    exact call_zip_2 m1.isList m2.isList fun g z0 S0 T0 f1 f2 _ k => wpAny_pyIter_zip z0 ⟨_, _, _, _, H1, rfl, I1.kept (t' := s1.toks) k, turn_zip (PySem.W.ktu_apart s1.heap.objs.size a b m1.lt m2.lt), ⟨z0, S0, ⟨_, _, T0⟩, f1, f2⟩, fp, q⟩
  · obtain ⟨is, _, m1, _⟩ := I1.tuple qx
    obtain ⟨js, _, m2, _⟩ := I1.tuple qy
    have la : a < s1.heap.objs.size := let ⟨_, e, _⟩ := id m1; Heap.lt_size e
    have lb : b < s1.heap.objs.size := let ⟨_, e, _⟩ := id m2; Heap.lt_size e
    exact RZ.call_zipT (show s1.heap.IsTuple a is.toArray from m1) (show s1.heap.IsTuple b js.toArray from m2) fun g z0 S0 T0 f1 f2 _ k => wpAny_pyIter_zip z0 ⟨_, _, _, _, H1, rfl, I1.kept (t' := s1.toks) k, RZ.turn_zipT (PySem.W.ktu_apart s1.heap.objs.size a b la lb), ⟨z0, S0, ⟨_, _, T0⟩, f1, f2⟩, fp, q⟩
  · obtain ⟨is, _, m1, _⟩ := I1.tuple qx
    obtain ⟨js, _, m2, _⟩ := I1.list qy
    have la : a < s1.heap.objs.size := let ⟨_, e, _⟩ := id m1; Heap.lt_size e
    exact Zq.call_zq (show s1.heap.IsTuple a is.toArray from m1) m2.isList fun g z0 S0 T0 f1 f2 k => wpAny_pyIter_zip z0 ⟨_, _, _, _, H1, rfl, I1.kept (t' := s1.toks) k, Zq.turn_M (PySem.W.ktu_apart s1.heap.objs.size a b la m2.lt), ⟨z0, S0, ⟨_, _, T0⟩, f1, f2⟩, fp, q⟩
theorem walk_zT {K : PySem.W.Frag} {a b : Addr} {xs ys : List V} {n : Nat} (hn : n = min xs.length ys.length) : Walk (RZ.ItzT K a b) n (fun H => SqT K H a xs ∧ SqT K H b ys) (YPair (fun i => xs[i]?) (fun i => ys[i]?)) := by
  subst hn
  refine ⟨fun i _ hi q => ⟨xs, ys, xs[i]'(by omega), ys[i]'(by omega), q.1, q.2, List.getElem?_eq_getElem _, List.getElem?_eq_getElem _⟩, fun _ q => ⟨xs, ys, q.1, q.2, by omega⟩, fun i H v H' _ q ⟨T, x, z, g1, g2, g3, g4, g5⟩ => ⟨T, x, z, g1, g2, g3, g4 xs q.1, g5 ys q.2⟩⟩
/-- a[lo:hi], a list or a tuple -/
theorem sl_or {X : Cx} {r1 r2 : V → Option Int → Option Int → Hp → VK → Prop} (a : SlR X r1) (b : SlR X r2) : SlR X (fun x lo hi H Q => r1 x lo hi H Q ∨ r2 x lo hi H Q) :=
  fun pins s σ H x v vl vu lo hi sl Q I rx hs pl pu h => h.elim (a pins s σ H x v vl vu lo hi sl Q I rx hs pl pu) (b pins s σ H x v vl vu lo hi sl Q I rx hs pl pu)
theorem pe_one_or {X : Cx} {e : Expr} {t u : TE} (a : PE X e t) (b : PE X e u) : PE X e (fun σ H Q => t σ H Q ∨ u σ H Q) := pe_or a b
end Pw
namespace Dv
open PySem PySem.Spec PyProof.Rows L2 Xg
open Classical
section
variable {K : PySem.W.Frag} {md : Bool} {ta tb te : TE} {ca cb c : Nat} {fa fb fe : FE}
/-! what is handed to a def -/
abbrev aNil : FA := fun _ Q => Q []
abbrev aCons (f : FE) (g : FA) : FA := fun ρ Q => f ρ fun d => g ρ fun as => Q (.dt d :: as)
abbrev aBox (i : Nat) (g : FA) : FA := fun ρ Q => match ρ[i]? with
  | some .box => g ρ fun as => Q (.box :: as)
  | _ => False
abbrev aScr (i : Nat) (g : FA) : FA := fun ρ Q => match ρ[i]? with
  | some (.scr ns) => g ρ fun as => Q (.scr ns :: as)
  | _ => False
theorem ArgR.step {b : Option Addr} {S : Addr → Prop} {H H' : Hp} {v : V} {s : Sl} (h : ArgR K b S H v s) (st : Stp b H H') (bs : ∀ p, b = some p → S p) : ArgR K b S H' v s := by
  cases s with
  | dt d => exact Da.mono (st.rm bs) h
  | box => exact h
  | scr ns =>
    obtain ⟨p, e, g⟩ := h
    exact ⟨p, e, Evl.ex_l (st.rm bs) g⟩
  | no => exact h.elim
  | own _ => exact h.elim
theorem snda_nil : SndA K tNil 0 aNil := ⟨fun ρ P P' h g => h _ g, fun E hm hf k => k _ _ _ hf Stp.refl E.bx .nil⟩
variable {tr : TA} {fr : FA} {cr n : Nat}
theorem snda_cons (a : Snd true K ta ca fa) (r : SndA K tr cr fr) : SndA K (tCons ta tr) (ca + cr) (aCons fa fr) :=
  ⟨fun ρ P P' h g => a.mono _ _ _ (fun d => r.mono _ _ _ fun ds => h _) g, fun E hm hf k => a.go E (by omega) hf fun d v H1 h1 s1 b1 d1 =>
    r.go (E.step s1 b1) (by omega) h1 fun ds vs H2 h2 s2 b2 d2 => k _ _ _ h2 (s1.trans s2) (b2.le (by omega)) (.cons (Da.mono (s2.rm E.bs) d1) d2)⟩
theorem snda_box {i : Nat} (r : SndA K tr cr fr) : SndA K (tCons (tVar i) tr) cr (aBox i fr) :=
  ⟨fun ρ P P' h g => by
      unfold aBox at g ⊢
      split at g
      · exact r.mono _ _ _ (fun ds => h _) g
      · exact g.elim,
   fun {b S m σ H ρ Q P} E hm hf k => by
      unfold aBox at hf
      split at hf
      · rename_i e
        obtain ⟨p, e1, e2⟩ := E.sl i _ e
        exact ⟨.ref p, e1, r.go E hm hf fun ds vs H2 h2 s2 b2 d2 => k _ _ _ h2 s2 b2 (.cons ⟨p, rfl, e2⟩ d2)⟩
      · exact hf.elim⟩
theorem snda_scr {i : Nat} (r : SndA K tr cr fr) : SndA K (tCons (tVar i) tr) cr (aScr i fr) :=
  ⟨fun ρ P P' h g => by
      unfold aScr at g ⊢
      split at g
      · exact r.mono _ _ _ (fun ds => h _) g
      · exact g.elim,
   fun {b S m σ H ρ Q P} E hm hf k => by
      unfold aScr at hf
      split at hf
      · rename_i ns e
        obtain ⟨p, e1, e2⟩ := E.sl i _ e
        exact ⟨.ref p, e1, r.go E hm hf fun ds vs H2 h2 s2 b2 d2 => k _ _ _ h2 s2 b2 (.cons ⟨p, rfl, Evl.ex_l (s2.rm E.bs) e2⟩ d2)⟩
      · exact hf.elim⟩
/-! a def's promise -/
abbrev FF := List Sl → (PyData → Prop) → Prop
abbrev FFL := List Sl → (List PyData → Prop) → Prop
def spD (K : PySem.W.Frag) (c : Nat) (F : FF) : Sp := fun vs H Q _ => ∃ (b : Option Addr) (S : Addr → Prop) (m : Nat) (as : List Sl), ArgL K b S H vs as ∧ BxO b H m ∧ (∀ p, b = some p → S p) ∧ Al S H ∧ m + c ≤ LIM ∧
  F as (fun d => ∀ v H', Stp b H H' → BxO b H' (m + c) → Da K (rm H' S) v d → Q v H')
def spL (K : PySem.W.Frag) (c : Nat) (F : FFL) : Sp := fun vs H Q _ => ∃ (b : Option Addr) (S : Addr → Prop) (m : Nat) (as : List Sl), ArgL K b S H vs as ∧ BxO b H m ∧ (∀ p, b = some p → S p) ∧ Al S H ∧ m + c ≤ LIM ∧
  F as (fun ds => ∀ vs p H', H p = none → Stp b H H' → BxO b H' (m + c) → H' p = some (.lst vs) → DaL K (rm H' fun a => S a ∨ a = p) vs ds → Q (.ref p) H')
def MonoF (F : FF) : Prop := ∀ as (P P' : PyData → Prop), (∀ d, P d → P' d) → F as P → F as P'
def MonoL (F : FFL) : Prop := ∀ as (P P' : List PyData → Prop), (∀ d, P d → P' d) → F as P → F as P'
abbrev eCall (F : FF) (fr : FA) : FE := fun ρ Q => fr ρ fun as => F as Q
theorem snd_call {F : FF} (mF : MonoF F) (r : SndA K tr cr fr) : Snd true K (tCallG (spD K c F) tr) (cr + c) (eCall F fr) := mk_snd
  (fun ρ P P' h g => r.mono _ _ _ (fun as => mF as _ _ h) g)
  (fun {b S m σ H ρ Q P} E hm hf k => r.go E (by omega) hf fun as vs H1 h1 s1 b1 d1 => ⟨b, S, m + cr, as, d1, b1, E.bs, (E.step s1 b1).al, by omega,
    mF _ _ _ (fun d p v H' s2 b2 d2 => k _ _ _ p (s1.trans s2) (b2.le (by omega)) d2) h1⟩)
theorem sndl_call {F : FFL} (mF : MonoL F) (r : SndA K tr cr fr) : SndL K (tCallG (spL K c F) tr) (cr + c) (fun ρ Q => fr ρ fun as => F as Q) := ⟨
  (fun ρ P P' h g => r.mono _ _ _ (fun as => mF as _ _ h) g),
  (fun {b S m σ H ρ Q P} E hm hf k => r.go E (by omega) hf fun as vs H1 h1 s1 b1 d1 => ⟨b, S, m + cr, as, d1, b1, E.bs, (E.step s1 b1).al, by omega,
    mF _ _ _ (fun d p vs q H' np s2 b2 e g => k _ _ _ _ p (back s1 b1 np) (s1.trans s2) (b2.le (by omega)) e g) h1⟩)⟩
/-- a call that tells something without parts, of lists that are still being made -/
abbrev eCallF (F : FF) (fd : FD) : FE := fun ρ Q => fd ρ fun ds => F (ds.map Sl.dt) fun d => flat d = true ∧ Q d
theorem VwL.args {b : Option Addr} {S : Addr → Prop} {H : Hp} (bs : ∀ p, b = some p → S p) : ∀ {vs : List V} {ds : List PyData}, VwL md K b S H vs ds → ArgL K b (fun a => b = some a) H vs (ds.map Sl.dt)
  | _, _, .nil => .nil
  | v :: vs, d :: ds, .cons h g => .cons (show Da K (rm H fun a => b = some a) v d from by
      cases h.vw with
      | st h1 => exact h1.mono (rm_sub bs)
      | ow n h1 g1 => exact .lst (by rw [rm_out n]; exact h1) (g1.mono (rm_sub bs))) (VwL.args bs g)
theorem snd_callF {F : FF} {tr : TA} {fd : FD} (mF : MonoF F) (r : SndD md K tr n cr fd) : Snd true K (tCallG (spD K c F) tr) (cr + c) (eCallF F fd) := mk_snd
  (fun ρ P P' h g => r.mono _ _ _ (fun as => mF _ _ _ fun d z => ⟨z.1, h _ z.2⟩) g)
  (fun {b S m σ H ρ Q P} E hm hf k => r.go E (by omega) hf fun as vs H1 h1 l s1 b1 d1 => ⟨b, fun a => b = some a, m + cr, _, d1.args E.bs, b1, fun p e => e, (fun a e => (E.step s1 b1).al a (E.bs a e)), by omega,
    mF _ _ _ (fun d p v H' s2 b2 d2 => k _ _ _ p.2 (s1.trans s2) (b2.le (by omega)) (Da.flat d2 p.1)) h1⟩)
/-! targets -/
abbrev FG := PyData → List Sl → (List Sl → Prop) → Prop
abbrev FGs := List PyData → List Sl → (List Sl → Prop) → Prop
/-- slots not of vs are as they were; no list that is being made came up -/
structure Kpt (vs : List Nat) (σ σ' : L2.St) (ρ ρ' : List Sl) : Prop where
  sg : wipe σ' vs = wipe σ vs
  own : ∀ (i : Nat) (ds : List PyData), ρ'[i]? = some (.own ds) → ρ[i]? = some (.own ds) ∧ σ'[i]? = σ[i]?
theorem Kpt.refl {vs : List Nat} {σ : L2.St} {ρ : List Sl} : Kpt vs σ σ ρ ρ := ⟨rfl, fun i ds h => ⟨h, rfl⟩⟩
theorem Kpt.trans {vs : List Nat} {σ σ1 σ2 : L2.St} {ρ ρ1 ρ2 : List Sl} (h : Kpt vs σ σ1 ρ ρ1) (g : Kpt vs σ1 σ2 ρ1 ρ2) : Kpt vs σ σ2 ρ ρ2 :=
  ⟨g.sg.trans h.sg, fun i ds e => let ⟨e1, e2⟩ := g.own i ds e; let ⟨e3, e4⟩ := h.own i ds e1; ⟨e3, e2.trans e4⟩⟩
theorem wipe_set {x : Option V} {i : Nat} : ∀ {vs : List Nat} {σ : L2.St}, i ∈ vs → wipe (σ.set i x) vs = wipe σ vs
  | v :: vs, σ, h => by
    unfold wipe
    by_cases e : i ∈ vs
    · rw [wipe_set e]
    · have z : i = v := (List.mem_cons.mp h).resolve_right e
      subst z
      have q : ∀ {vs : List Nat} {σ : L2.St}, i ∉ vs → wipe (σ.set i x) vs = (wipe σ vs).set i x := by
        intro vs
        induction vs with
        | nil => intro σ _; rfl
        | cons v vs ih =>
          intro σ hn
          rw [List.mem_cons, not_or] at hn
          unfold wipe
          rw [ih hn.2, List.set_comm _ _ hn.1]
      rw [q e, List.set_set]
theorem wipe_get : ∀ {vs : List Nat} {σ : L2.St} {i : Nat}, (wipe σ vs)[i]? = if i ∈ vs then σ[i]?.map (fun _ => none) else σ[i]?
  | [], σ, i => by simp [wipe]
  | v :: vs, σ, i => by
    unfold wipe
    rw [List.getElem?_set, wipe_length, wipe_get (vs := vs)]
    by_cases e : v = i
    · subst e
      rw [if_pos rfl, if_pos (List.mem_cons_self ..)]
      split
      · rename_i l
        rw [List.getElem?_eq_getElem l]
        rfl
      · rename_i l
        rw [List.getElem?_eq_none (by omega)]
        rfl
    · rw [if_neg e]
      by_cases q : i ∈ vs
      · rw [if_pos q, if_pos (List.mem_cons_of_mem _ q)]
      · rw [if_neg q, if_neg (by rw [List.mem_cons, not_or]; exact ⟨fun z => e z.symm, q⟩)]
theorem wipe_wipe {vs : List Nat} {σ : L2.St} : wipe (wipe σ vs) vs = wipe σ vs := List.ext_getElem? fun i => by
  rw [wipe_get, wipe_get]
  by_cases q : i ∈ vs
  · rw [if_pos q, if_pos q]
    cases σ[i]? <;> rfl
  · rw [if_neg q, if_neg q]
structure SndG (K : PySem.W.Frag) (g : TG) (vs : List Nat) (f : FG) : Prop where
  mono : ∀ d (ρ : List Sl) (P P' : List Sl → Prop), (∀ d, P d → P' d) → f d ρ P → f d ρ P'
  go : ∀ {b : Option Addr} {S : Addr → Prop} {m : Nat} {σ : L2.St} {H : Hp} {ρ : List Sl} {Q : L2.St → Hp → Prop} {P : List Sl → Prop} {v : V} {d : PyData}, DEnv K b S m H σ ρ → Da K (rm H S) v d → f d ρ P →
    (∀ ρ' σ', P ρ' → DEnv K b S m H σ' ρ' → Kpt vs σ σ' ρ ρ' → Q σ' H) → g v σ H Q
structure SndGs (K : PySem.W.Frag) (g : TGs) (vs : List Nat) (f : FGs) : Prop where
  mono : ∀ d (ρ : List Sl) (P P' : List Sl → Prop), (∀ d, P d → P' d) → f d ρ P → f d ρ P'
  go : ∀ {b : Option Addr} {S : Addr → Prop} {m : Nat} {σ : L2.St} {H : Hp} {ρ : List Sl} {Q : L2.St → Hp → Prop} {P : List Sl → Prop} {us : List V} {ds : List PyData}, DEnv K b S m H σ ρ → DaL K (rm H S) us ds → f ds ρ P →
    (∀ ρ' σ', P ρ' → DEnv K b S m H σ' ρ' → Kpt vs σ σ' ρ ρ' → Q σ' H) → g us σ H Q
theorem DEnv.set {b : Option Addr} {S : Addr → Prop} {m : Nat} {σ : L2.St} {H : Hp} {ρ : List Sl} {i : Nat} {v : V} {s : Sl} (E : DEnv K b S m H σ ρ) (h : ∀ x, x = some (some v) → SlR K b S H x s) : DEnv K b S m H (σ.set i (some v)) (ρ.set i s) :=
  ⟨by rw [List.length_set, List.length_set, E.len], fun j t e => by
    rw [List.getElem?_set] at e
    rw [List.getElem?_set]
    by_cases z : i = j
    · rw [if_pos z] at e ⊢
      rw [E.len]
      split at e
      · rename_i l
        cases e
        rw [if_pos l]
        exact h _ rfl
      · cases e
    · rw [if_neg z] at e ⊢
      exact E.sl j t e, E.bx, E.bs, E.al⟩
abbrev gN (i : Nat) : FG := fun d ρ Q => Q (ρ.set i (.dt d))
theorem kpt_set {vs : List Nat} {σ : L2.St} {ρ : List Sl} {i : Nat} {v : V} {d : PyData} (hi : i ∈ vs) : Kpt vs σ (σ.set i (some v)) ρ (ρ.set i (.dt d)) :=
  ⟨wipe_set hi, fun j ds e => by
    rw [List.getElem?_set] at e
    by_cases z : i = j
    · rw [if_pos z] at e
      split at e <;> cases e
    · rw [if_neg z] at e
      exact ⟨e, by rw [List.getElem?_set, if_neg z]⟩⟩
theorem sndg_name {i : Nat} {vs : List Nat} (hi : i ∈ vs) : SndG K (gName i) vs (gN i) :=
  ⟨fun d ρ P P' h g => h _ g, fun E hd hf k => k _ _ hf (E.set fun x e => ⟨_, e, hd⟩) (kpt_set hi)⟩
abbrev gsNil : FGs := fun ds ρ Q => match ds with
  | [] => Q ρ
  | _ => False
abbrev gsCons (f : FG) (g : FGs) : FGs := fun ds ρ Q => match ds with
  | d :: r => f d ρ fun ρ' => g r ρ' Q
  | [] => False
theorem sndgs_nil {vs : List Nat} : SndGs K gNil vs gsNil := ⟨fun d ρ P P' h g => by
    cases d with
    | nil => exact h _ g
    | cons => exact g.elim, fun E hd hf k => by
    cases hd with
    | nil => exact ⟨rfl, k _ _ hf E Kpt.refl⟩
    | cons _ _ => exact hf.elim⟩
theorem sndgs_cons {vs : List Nat} {g : TG} {u : TGs} {f : FG} {fu : FGs} (a : SndG K g vs f) (r : SndGs K u vs fu) : SndGs K (gCons g u) vs (gsCons f fu) := ⟨fun d ρ P P' h g => by
    cases d with
    | nil => exact g.elim
    | cons => exact a.mono _ _ _ _ (fun ρ' => r.mono _ _ _ _ h) g, fun E hd hf k => by
    cases hd with
    | nil => exact hf.elim
    | cons h1 h2 => exact ⟨_, _, rfl, a.go E h1 hf fun ρ1 σ1 p1 E1 k1 => r.go E1 h2 p1 fun ρ2 σ2 p2 E2 k2 => k _ _ p2 E2 (k1.trans k2)⟩⟩
abbrev gT (g : FGs) : FG := fun d ρ Q => match d with
  | .tuple ds => g ds ρ Q
  | .list ds => g ds ρ Q
  | _ => False
theorem sndg_tup {vs : List Nat} {k : Nat} {u : TGs} {fu : FGs} (r : SndGs K u vs fu) (hn : ∀ ds ρ P, fu ds ρ P → ds.length = k) : SndG K (fun v σ H Q => gTup K k u v σ H Q ∨ gLst K k u v σ H Q) vs (gT fu) := ⟨fun d ρ P P' h g => by
    cases d <;> first | exact r.mono _ _ _ _ h g | exact g.elim, fun E hd hf q => by
    cases hd with
    | tup h1 h2 => exact .inl ⟨_, _, rfl, Evl.ex_t rm_le h1, by rw [h2.len]; exact hn _ _ _ hf, r.go E h2 hf q⟩
    | lst h1 h2 => exact .inr ⟨_, _, rfl, .inl (.inl (rm_le _ _ h1)), by rw [h2.len]; exact hn _ _ _ hf, r.go E h2 hf q⟩
    | _ => exact hf.elim⟩
theorem gs_len0 : ∀ ds ρ P, gsNil ds ρ P → ds.length = 0 := fun ds ρ P h => by
  cases ds with
  | nil => rfl
  | cons => exact h.elim
theorem gs_lenS {f : FG} {g : FGs} {k : Nat} (mf : ∀ d (ρ : List Sl) (P : List Sl → Prop), f d ρ P → ∃ ρ', P ρ') (h : ∀ ds ρ P, g ds ρ P → ds.length = k) : ∀ ds ρ P, gsCons f g ds ρ P → ds.length = k + 1 := fun ds ρ P e => by
  cases ds with
  | nil => exact e.elim
  | cons d r =>
    obtain ⟨ρ', z⟩ := mf _ _ _ e
    rw [List.length_cons, h _ _ _ z]
/-! what is walked -/
def KG (md : Bool) (b : Option Addr) (S : Addr → Prop) (H1 H2 : Hp) : Prop := match md with
  | true => Evl.Ex (rm H1 S) (rm H2 S)
  | false => Stp b H1 H2
def Wk (md : Bool) (K : PySem.W.Frag) (b : Option Addr) (S : Addr → Prop) (H1 : Hp) (J : It) (ds : List PyData) : Prop :=
  Walk J ds.length (fun H2 => KG md b S H1 H2) (fun i H v H' => ∀ T, Evl.Ex (rm H1 S) (rm H T) → Al T H → Evl.Ex H H' ∧ ∃ d, ds[i]? = some d ∧ Da K (rm H' T) v d)
theorem KG.ex {b : Option Addr} {S : Addr → Prop} {H1 H2 : Hp} (h : KG md b S H1 H2) (bs : ∀ p, b = some p → S p) : Evl.Ex (rm H1 S) (rm H2 S) := by
  cases md with
  | true => exact h
  | false => exact Stp.rm h bs
theorem KG.refl {b : Option Addr} {S : Addr → Prop} {H1 : Hp} : KG md b S H1 H1 := by
  cases md with
  | true => exact Evl.Ex.refl _
  | false => exact Stp.refl
structure SndI (md : Bool) (K : PySem.W.Frag) (wi : TI) (c : Nat) (f : FD) : Prop where
  mono : ∀ (ρ : List Sl) (P P' : List PyData → Prop), (∀ d, P d → P' d) → f ρ P → f ρ P'
  go : ∀ {b : Option Addr} {S : Addr → Prop} {m : Nat} {σ : L2.St} {H : Hp} {ρ : List Sl} {R : It → Hp → Prop} {P : List PyData → Prop}, DEnv K b S m H σ ρ → m + c ≤ LIM → f ρ P →
    (∀ ds J H1, P ds → Stp b H H1 → BxO b H1 (m + c) → Wk md K b S H1 J ds → R J H1) → wi σ H R
/-- a list's or a tuple's parts -/
abbrev sq (Q : List PyData → Prop) : PyData → Prop
  | .list ds => Q ds
  | .tuple ds => Q ds
  | _ => False
theorem sq_mono {P P' : List PyData → Prop} (h : ∀ k, P k → P' k) : ∀ d, sq P d → sq P' d := fun d g => by
  cases d <;> first | exact h _ g | exact g.elim
/-- the list or the tuple stands, with what is read of it -/
theorem VD.seq {b : Option Addr} {S : Addr → Prop} {H1 : Hp} {Q : List PyData → Prop} {v : V} {d : PyData} (h : VD md K b S H1 v d) (q : sq Q d) (bs : ∀ p, b = some p → S p) :
    ∃ p xs ds, v = .ref p ∧ Q ds ∧ DaL K (rm H1 S) xs ds ∧ ((d = .list ds ∧ ∀ H2, KG md b S H1 H2 → SqL K H2 p xs) ∨ (d = .tuple ds ∧ ∀ H2, KG md b S H1 H2 → SqT K H2 p xs)) := by
  have vw := h.vw
  cases d with
  | list ds =>
    cases md with
    | true =>
      cases h with
      | lst h g => exact ⟨_, _, ds, rfl, q, g, .inl ⟨rfl, fun H2 k => .inl (.inl (rm_le _ _ (KG.ex (b := b) k bs _ _ h)))⟩⟩
    | false =>
      cases h with
      | st h =>
        cases h with
        | lst h g => exact ⟨_, _, ds, rfl, q, g, .inl ⟨rfl, fun H2 k => .inl (.inl (rm_le _ _ (KG.ex (b := b) k bs _ _ h)))⟩⟩
      | ow n h g => exact ⟨_, _, ds, rfl, q, g, .inl ⟨rfl, fun H2 k => .inl (.inl (k _ _ n h))⟩⟩
  | tuple ds =>
    have h2 : Da K (rm H1 S) v (.tuple ds) := by
      cases md with
      | true => exact h
      | false =>
        cases h with
        | st h => exact h
    cases h2 with
    | tup h3 g => exact ⟨_, _, ds, rfl, q, g, .inr ⟨rfl, fun H2 k => Evl.ex_t rm_le (Evl.ex_t (KG.ex (b := b) k bs) h3)⟩⟩
  | _ => exact q.elim
abbrev fIt (f : FE) : FD := fun ρ Q => f ρ (sq Q)
theorem wk_of {b : Option Addr} {S : Addr → Prop} {H1 : Hp} {J : It} {ds : List PyData} {n : Nat} {G : Hp → Prop} {Y : Nat → Hp → V → Hp → Prop} (w : Walk J n G Y) (hn : n = ds.length) (hG : ∀ H2, KG md b S H1 H2 → G H2)
    (hY : ∀ i H x H', i < n → Y i H x H' → ∀ T, Evl.Ex (rm H1 S) (rm H T) → Al T H → Evl.Ex H H' ∧ ∃ d, ds[i]? = some d ∧ Da K (rm H' T) x d) : Wk md K b S H1 J ds := by
  subst hn
  exact w.mono hG fun i H x H' hi _ y => hY i H x H' hi y
theorem at_of {S T : Addr → Prop} {H1 H : Hp} {xs : List V} {ds : List PyData} {i : Nat} {x : V} (g : DaL K (rm H1 S) xs ds) (hT : Evl.Ex (rm H1 S) (rm H T)) (e : xs[i]? = some x) : ∃ d, ds[i]? = some d ∧ Da K (rm H T) x d := by
  obtain ⟨d, e1, e2⟩ := g.at' e
  exact ⟨d, e1, e2.mono hT⟩
theorem sndi_seq (a : Snd md K ta ca fa) : SndI md K (Pw.iSeq K ta) ca (fIt fa) := ⟨fun ρ P P' h g => a.mono _ _ _ (sq_mono h) g,
  fun {b S m σ H ρ R P} E hm hf k => a.go E hm hf fun d v H1 p st bx vd => by
    obtain ⟨p1, xs, ds, rfl, q, g, hh⟩ := vd.seq p E.bs
    rcases hh with ⟨_, hL⟩ | ⟨_, hL⟩
    · exact ⟨p1, rfl, .inl ⟨⟨xs, hL _ KG.refl⟩, k ds _ H1 q st bx (wk_of (walk_list (xs := xs)) g.len hL fun i H x H' hi y T hT al => by
        obtain ⟨rfl, e⟩ := y
        exact ⟨Evl.Ex.refl _, at_of g hT e⟩)⟩⟩
    · exact ⟨p1, rfl, .inr ⟨⟨xs, hL _ KG.refl⟩, k ds _ H1 q st bx (wk_of (walk_tup (xs := xs)) g.len hL fun i H x H' hi y T hT al => by
        obtain ⟨rfl, e⟩ := y
        exact ⟨Evl.Ex.refl _, at_of g hT e⟩)⟩⟩⟩
theorem walk_revT {a : Addr} {xs : List V} : Walk (RT.ItvT K a xs.length) xs.length (fun H => SqT K H a xs) (fun i H x H' => H' = H ∧ xs[xs.length - 1 - i]? = some x) :=
  ⟨fun i _ hi q => ⟨hi, xs, xs[xs.length - 1 - i]'(by omega), q, List.getElem?_eq_getElem _⟩, fun _ _ => Nat.le_refl _, fun _ _ _ _ _ q y => ⟨y.1, y.2 xs q⟩⟩
abbrev fRev (f : FE) : FD := fun ρ Q => f ρ (sq fun ds => Q ds.reverse)
theorem sndi_rev (a : Snd md K ta ca fa) : SndI md K (RT.iRevA K ta) ca (fRev fa) := ⟨fun ρ P P' h g => a.mono _ _ _ (sq_mono fun ds => h _) g,
  fun {b S m σ H ρ R P} E hm hf k => a.go E hm hf fun d v H1 p st bx vd => by
    obtain ⟨p1, xs, ds, rfl, q, g, hh⟩ := vd.seq p E.bs
    have turn : ∀ (i : Nat) (H : Hp) (x : V), i < xs.length → xs[xs.length - 1 - i]? = some x → ∀ T, Evl.Ex (rm H1 S) (rm H T) → ∃ d, ds.reverse[i]? = some d ∧ Da K (rm H T) x d := fun i H x hi e T hT => by
      obtain ⟨d, e1, e2⟩ := at_of g hT e
      refine ⟨d, ?_, e2⟩
      rw [List.getElem?_reverse (by rw [← g.len]; exact hi), ← g.len]
      exact e1
    rcases hh with ⟨_, hL⟩ | ⟨_, hL⟩
    · exact ⟨p1, xs, rfl, .inl ⟨hL _ KG.refl, k _ _ H1 q st bx (wk_of (walk_rev (xs := xs)) (by rw [List.length_reverse, g.len]) hL fun i H x H' hi y T hT al => by
        obtain ⟨rfl, e⟩ := y
        exact ⟨Evl.Ex.refl _, turn i _ x hi e T hT⟩)⟩⟩
    · exact ⟨p1, xs, rfl, .inr ⟨hL _ KG.refl, k _ _ H1 q st bx (wk_of (walk_revT (xs := xs)) (by rw [List.length_reverse, g.len]) hL fun i H x H' hi y T hT al => by
        obtain ⟨rfl, e⟩ := y
        exact ⟨Evl.Ex.refl _, turn i _ x hi e T hT⟩)⟩⟩⟩
def rangeD (lo : Int) (n : Nat) : List PyData := (List.range n).map fun k => .int (lo + (k : Nat))
abbrev asI (Q : Int → Prop) : PyData → Prop
  | .int i => Q i
  | _ => False
theorem asI_mono {P P' : Int → Prop} (h : ∀ k, P k → P' k) : ∀ d, asI P d → asI P' d := fun d g => by
  cases d <;> first | exact h _ g | exact g.elim
theorem asI_of {b : Option Addr} {S : Addr → Prop} {H : Hp} {Q : Int → Prop} {d : PyData} {v : V} (h : asI Q d) (g : VD md K b S H v d) : ∃ k, v = .int k ∧ Q k := by
  cases d with
  | int k => exact ⟨k, g.vw.int, h⟩
  | _ => exact h.elim
theorem wk_range {b : Option Addr} {S : Addr → Prop} {H1 : Hp} {lo : Int} {n : Nat} : Wk md K b S H1 (Itr lo n) (rangeD lo n) :=
  wk_of (walk_range (lo := lo) (n := n)) (by unfold rangeD; rw [List.length_map, List.length_range]) (fun _ _ => trivial) fun i H x H' hi y T hT al => by
    obtain ⟨rfl, rfl⟩ := y
    refine ⟨Evl.Ex.refl _, .int (lo + (i : Nat)), ?_, .int _⟩
    unfold rangeD
    rw [List.getElem?_map, List.getElem?_range hi]
    rfl
abbrev fRange1 (f : FE) : FD := fun ρ Q => f ρ (asI fun n => (-(2 ^ 62) ≤ n ∧ n < 2 ^ 62) ∧ Q (rangeD 0 n.toNat))
theorem sndi_range1 (a : Snd md K ta ca fa) {md2 : Bool} : SndI md2 K (iRng1 (tCons ta tNil)) ca (fRange1 fa) := ⟨fun ρ P P' h g => a.mono _ _ _ (asI_mono fun n z => ⟨z.1, h _ z.2⟩) g,
  fun {b S m σ H ρ R P} E hm hf k => a.go E hm hf fun d v H1 p st bx vd => by
    obtain ⟨n, rfl, h1, h2⟩ := asI_of p vd
    exact ⟨n, rfl, h1.1, h1.2, k _ _ _ h2 st bx wk_range⟩⟩
abbrev fRange2 (f g : FE) : FD := fun ρ Q => f ρ (asI fun lo => g ρ (asI fun n => (-(2 ^ 62) ≤ lo ∧ lo < 2 ^ 62 ∧ -(2 ^ 62) ≤ n ∧ n < 2 ^ 62) ∧ Q (rangeD lo (n - lo).toNat)))
theorem sndi_range2 (a : Snd md K ta ca fa) (a2 : Snd md K tb cb fb) {md2 : Bool} : SndI md2 K (iRng2 (tCons ta (tCons tb tNil))) (ca + cb) (fRange2 fa fb) := ⟨fun ρ P P' h g => a.mono _ _ _ (asI_mono fun lo => a2.mono _ _ _ (asI_mono fun n z => ⟨z.1, h _ z.2⟩)) g,
  fun {b S m σ H ρ R P} E hm hf k => a.go E (by omega) hf fun d v H1 p st bx vd => by
    obtain ⟨lo, rfl, h1⟩ := asI_of p vd
    refine a2.go (E.step st bx) (by omega) h1 fun d v H2 p st2 bx2 vd2 => ?_
    obtain ⟨n, rfl, h1, h2⟩ := asI_of p vd2
    exact ⟨lo, n, rfl, h1, k _ _ _ h2 (st.trans st2) (bx2.le (by omega)) wk_range⟩⟩
/-- pairs (number, part) -/
def enumD : Nat → List PyData → List PyData
  | _, [] => []
  | k, d :: ds => .tuple [.int k, d] :: enumD (k + 1) ds
theorem enumD_at : ∀ {ds : List PyData} {k i : Nat}, (enumD k ds)[i]? = ds[i]?.map fun d => .tuple [.int ((k + i : Nat) : Int), d]
  | [], k, i => by simp [enumD]
  | d :: ds, k, 0 => by simp [enumD]
  | d :: ds, k, i + 1 => by
    rw [enumD, List.getElem?_cons_succ, List.getElem?_cons_succ, enumD_at (ds := ds), show k + 1 + i = k + (i + 1) by omega]
theorem enumD_len : ∀ {ds : List PyData} {k : Nat}, (enumD k ds).length = ds.length
  | [], _ => rfl
  | d :: ds, k => by rw [enumD, List.length_cons, List.length_cons, enumD_len]
abbrev fEnum (f : FE) : FD := fun ρ Q => f ρ (sq fun ds => Q (enumD 0 ds))
theorem sndi_enum (a : Snd md K ta ca fa) : SndI md K (Pw.iEnumX K (tCons ta tNil)) ca (fEnum fa) := ⟨fun ρ P P' h g => a.mono _ _ _ (sq_mono fun ds => h _) g,
  fun {b S m σ H ρ R P} E hm hf k => a.go E hm hf fun d v H1 p st bx vd => by
    obtain ⟨p1, xs, ds, rfl, q, g, hh⟩ := vd.seq p E.bs
    have turn : ∀ (i : Nat) (H : Hp) (x : V) (H' : Hp), YPair (fun i => some (.int (i : Nat))) (fun i => xs[i]?) i H x H' → ∀ T, Evl.Ex (rm H1 S) (rm H T) → Al T H → Evl.Ex H H' ∧ ∃ d, (enumD 0 ds)[i]? = some d ∧ Da K (rm H' T) x d := fun i H x H' y T hT al => by
      obtain ⟨T, u, w, rfl, nT, rfl, eu, ew⟩ := y
      cases eu
      obtain ⟨d, e1, e2⟩ := at_of g hT ew
      refine ⟨Evl.Ex.new nT, _, ?_, new_tup al nT (.cons (.int _) (.cons e2 .nil))⟩
      rw [enumD_at, e1, Nat.zero_add]
      rfl
    rcases hh with ⟨_, hL⟩ | ⟨_, hL⟩
    · exact ⟨p1, xs, rfl, .inl ⟨hL _ KG.refl, k _ _ H1 q st bx (wk_of (walk_enum (xs := xs)) (by rw [enumD_len, g.len]) hL fun i H x H' hi => turn i H x H')⟩⟩
    · exact ⟨p1, xs, rfl, .inr ⟨hL _ KG.refl, k _ _ H1 q st bx (wk_of (Pw.walk_E (xs := xs)) (by rw [enumD_len, g.len]) hL fun i H x H' hi => turn i H x H')⟩⟩⟩
def zipD (a b : List PyData) : List PyData := List.zipWith (fun x y => .tuple [x, y]) a b
abbrev zipQ (Q : List PyData → Prop) : PyData → PyData → Prop
  | .list a, .list b => Q (zipD a b)
  | .tuple a, .tuple b => Q (zipD a b)
  | .tuple a, .list b => Q (zipD a b)
  | _, _ => False
theorem zipQ_mono {P P' : List PyData → Prop} (h : ∀ k, P k → P' k) : ∀ x y, zipQ P x y → zipQ P' x y := fun x y g => by
  cases x <;> cases y <;> first | exact h _ g | exact g.elim
abbrev fZip (f g : FE) : FD := fun ρ Q => f ρ fun x => g ρ fun y => zipQ Q x y
theorem sndi_zip (a : Snd md K ta ca fa) (a2 : Snd md K tb cb fb) : SndI md K (Pw.iZipX K (tCons ta (tCons tb tNil))) (ca + cb) (fZip fa fb) := ⟨fun ρ P P' h g => a.mono _ _ _ (fun x => a2.mono _ _ _ fun y => zipQ_mono h x y) g,
  fun {b S m σ H ρ R P} E hm hf k => a.go E (by omega) hf fun dx v H1 p st bx vd => a2.go (E.step st bx) (by omega) p fun dy v2 H2 p2 st2 bx2 vd2 => by
    have vd := vd.step st2 E.bs
    have sx : sq (fun _ => True) dx := by
      cases dx <;> cases dy <;> first | trivial | exact p2.elim
    have sy : sq (fun _ => True) dy := by
      cases dx <;> cases dy <;> first | trivial | exact p2.elim
    obtain ⟨p1, xs, ds, rfl, _, g, hh⟩ := vd.seq sx E.bs
    obtain ⟨q1, ys, es, rfl, _, g2, hh2⟩ := vd2.seq sy E.bs
    have turn : ∀ (i : Nat) (H : Hp) (x : V) (H' : Hp), YPair (fun i => xs[i]?) (fun i => ys[i]?) i H x H' → ∀ T, Evl.Ex (rm H2 S) (rm H T) → Al T H → Evl.Ex H H' ∧ ∃ d, (zipD ds es)[i]? = some d ∧ Da K (rm H' T) x d := fun i H x H' y T hT al => by
      obtain ⟨T, u, w, rfl, nT, rfl, eu, ew⟩ := y
      obtain ⟨d, e1, e2⟩ := at_of g hT eu
      obtain ⟨e, f1, f2⟩ := at_of g2 hT ew
      refine ⟨Evl.Ex.new nT, _, ?_, new_tup al nT (.cons e2 (.cons f2 .nil))⟩
      unfold zipD
      rw [List.getElem?_zipWith, e1, f1]
    have ln : min xs.length ys.length = (zipD ds es).length := by
      unfold zipD
      rw [List.length_zipWith, g.len, g2.len]
    have st3 := st.trans st2
    have bx3 : BxO b H2 (m + (ca + cb)) := bx2.le (by omega)
    rcases hh with ⟨rfl, hL⟩ | ⟨rfl, hL⟩ <;> rcases hh2 with ⟨rfl, hL2⟩ | ⟨rfl, hL2⟩
    · exact ⟨p1, q1, xs, ys, rfl, .inl ⟨hL _ KG.refl, hL2 _ KG.refl, k _ _ H2 p2 st3 bx3 (wk_of (walk_zip (xs := xs) (ys := ys) rfl) ln (fun H3 kg => ⟨hL H3 kg, hL2 H3 kg⟩) fun i H x H' hi => turn i H x H')⟩⟩
    · exact p2.elim
    · exact ⟨p1, q1, xs, ys, rfl, .inr (.inr ⟨hL _ KG.refl, hL2 _ KG.refl, k _ _ H2 p2 st3 bx3 (wk_of (Zq.walk_zipM (xs := xs) (ys := ys) rfl) ln (fun H3 kg => ⟨hL H3 kg, hL2 H3 kg⟩) fun i H x H' hi => turn i H x H')⟩)⟩
    · exact ⟨p1, q1, xs, ys, rfl, .inr (.inl ⟨hL _ KG.refl, hL2 _ KG.refl, k _ _ H2 p2 st3 bx3 (wk_of (Pw.walk_zT (xs := xs) (ys := ys) rfl) ln (fun H3 kg => ⟨hL H3 kg, hL2 H3 kg⟩) fun i H x H' hi => turn i H x H')⟩)⟩⟩
/-! comprehensions -/
def compD (g : FG) (tt : FT) (te : FE) (ρ : List Sl) : List PyData → List PyData → (List PyData → Prop) → Prop
  | [], acc, Q => Q acc
  | d :: ds, acc, Q => g d ρ fun ρ' => tt ρ' fun k => if k = true then te ρ' fun y => compD g tt te ρ ds (acc ++ [y]) Q else compD g tt te ρ ds acc Q
def wipeD (ρ : List Sl) : List Nat → List Sl
  | [] => ρ
  | v :: vs => (wipeD ρ vs).set v .no
abbrev fYes : FT := fun _ Q => Q true
theorem sndt_yes : SndT K tYes 0 fYes := ⟨fun ρ P P' h g => h _ g, fun E hm hf k => k _ _ hf Stp.refl E.bx⟩
theorem SlR.grow {b : Option Addr} {S T : Addr → Prop} {H H' : Hp} {x : Option (Option V)} {s : Sl} (h : SlR K b S H x s) (e : Evl.Ex (rm H S) (rm H' T)) (sub : ∀ a, S a → T a) (kp : ∀ a o, b ≠ some a → H a = some o → H' a = some o) : SlR K b T H' x s := by
  cases s with
  | no => trivial
  | dt d => exact let ⟨v, e1, g⟩ := h; ⟨v, e1, g.mono e⟩
  | own ds => exact let ⟨p, vs, e1, s1, n, g, k⟩ := h; ⟨p, vs, e1, sub _ s1, n, kp _ _ n g, k.mono e⟩
  | box => exact h
  | scr ns => exact let ⟨p, e1, g⟩ := h; ⟨p, e1, Evl.ex_l e g⟩
theorem wipe_at : ∀ {vs : List Nat} {σ : L2.St} {ρ : List Sl} {i : Nat} {s : Sl}, σ.length = ρ.length → (wipeD ρ vs)[i]? = some s → s = .no ∨ (ρ[i]? = some s ∧ (wipe σ vs)[i]? = σ[i]?)
  | [], σ, ρ, i, s, _, h => .inr ⟨h, rfl⟩
  | v :: vs, σ, ρ, i, s, l, h => by
    unfold wipeD at h
    unfold wipe
    rw [List.getElem?_set] at h ⊢
    by_cases e : v = i
    · rw [if_pos e] at h
      split at h
      · cases h
        exact .inl rfl
      · cases h
    · rw [if_neg e] at h ⊢
      exact wipe_at l h
theorem wipeD_len : ∀ {vs : List Nat} {ρ : List Sl}, (wipeD ρ vs).length = ρ.length
  | [], _ => rfl
  | v :: vs, ρ => by unfold wipeD; rw [List.length_set, wipeD_len]
theorem DEnv.wipe {b : Option Addr} {S : Addr → Prop} {m : Nat} {H : Hp} {σ : L2.St} {ρ : List Sl} {vs : List Nat} (E : DEnv K b S m H σ ρ) : DEnv K b S m H (L2.wipe σ vs) (wipeD ρ vs) :=
  ⟨by rw [wipe_length, wipeD_len, E.len], fun i s e => by
    rcases wipe_at E.len e with rfl | ⟨e1, e2⟩
    · trivial
    · rw [e2]
      exact E.sl i s e1, E.bx, E.bs, E.al⟩
/-- within: the list that is being made at D is held, too -/
theorem DEnv.hold {b : Option Addr} {S : Addr → Prop} {m n : Nat} {H H' : Hp} {σ : L2.St} {ρ : List Sl} {D : Addr} (E : DEnv K b S m H σ ρ) (nD : H D = none) (st : Stp b H H') (bx : BxO b H' n) (hD : H' D ≠ none) : DEnv K b (fun a => S a ∨ a = D) n H' σ ρ := by
  have ex : Evl.Ex (rm H S) (rm H' fun a => S a ∨ a = D) := fun a o h => by
    obtain ⟨n1, h1⟩ := rm_some h
    have ne : a ≠ D := fun z => by rw [z, nD] at h1; cases h1
    rw [rm_out (fun z => z.elim n1 ne)]
    exact st a o (fun z => n1 (E.bs a z)) h1
  exact ⟨E.len, fun i s e => (E.sl i s e).grow ex (fun a h => .inl h) st, bx, fun p e => .inl (E.bs p e), fun a h => by
    rcases h with h | rfl
    · exact E.al.step st bx a h
    · exact hD⟩
variable {wi : TI} {fi : FD} {ci : Nat} {g : TG} {fg : FG} {vs : List Nat} {tt : TT} {ft : FT} {ct ce : Nat}
theorem compD_mono (hg : ∀ d (ρ : List Sl) (P P' : List Sl → Prop), (∀ d, P d → P' d) → fg d ρ P → fg d ρ P') (t : ∀ (ρ : List Sl) (P P' : Bool → Prop), (∀ d, P d → P' d) → ft ρ P → ft ρ P')
    (e : ∀ (ρ : List Sl) (P P' : PyData → Prop), (∀ d, P d → P' d) → fe ρ P → fe ρ P') {ρ : List Sl} {P P' : List PyData → Prop} (h : ∀ d, P d → P' d) : ∀ (ds acc : List PyData), compD fg ft fe ρ ds acc P → compD fg ft fe ρ ds acc P'
  | [], acc, q => h _ q
  | d :: ds, acc, q => hg _ _ _ _ (fun ρ' => t _ _ _ fun k z => by
      cases k with
      | true => exact e _ _ _ (fun y => compD_mono hg t e h ds _) z
      | false => exact compD_mono hg t e h ds _ z) q
abbrev fComp (N : Nat) (fi : FD) (vs : List Nat) (fg : FG) (ft : FT) (fe : FE) : FD := fun ρ Q => fi ρ fun ds => ds.length ≤ N ∧ compD fg ft fe (wipeD ρ vs) ds [] Q
theorem sndl_comp {N : Nat} (hN : N ≤ 1000000) (i : SndI false K wi ci fi) (hg : SndG K g vs fg) (t : SndT K tt ct ft) (e : Snd true K te ce fe) : SndL K (tLc wi g tt te vs) (ci + N * (ct + ce)) (fComp N fi vs fg ft fe) := by
  refine ⟨fun ρ P P' h q => i.mono _ _ _ (fun ds z => ⟨z.1, compD_mono hg.mono t.mono e.mono h _ _ z.2⟩) q, fun {b S m σ H ρ Q P} E hm hf k => i.go E (by omega) hf fun ds J H1 p st bx wk => ?_⟩
  obtain ⟨hn, hc⟩ := p
  intro D nD
  have E1 := E.step st bx
  have nD0 : H D = none := back st bx nD
  have bD : b ≠ some D := fun z => by
    rw [z] at bx
    obtain ⟨_, _, _, _, _, _, _, _, e2⟩ := bx
    rw [nD] at e2
    cases e2
  refine lc_it (w := wk) (fun j H2 => ∃ (acc : List PyData) (xs : List V), Stp b H1 H2 ∧ BxO b H2 (m + ci + j * (ct + ce)) ∧ H2 D = some (.lst xs) ∧ xs.length ≤ j ∧ DaL K (rm H2 fun a => S a ∨ a = D) xs acc ∧ compD fg ft fe (wipeD ρ vs) (ds.drop j) acc P)
    ⟨[], [], Stp.ex (Evl.Ex.new nD), (bx.ex (Evl.Ex.new nD)).le (by omega), upd_same, Nat.le_refl _, .nil, hc⟩ (fun j H2 hj pe => ?_) (fun j x H2 H3 hj pe y => ?_) (fun H2 pe => ?_)
  · obtain ⟨acc, xs, s2, _⟩ := pe
    exact s2
  · obtain ⟨acc, xs, s2, b2, hD, hl, hx, hc⟩ := pe
    have al2 : Al (fun a => S a ∨ a = D) H2 := (E1.hold nD s2 b2 (by rw [hD]; simp)).al
    have exT : Evl.Ex (rm H1 S) (rm H2 fun a => S a ∨ a = D) := fun a o h => by
      obtain ⟨n1, h1⟩ := rm_some h
      rw [rm_out (fun z => z.elim n1 fun w => by rw [w, nD] at h1; cases h1)]
      exact s2 a o (fun z => n1 (E.bs a z)) h1
    obtain ⟨e23, d, ed, hd3⟩ := y _ exT al2
    have nj : (j + 1) * (ct + ce) = j * (ct + ce) + (ct + ce) := by rw [Nat.add_mul, Nat.one_mul]
    have le : (j + 1) * (ct + ce) ≤ N * (ct + ce) := Nat.mul_le_mul_right _ (by omega)
    have ej := List.getElem?_eq_some_iff.mp ed
    rw [List.drop_eq_getElem_cons ej.1, ej.2] at hc
    have s3 : Stp b H1 H3 := s2.trans (Stp.ex e23)
    have b3 := b2.ex e23
    have hD3 := e23 _ _ hD
    have E3 := E1.hold nD s3 b3 (by rw [hD3]; simp)
    refine hg.go (DEnv.wipe (vs := vs) E3) hd3 hc fun ρ4 σ4 h4 E4 k4 => ⟨?_, ?_⟩
    · rw [k4.sg, wipe_wipe]
    refine t.go E4 (by omega) h4 fun q H5 h5 s5 b5 => ?_
    cases q with
    | true =>
      rw [if_pos rfl] at h5 ⊢
      refine e.go (E4.step s5 b5) (by omega) h5 fun z v H6 h6 s6 b6 d6 => ?_
      have hD6 : H6 D = some (.lst xs) := s6 _ _ bD (s5 _ _ bD hD3)
      have s16 := (s3.trans s5).trans s6
      have hx6 : DaL K (rm H6 fun a => S a ∨ a = D) xs acc := hx.mono (((rm_ex e23).trans (s5.rm E4.bs)).trans (s6.rm E4.bs))
      have out : Evl.Ex (rm H6 fun a => S a ∨ a = D) (rm (upd H6 D (.lst (xs ++ [v]))) fun a => S a ∨ a = D) := rm_mono fun a o n h => by
        rw [upd_ne fun z => n (.inr z)]
        exact h
      refine ⟨xs, hD6, Nat.lt_of_le_of_lt (Nat.le_trans hl (by omega)) (show 1000000 < sizeLine by decide), acc ++ [z], xs ++ [v], fun a o n h => ?_, ?_, upd_same, ?_, (hx6.app (.cons d6 .nil)).mono out, h6⟩
      · rw [upd_ne (ne_of_none h nD)]
        exact s16 a o n h
      · have b7 : BxO b H6 (m + ci + (j + 1) * (ct + ce)) := b6.le (by omega)
        cases b with
        | none => trivial
        | some p =>
          obtain ⟨x1, y1, z1, g1, g2, g3, g4, g5, g6⟩ := b7
          exact ⟨x1, y1, z1, g1, g2, g3, g4, g5, by rw [upd_ne fun z => bD (by rw [z])]; exact g6⟩
      · rw [List.length_append]
        exact Nat.succ_le_succ hl
    | false =>
      rw [if_neg Bool.false_ne_true] at h5 ⊢
      exact ⟨acc, xs, s3.trans s5, b5.le (by omega), s5 _ _ bD hD3, Nat.le_succ_of_le hl, hx.mono ((rm_ex e23).trans (s5.rm E4.bs)), h5⟩
  · obtain ⟨acc, xs, s2, b2, hD, hl, hx, hc⟩ := pe
    rw [List.drop_length] at hc
    have le : ds.length * (ct + ce) ≤ N * (ct + ce) := Nat.mul_le_mul_right _ hn
    exact k acc xs D H2 hc nD0 (st.trans s2) (b2.le (by omega)) hD hx
end
end Dv
namespace Dv
open PySem PySem.Spec PyProof.Rows L2 Xg
open Classical
structure DEnds where
  nx : List Sl → Prop
  rt : PyData → Prop
  rl : List PyData → Prop
  bk : List Sl → Prop := fun _ => False
  ct : List Sl → Prop := fun _ => False
structure DLe (E E' : DEnds) : Prop where
  nx : ∀ ρ, E.nx ρ → E'.nx ρ
  rt : ∀ d, E.rt d → E'.rt d
  rl : ∀ d, E.rl d → E'.rl d
  bk : ∀ ρ, E.bk ρ → E'.bk ρ
  ct : ∀ ρ, E.ct ρ → E'.ct ρ
theorem DLe.refl {E : DEnds} : DLe E E := ⟨fun _ h => h, fun _ h => h, fun _ h => h, fun _ h => h, fun _ h => h⟩
abbrev FS := List Sl → DEnds → Prop
/-- all that is held: by those around, the box, the lists that are being made -/
def SO (G : Addr → Prop) (b : Option Addr) (os : Nat → Option Addr) : Addr → Prop := fun a => G a ∨ b = some a ∨ ∃ i, os i = some a
structure Ok (K : PySem.W.Frag) (G : Addr → Prop) (H0 : Hp) (b0 b : Option Addr) (os : Nat → Option Addr) (m : Nat) (H : Hp) (σ : L2.St) (ρ : List Sl) : Prop where
  env : DEnv K b (SO G b os) m H σ ρ
  inj : ∀ i j a, os i = some a → os j = some a → i = j
  new : ∀ i a, os i = some a → H0 a = none
  old : Stp b0 H0 H
  bn : b = b0 ∨ ∀ p, b = some p → H0 p = none
  obx : BxO b0 H m
  bo : ∀ i a, os i = some a → b ≠ some a
  slo : ∀ (i : Nat) (ds : List PyData), ρ[i]? = some (.own ds) → ∃ p, os i = some p ∧ σ[i]? = some (some (.ref p))
  al0 : Al G H0
  bG : ∀ p, b0 = some p → G p
/-- what lay still lies so, and is held by none -/
def Lk (S : Addr → Prop) (H : Hp) (S' : Addr → Prop) (H' : Hp) : Prop := ∀ a o, ¬ S a → H a = some o → H' a = some o ∧ ¬ S' a
theorem Lk.trans {S S1 S2 : Addr → Prop} {H H1 H2 : Hp} (h : Lk S H S1 H1) (g : Lk S1 H1 S2 H2) : Lk S H S2 H2 := fun a o n e => let ⟨e1, n1⟩ := h a o n e; g a o n1 e1
theorem Lk.step {b : Option Addr} {S : Addr → Prop} {H H' : Hp} (h : Stp b H H') (bs : ∀ p, b = some p → S p) : Lk S H S H' := fun a o n e => ⟨h a o (fun z => n (bs a z)) e, n⟩
theorem Lk.refl {S : Addr → Prop} {H : Hp} : Lk S H S H := fun a o n e => ⟨e, n⟩
theorem Lk.kg {b : Option Addr} {S S' : Addr → Prop} {H H' : Hp} (h : Lk S H S' H') : KG true b S H H' := rm_mono fun a o n e => (h a o n e).1
section
variable {K : PySem.W.Frag} {G : Addr → Prop} {H0 : Hp} {b0 b : Option Addr} {os : Nat → Option Addr} {m n : Nat} {H H' : Hp} {σ : L2.St} {ρ : List Sl}
theorem Ok.step (h : Ok K G H0 b0 b os m H σ ρ) (st : Stp b H H') (bx : BxO b H' n) (le : m ≤ n) : Ok K G H0 b0 b os n H' σ ρ := by
  have old : Stp b0 H0 H' := fun c o n1 e => by
    refine st c o (fun z => ?_) (h.old c o n1 e)
    rcases h.bn with q | q
    · exact n1 (q ▸ z)
    · rw [q c z] at e
      cases e
  refine ⟨h.env.step st bx, h.inj, h.new, old, h.bn, ?_, h.bo, h.slo, h.al0, h.bG⟩
  rcases h.bn with q | q
  · rw [← q]
    exact bx
  · cases b0 with
    | none => trivial
    | some c =>
      obtain ⟨x, y, z, h1, h2, h3, h4, h5, h6⟩ := h.obx
      refine ⟨x, y, z, h1, h2, h3, h4, by omega, st _ _ (fun w => ?_) h6⟩
      exact h.al0 c (h.bG c rfl) (q c w)
theorem Ok.le (h : Ok K G H0 b0 b os m H σ ρ) (l : m ≤ n) : Ok K G H0 b0 b os n H σ ρ := ⟨h.env.le l, h.inj, h.new, h.old, h.bn, h.obx.le l, h.bo, h.slo, h.al0, h.bG⟩
theorem Ok.kpt {σ' : L2.St} {ρ' : List Sl} {vs : List Nat} (h : Ok K G H0 b0 b os m H σ ρ) (E : DEnv K b (SO G b os) m H σ' ρ') (k : Kpt vs σ σ' ρ ρ') : Ok K G H0 b0 b os m H σ' ρ' :=
  ⟨E, h.inj, h.new, h.old, h.bn, h.obx, h.bo, fun i ds e => by
    obtain ⟨e1, e2⟩ := k.own i ds e
    obtain ⟨p, q1, q2⟩ := h.slo i ds e1
    exact ⟨p, q1, by rw [e2]; exact q2⟩, h.al0, h.bG⟩
/-- at a def's end -/
structure Out (G : Addr → Prop) (H0 : Hp) (b0 : Option Addr) (m : Nat) (H : Hp) : Prop where
  old : Stp b0 H0 H
  obx : BxO b0 H m
structure Goes (K : PySem.W.Frag) (G : Addr → Prop) (H0 : Hp) (b0 : Option Addr) (m : Nat) (S : Addr → Prop) (H : Hp) (E : DEnds) (D : Ends) : Prop where
  nx : ∀ b os σ' H' ρ', E.nx ρ' → Ok K G H0 b0 b os m H' σ' ρ' → Lk S H (SO G b os) H' → D.nx σ' H'
  rt : ∀ d v H', E.rt d → Out G H0 b0 m H' → Da K (rm H' G) v d → D.rt v H'
  rl : ∀ ds vs p H', E.rl ds → Out G H0 b0 m H' → H0 p = none → H' p = some (.lst vs) → DaL K (rm H' fun a => G a ∨ a = p) vs ds → D.rt (.ref p) H'
  bk : ∀ b os σ' H' ρ', E.bk ρ' → Ok K G H0 b0 b os m H' σ' ρ' → Lk S H (SO G b os) H' → D.bk σ' H'
  ct : ∀ b os σ' H' ρ', E.ct ρ' → Ok K G H0 b0 b os m H' σ' ρ' → Lk S H (SO G b os) H' → D.ct σ' H'
theorem Goes.le {S : Addr → Prop} {E : DEnds} {D : Ends} (h : Goes K G H0 b0 n S H E D) (l : m ≤ n) : Goes K G H0 b0 m S H E D :=
  ⟨fun b os σ' H' ρ' e o => h.nx b os σ' H' ρ' e (o.le l), fun d v H' e o => h.rt d v H' e ⟨o.old, o.obx.le l⟩, fun ds vs p H' e o => h.rl ds vs p H' e ⟨o.old, o.obx.le l⟩, fun b os σ' H' ρ' e o => h.bk b os σ' H' ρ' e (o.le l), fun b os σ' H' ρ' e o => h.ct b os σ' H' ρ' e (o.le l)⟩
theorem Goes.from {S S1 : Addr → Prop} {H1 : Hp} {E : DEnds} {D : Ends} (h : Goes K G H0 b0 m S H E D) (l : Lk S H S1 H1) : Goes K G H0 b0 m S1 H1 E D :=
  ⟨fun b os σ' H' ρ' e o k => h.nx b os σ' H' ρ' e o (l.trans k), h.rt, h.rl, fun b os σ' H' ρ' e o k => h.bk b os σ' H' ρ' e o (l.trans k), fun b os σ' H' ρ' e o k => h.ct b os σ' H' ρ' e o (l.trans k)⟩
structure SndS (K : PySem.W.Frag) (t : TS) (c : Nat) (f : FS) : Prop where
  mono : ∀ (ρ : List Sl) (E E' : DEnds), DLe E E' → f ρ E → f ρ E'
  go : ∀ {G : Addr → Prop} {H0 : Hp} {b0 b : Option Addr} {os : Nat → Option Addr} {m : Nat} {H : Hp} {σ : L2.St} {ρ : List Sl} {D : Ends} {E : DEnds}, Ok K G H0 b0 b os m H σ ρ → m + c ≤ LIM → f ρ E →
    Goes K G H0 b0 (m + c) (SO G b os) H E D → t D σ H
theorem SO.g {a : Addr} (h : G a) : SO G b os a := .inl h
/-! blocks -/
variable {t u : TS} {c cu ca ct : Nat} {f g : FS} {ta : TE} {fa : FE} {tt : TT} {ft : FT} {md : Bool}
abbrev sSkip : FS := fun ρ E => E.nx ρ
theorem snds_nil : SndS K tNext 0 sSkip := ⟨fun ρ E E' h q => h.nx _ q, fun ok hm hf k => k.nx _ _ _ _ _ hf ok Lk.refl⟩
abbrev sSeq (f g : FS) : FS := fun ρ E => f ρ { E with nx := fun ρ' => g ρ' E }
theorem snds_seq (a : SndS K t c f) (r : SndS K u cu g) : SndS K (tSeq t u) (c + cu) (sSeq f g) :=
  ⟨fun ρ E E' h q => a.mono ρ { E with nx := fun ρ' => g ρ' E } { E' with nx := fun ρ' => g ρ' E' } ⟨fun ρ' => r.mono _ _ _ h, h.rt, h.rl, h.bk, h.ct⟩ q, fun {G H0 b0 b os m H σ ρ D E} ok hm hf k => a.go ok (by omega) hf
    ⟨fun b1 os1 σ' H' ρ' e o l => r.go o (by omega) e ((k.le (by omega)).from l), fun d v H' e o => k.rt d v H' e ⟨o.old, o.obx.le (by omega)⟩, fun ds vs p H' e o => k.rl ds vs p H' e ⟨o.old, o.obx.le (by omega)⟩,
      fun b os σ' H' ρ' e o => k.bk b os σ' H' ρ' e (o.le (by omega)), fun b os σ' H' ρ' e o => k.ct b os σ' H' ρ' e (o.le (by omega))⟩⟩
abbrev sIf (t : FT) (f g : FS) : FS := fun ρ E => t ρ fun k => if k = true then f ρ E else g ρ E
theorem snds_if (a : SndT K tt ct ft) (x : SndS K t c f) (y : SndS K u cu g) : SndS K (tIfS tt t u) (ct + (c + cu)) (sIf ft f g) :=
  ⟨fun ρ E E' h q => a.mono _ _ _ (fun k z => by
      cases k with
      | true => exact x.mono _ _ _ h z
      | false => exact y.mono _ _ _ h z) q,
   fun ok hm hf k => a.go ok.env (by omega) hf fun q H1 p st bx => by
    have ok1 := ok.step st bx (by omega)
    have l := Lk.step st ok.env.bs
    cases q with
    | true => exact x.go ok1 (by omega) p ((k.le (by omega)).from l)
    | false => exact y.go ok1 (by omega) p ((k.le (by omega)).from l)⟩
/-! return -/
abbrev sRet (f : FE) : FS := fun ρ E => f ρ E.rt
theorem Ok.out (h : Ok K G H0 b0 b os m H σ ρ) : Out G H0 b0 m H := ⟨h.old, h.obx⟩
theorem snds_ret (a : Snd true K ta ca fa) : SndS K (tRet ta) ca (sRet fa) :=
  ⟨fun ρ E E' h q => a.mono _ _ _ h.rt q, fun ok hm hf k => a.go ok.env hm hf fun d v H' p st bx vd => k.rt d v H' p (ok.step st bx (by omega)).out (Da.mono (rm_sub fun a => SO.g) vd)⟩
abbrev sRetN : FS := fun ρ E => E.rt .none
theorem snds_retN : SndS K tRetN 0 sRetN := ⟨fun ρ E E' h q => h.rt _ q, fun ok hm hf k => k.rt _ _ _ hf ok.out .non⟩
abbrev sRetL (f : FD) : FS := fun ρ E => f ρ E.rl
theorem snds_retL {fl : FD} (a : SndL K ta ca fl) : SndS K (tRet ta) ca (sRetL fl) :=
  ⟨fun ρ E E' h q => a.mono _ _ _ h.rl q, fun ok hm hf k => a.go ok.env hm hf fun ds vs p H' h n st bx e g => k.rl ds vs p H' h (ok.step st bx (by omega)).out (back ok.old ok.obx n) e (g.mono (rm_sub fun a z => z.imp_left SO.g))⟩
/-- return x, x the list that was made -/
abbrev sRetO (i : Nat) : FS := fun ρ E => match ρ[i]? with
  | some (.own ds) => E.rl ds
  | _ => False
theorem snds_retO {i : Nat} : SndS K (tRet (tVar i)) 0 (sRetO i) :=
  ⟨fun ρ E E' h q => by
      unfold sRetO at q ⊢
      split at q
      · exact h.rl _ q
      · exact q.elim,
   fun {G H0 b0 b os m H σ ρ D E} ok hm hf k => by
      unfold sRetO at hf
      split at hf
      · rename_i ds e
        obtain ⟨p, vs, e1, e2, e3, e4, e5⟩ := ok.env.sl i _ e
        obtain ⟨p', q1, q2⟩ := ok.slo i _ e
        rw [e1] at q2
        cases q2
        refine ⟨_, e1, k.rl ds vs p H hf ok.out (ok.new _ _ q1) e4 (e5.mono (rm_sub fun a z => ?_))⟩
        rcases z with z | rfl
        · exact SO.g z
        · exact e2
      · exact hf.elim⟩
/-! x = e, and other targets -/
variable {tg : TG} {fg : FG} {vs : List Nat}
abbrev sAsg (f : FE) (g : FG) : FS := fun ρ E => f ρ fun d => g d ρ E.nx
theorem snds_asg (a : Snd true K ta ca fa) (hg : SndG K tg vs fg) : SndS K (tAsg ta tg) ca (sAsg fa fg) :=
  ⟨fun ρ E E' h q => a.mono _ _ _ (fun d => hg.mono _ _ _ _ h.nx) q, fun ok hm hf k => a.go ok.env hm hf fun d v H' p st bx vd => by
    have ok1 := ok.step st bx (by omega)
    exact hg.go ok1.env vd p fun ρ' σ' q E1 kp => k.nx _ _ _ _ _ q (ok1.kpt E1 kp) (Lk.step st ok.env.bs)⟩
abbrev sDrop (f : FE) : FS := fun ρ E => f ρ fun _ => E.nx ρ
theorem snds_drop (a : Snd md K ta ca fa) : SndS K (tDrop ta) ca (sDrop fa) :=
  ⟨fun ρ E E' h q => a.mono _ _ _ (fun d => h.nx _) q, fun ok hm hf k => a.go ok.env hm hf fun d v H' p st bx vd => k.nx _ _ _ _ _ p (ok.step st bx (by omega)) (Lk.step st ok.env.bs)⟩
/-! x = a new list: it's being made from then on -/
abbrev sOwn (f : FD) (i : Nat) : FS := fun ρ E => f ρ fun ds => E.nx (ρ.set i (.own ds))
def osSet (os : Nat → Option Addr) (i : Nat) (p : Addr) : Nat → Option Addr := fun j => if j = i then some p else os j
theorem os_at {i : Nat} {p : Addr} {j : Nat} {a : Addr} (h : osSet os i p j = some a) : (j = i ∧ a = p) ∨ (j ≠ i ∧ os j = some a) := by
  unfold osSet at h
  split at h
  · cases h
    exact .inl ⟨by assumption, rfl⟩
  · exact .inr ⟨by assumption, h⟩
theorem Ok.own {i : Nat} {p : Addr} {ds : List PyData} {xs : List V} (ok : Ok K G H0 b0 b os m H σ ρ) (np : H p = none) (st : Stp b H H') (bx : BxO b H' n) (le : m ≤ n) (e : H' p = some (.lst xs)) (hd : DaL K (rm H' fun a => SO G b os a ∨ a = p) xs ds) :
    Ok K G H0 b0 b (osSet os i p) n H' (σ.set i (some (.ref p))) (ρ.set i (.own ds)) ∧ Lk (SO G b os) H (SO G b (osSet os i p)) H' := by
  have ok1 := ok.step st bx le
  have nS : ¬ SO G b os p := ok.env.al.new np
  have n0 : H0 p = none := back ok.old ok.obx np
  have sub : ∀ a, SO G b (osSet os i p) a → SO G b os a ∨ a = p := fun a h => by
    rcases h with h | h | ⟨j, h⟩
    · exact .inl (.inl h)
    · exact .inl (.inr (.inl h))
    · rcases os_at h with ⟨_, rfl⟩ | ⟨_, h⟩
      · exact .inr rfl
      · exact .inl (.inr (.inr ⟨j, h⟩))
  have Sp : SO G b (osSet os i p) p := .inr (.inr ⟨i, by unfold osSet; rw [if_pos rfl]⟩)
  have bp : b ≠ some p := fun z => nS (.inr (.inl z))
  have lk : Lk (SO G b os) H (SO G b (osSet os i p)) H' := fun a o n1 h => ⟨st a o (fun z => n1 (.inr (.inl z))) h, fun z => (sub a z).elim n1 fun w => by rw [w, np] at h; cases h⟩
  have ex : Evl.Ex (rm H (SO G b os)) (rm H' (SO G b (osSet os i p))) := fun a o h => by
    obtain ⟨n1, h1⟩ := rm_some h
    obtain ⟨g1, g2⟩ := lk a o n1 h1
    rw [rm_out g2]
    exact g1
  refine ⟨⟨⟨?_, fun j s h => ?_, bx, fun q h => .inr (.inl h), fun a h => ?_⟩, fun j k a h1 h2 => ?_, fun j a h => ?_, ok1.old, ok.bn, ok1.obx, fun j a h => ?_, fun j es h => ?_, ok.al0, ok.bG⟩, lk⟩
  · rw [List.length_set, List.length_set]
    exact ok.env.len
  · rw [List.getElem?_set] at h ⊢
    by_cases z : i = j
    · rw [if_pos z] at h ⊢
      rw [ok.env.len]
      split at h
      · rename_i l
        cases h
        rw [if_pos l]
        exact ⟨p, xs, rfl, Sp, bp, e, hd.mono (rm_sub sub)⟩
      · cases h
    · rw [if_neg z] at h ⊢
      have q := ok.env.sl j s h
      cases s with
      | no => trivial
      | dt d => exact let ⟨v, e1, g⟩ := q; ⟨v, e1, g.mono ex⟩
      | own es =>
        obtain ⟨p1, ws, e1, s1, n1, g1, k1⟩ := q
        obtain ⟨p2, q1, q2⟩ := ok.slo j _ h
        rw [e1] at q2
        cases q2
        refine ⟨p1, ws, e1, .inr (.inr ⟨j, ?_⟩), n1, st _ _ n1 g1, k1.mono ex⟩
        unfold osSet
        rw [if_neg fun w => z w.symm]
        exact q1
      | box => exact q
      | scr ns => exact let ⟨v, e1, g⟩ := q; ⟨v, e1, Evl.ex_l ex g⟩
  · rcases sub a h with h | rfl
    · exact ok1.env.al a h
    · rw [e]
      simp
  · rcases os_at h1 with ⟨r1, rfl⟩ | ⟨r1, w1⟩ <;> rcases os_at h2 with ⟨r2, q2⟩ | ⟨r2, w2⟩
    · rw [r1, r2]
    · exact absurd (Or.inr (Or.inr ⟨_, w2⟩)) nS
    · subst q2
      exact absurd (Or.inr (Or.inr ⟨_, w1⟩)) nS
    · exact ok.inj _ _ _ w1 w2
  · rcases os_at h with ⟨_, rfl⟩ | ⟨_, h⟩
    · exact n0
    · exact ok.new _ _ h
  · rcases os_at h with ⟨_, rfl⟩ | ⟨_, h⟩
    · exact bp
    · exact ok.bo _ _ h
  · rw [List.getElem?_set] at h ⊢
    by_cases z : i = j
    · rw [if_pos z] at h ⊢
      rw [ok.env.len]
      split at h
      · rename_i l
        rw [if_pos l]
        exact ⟨p, by unfold osSet; rw [if_pos z.symm], rfl⟩
      · cases h
    · rw [if_neg z] at h ⊢
      obtain ⟨p2, q1, q2⟩ := ok.slo j _ h
      refine ⟨p2, ?_, q2⟩
      unfold osSet
      rw [if_neg fun w => z w.symm]
      exact q1
theorem snds_own {fl : FD} {i : Nat} (a : SndL K ta ca fl) : SndS K (tAsg ta (gName i)) ca (sOwn fl i) :=
  ⟨fun ρ E E' h q => a.mono _ _ _ (fun d => h.nx _) q, fun ok hm hf k => a.go ok.env hm hf fun ds xs p H' h np st bx e g => by
    obtain ⟨o, l⟩ := ok.own (i := i) np st bx (by omega) e g
    exact k.nx _ _ _ _ _ h o l⟩
/-! the list that is being made is changed -/
theorem Ok.mut {i : Nat} {ds es : List PyData} {p : Addr} {ys : List V} (ok : Ok K G H0 b0 b os m H σ ρ) (hi : ρ[i]? = some (.own ds)) (hp : σ[i]? = some (some (.ref p))) (hy : DaL K (rm H (SO G b os)) ys es) :
    Ok K G H0 b0 b os m (upd H p (.lst ys)) σ (ρ.set i (.own es)) ∧ Lk (SO G b os) H (SO G b os) (upd H p (.lst ys)) := by
  obtain ⟨p1, ws, e1, s1, n1, g1, k1⟩ := ok.env.sl i _ hi
  rw [hp] at e1
  cases e1
  obtain ⟨p2, q1, q2⟩ := ok.slo i _ hi
  rw [hp] at q2
  cases q2
  have ex : Evl.Ex (rm H (SO G b os)) (rm (upd H p (.lst ys)) (SO G b os)) := rm_mono fun a o n h => by
    rw [upd_ne fun z => n (by rw [z]; exact s1)]
    exact h
  have n0 := ok.new _ _ q1
  have bxu : ∀ {c : Option Addr} {k : Nat}, c ≠ some p → BxO c H k → BxO c (upd H p (.lst ys)) k := fun {c k} hc h => by
    cases c with
    | none => trivial
    | some c =>
      obtain ⟨x, y, z, h1, h2, h3, h4, h5, h6⟩ := h
      exact ⟨x, y, z, h1, h2, h3, h4, h5, by rw [upd_ne fun w => hc (by rw [w])]; exact h6⟩
  refine ⟨⟨⟨by rw [List.length_set]; exact ok.env.len, fun j s h => ?_, bxu n1 ok.env.bx, ok.env.bs, fun a h => ?_⟩, ok.inj, ok.new, fun c o n2 h => ?_, ok.bn, bxu (fun z => ?_) ok.obx, ok.bo, fun j ts h => ?_, ok.al0, ok.bG⟩, fun a o n h => ⟨?_, n⟩⟩
  · rw [List.getElem?_set] at h
    by_cases z : i = j
    · subst z
      rw [if_pos rfl] at h
      split at h
      · cases h
        exact ⟨p, ys, hp, s1, n1, upd_same, hy.mono ex⟩
      · cases h
    · rw [if_neg z] at h
      have q := ok.env.sl j s h
      cases s with
      | no => trivial
      | dt d => exact let ⟨v, e1, g⟩ := q; ⟨v, e1, g.mono ex⟩
      | own ts =>
        obtain ⟨p3, us, e3, s3, n3, g3, k3⟩ := q
        obtain ⟨p4, r1, r2⟩ := ok.slo j _ h
        rw [e3] at r2
        cases r2
        refine ⟨p3, us, e3, s3, n3, ?_, k3.mono ex⟩
        rw [upd_ne fun w => z (ok.inj _ _ _ q1 (by rw [← w]; exact r1))]
        exact g3
      | box => exact q
      | scr ns => exact let ⟨v, e1, g⟩ := q; ⟨v, e1, Evl.ex_l ex g⟩
  · by_cases z : a = p
    · rw [z, upd_same]
      simp
    · rw [upd_ne z]
      exact ok.env.al a h
  · rw [upd_ne fun z => by rw [z, n0] at h; cases h]
    exact ok.old c o n2 h
  · exact ok.al0 _ (ok.bG _ z) n0
  · rw [List.getElem?_set] at h
    by_cases z : i = j
    · subst z
      exact ⟨p, q1, hp⟩
    · rw [if_neg z] at h
      exact ok.slo j _ h
  · rw [upd_ne fun z => n (by rw [z]; exact s1)]
    exact h
/-- the list of slot i, as it's being made -/
abbrev ownQ (ρ : List Sl) (i : Nat) (Q : List PyData → Prop) : Prop := match ρ[i]? with
  | some (.own ds) => Q ds
  | _ => False
theorem ownQ_of {i : Nat} {Q : List PyData → Prop} (h : ownQ ρ i Q) : ∃ ds, ρ[i]? = some (.own ds) ∧ Q ds := by
  unfold ownQ at h
  split at h
  · exact ⟨_, by assumption, h⟩
  · exact h.elim
theorem ownQ_mono {i : Nat} {Q Q' : List PyData → Prop} (h : ∀ ds, Q ds → Q' ds) (q : ownQ ρ i Q) : ownQ ρ i Q' := by
  unfold ownQ at q ⊢
  split at q
  · exact h _ q
  · exact q.elim
abbrev sApp (i : Nat) (f : FE) : FS := fun ρ E => ownQ ρ i fun ds => f ρ fun d => ds.length < 1000000 ∧ E.nx (ρ.set i (.own (ds ++ [d])))
theorem snds_app {i : Nat} (a : Snd true K ta ca fa) : SndS K (tDrop (tBM K "list" rAppend (tVar i) (tCons ta tNil))) ca (sApp i fa) :=
  ⟨fun ρ E E' h q => ownQ_mono (fun ds => a.mono _ _ _ fun d z => ⟨z.1, h.nx _ z.2⟩) q, fun ok hm hf k => by
    obtain ⟨ds, e, hf⟩ := ownQ_of hf
    obtain ⟨p, xs, e1, e2, e3, e4, e5⟩ := ok.env.sl i _ e
    refine ⟨.ref p, e1, .inl ⟨rfl, xs, .inl (.inl e4)⟩, a.go ok.env hm hf fun d v H' q st bx vd => ⟨p, xs, v, rfl, rfl, st _ _ e3 e4, ?_, ?_⟩⟩
    · rw [e5.len]
      exact Nat.lt_trans q.1 (by decide)
    · have ok1 := ok.step st bx (by omega)
      obtain ⟨o, l⟩ := ok1.mut e e1 ((e5.mono (st.rm ok.env.bs)).app (.cons vd .nil))
      exact k.nx _ _ _ _ _ q.2 o ((Lk.step st ok.env.bs).trans l)⟩
abbrev sPut (i : Nat) (fi fe : FE) : FS := fun ρ E => fe ρ fun d => ownQ ρ i fun ds => fi ρ (asI fun k => ∃ j, ixN ds.length k = some j ∧ E.nx (ρ.set i (.own (ds.set j d))))
theorem snds_put {i : Nat} {ti : TE} {ci : Nat} {fi : FE} (a : Snd true K ta ca fa) (x : Snd md K ti ci fi) : SndS K (tAsg ta (gSub (tVar i) ti rSetL)) (ca + ci) (sPut i fi fa) :=
  ⟨fun ρ E E' h q => a.mono _ _ _ (fun d => ownQ_mono fun ds => x.mono _ _ _ (asI_mono fun n ⟨j, z1, z2⟩ => ⟨j, z1, h.nx _ z2⟩)) q, fun ok hm hf k => a.go ok.env (by omega) hf fun d v H1 q st bx vd => by
    obtain ⟨ds, e, hf⟩ := ownQ_of q
    have ok1 := ok.step st bx (by omega)
    obtain ⟨p, xs, e1, e2, e3, e4, e5⟩ := ok1.env.sl i _ e
    refine ⟨.ref p, e1, x.go ok1.env (by omega) hf fun dj vj H2 q2 st2 bx2 vd2 => ?_⟩
    obtain ⟨n, rfl, j, hj, q3⟩ := asI_of q2 vd2
    refine ⟨p, xs, n, j, rfl, rfl, st2 _ _ e3 e4, by rw [e5.len]; exact hj, ?_⟩
    have ok2 := ok1.step st2 bx2 (by omega)
    obtain ⟨o, l⟩ := ok2.mut e e1 ((e5.mono (st2.rm ok.env.bs)).set_ j (Da.mono (st2.rm ok.env.bs) vd))
    exact k.nx _ _ _ _ _ q3 (o.le (by omega)) (((Lk.step st ok.env.bs).trans (Lk.step st2 ok.env.bs)).trans l)⟩
abbrev sMeth (i : Nat) (g : List PyData → List PyData) : FS := fun ρ E => ownQ ρ i fun ds => E.nx (ρ.set i (.own (g ds)))
theorem snds_rev {i : Nat} : SndS K (tDrop (tBM0 K "list" rReverse (tVar i))) 0 (sMeth i List.reverse) :=
  ⟨fun ρ E E' h q => ownQ_mono (fun ds => h.nx _) q, fun ok hm hf k => by
    obtain ⟨ds, e, hf⟩ := ownQ_of hf
    obtain ⟨p, xs, e1, e2, e3, e4, e5⟩ := ok.env.sl i _ e
    obtain ⟨o, l⟩ := ok.mut e e1 e5.rev
    exact ⟨.ref p, e1, .inl ⟨rfl, xs, .inl (.inl e4)⟩, p, xs, rfl, rfl, e4, k.nx _ _ _ _ _ hf o l⟩⟩
theorem snds_clear {i : Nat} : SndS K (tDrop (tBM0 K "list" rClear (tVar i))) 0 (sMeth i fun _ => []) :=
  ⟨fun ρ E E' h q => ownQ_mono (fun ds => h.nx _) q, fun ok hm hf k => by
    obtain ⟨ds, e, hf⟩ := ownQ_of hf
    obtain ⟨p, xs, e1, e2, e3, e4, e5⟩ := ok.env.sl i _ e
    obtain ⟨o, l⟩ := ok.mut e e1 (ys := []) (es := []) .nil
    exact ⟨.ref p, e1, .inl ⟨rfl, xs, .inl (.inl e4)⟩, p, xs, rfl, rfl, e4, k.nx _ _ _ _ _ hf o l⟩⟩
abbrev sAug (i : Nat) (g : Int → Int → Int) (f : FE) : FS := fun ρ E => eVar i ρ (asI fun x => f ρ (asI fun y => E.nx (ρ.set i (.dt (.int (g x y))))))
theorem snds_aug {i : Nat} {g : Int → Int → Int} (a : Snd md K ta ca fa) : SndS K (tAug i ta (ipI g)) ca (sAug i g fa) :=
  ⟨fun ρ E E' h q => (snd_var (K := K)).mono _ _ _ (asI_mono fun x => a.mono _ _ _ (asI_mono fun y => h.nx _)) q, fun {G H0 b0 b os m H σ ρ D E} ok hm hf k => by
    unfold sAug eVar at hf
    split at hf
    · rename_i d e
      obtain ⟨v, e1, e2⟩ := ok.env.sl i _ e
      obtain ⟨x, rfl, hf⟩ := asI_of (md := true) (b := b) hf e2
      refine ⟨_, e1, a.go ok.env hm hf fun d v H' q st bx vd => ?_⟩
      obtain ⟨y, rfl, q⟩ := asI_of q vd
      have ok1 := ok.step st bx (by omega)
      exact ⟨x, y, rfl, rfl, k.nx _ _ _ _ _ q (ok1.kpt (ok1.env.set fun z e => ⟨_, e, .int _⟩) (kpt_set (vs := [i]) (by simp))) (Lk.step st ok.env.bs)⟩
    · exact hf.elim⟩
/-! loops -/
def forD (g : FG) (f : FS) : List PyData → List Sl → DEnds → Prop
  | [], ρ, E => E.nx ρ
  | d :: ds, ρ, E => g d ρ fun ρ1 => f ρ1 { E with nx := fun ρ2 => forD g f ds ρ2 E, ct := fun ρ2 => forD g f ds ρ2 E, bk := E.nx }
abbrev sFor (N : Nat) (fi : FD) (fg : FG) (f : FS) : FS := fun ρ E => fi ρ fun ds => ds.length ≤ N ∧ forD fg f ds ρ E
theorem forD_mono (hg : ∀ d (ρ : List Sl) (P P' : List Sl → Prop), (∀ d, P d → P' d) → fg d ρ P → fg d ρ P') (hf : ∀ (ρ : List Sl) (E E' : DEnds), DLe E E' → f ρ E → f ρ E') {E E' : DEnds} (h : DLe E E') : ∀ (ds : List PyData) (ρ : List Sl), forD fg f ds ρ E → forD fg f ds ρ E'
  | [], ρ, q => h.nx _ q
  | d :: ds, ρ, q => hg _ _ _ _ (fun ρ1 => hf ρ1 { E with nx := fun ρ2 => forD fg f ds ρ2 E, ct := fun ρ2 => forD fg f ds ρ2 E, bk := E.nx } { E' with nx := fun ρ2 => forD fg f ds ρ2 E', ct := fun ρ2 => forD fg f ds ρ2 E', bk := E'.nx } ⟨fun ρ2 => forD_mono hg hf h ds ρ2, h.rt, h.rl, h.nx, fun ρ2 => forD_mono hg hf h ds ρ2⟩) q
theorem snds_for {wi : TI} {ci N : Nat} {fi : FD} (i : SndI true K wi ci fi) (hg : SndG K tg vs fg) (a : SndS K t c f) : SndS K (tFor wi tg t) (ci + N * c) (sFor N fi fg f) := by
  refine ⟨fun ρ E E' h q => i.mono _ _ _ (fun ds z => ⟨z.1, forD_mono hg.mono a.mono h _ _ z.2⟩) q, fun {G H0 b0 b os m H σ ρ D E} ok hm hf k => i.go ok.env (by omega) hf fun ds J H1 p st bx wk => ?_⟩
  obtain ⟨hn, hc⟩ := p
  have ok1 := ok.step st bx (by omega)
  have bs := ok.env.bs
  have lk0 := Lk.step st bs
  refine for_it (w := wk) (fun j σ2 H2 => ∃ b2 os2 ρ2, Ok K G H0 b0 b2 os2 (m + ci + j * c) H2 σ2 ρ2 ∧ Lk (SO G b os) H1 (SO G b2 os2) H2 ∧ forD fg f (ds.drop j) ρ2 E)
    ⟨b, os, ρ, ok1.le (by omega), Lk.refl, hc⟩ (fun j σ2 H2 hj pe => ?_) (fun j x σ2 H2 H3 hj pe y => ?_) (fun σ2 H2 pe => ?_)
  · obtain ⟨b2, os2, ρ2, o2, l2, h2⟩ := pe
    exact l2.kg
  · obtain ⟨b2, os2, ρ2, o2, l2, h2⟩ := pe
    have nj : (j + 1) * c = j * c + c := by rw [Nat.add_mul, Nat.one_mul]
    have le : (j + 1) * c ≤ N * c := Nat.mul_le_mul_right _ (by omega)
    have exT : Evl.Ex (rm H1 (SO G b os)) (rm H2 (SO G b2 os2)) := fun a o h => by
      obtain ⟨n1, h1⟩ := rm_some h
      obtain ⟨g1, g2⟩ := l2 a o n1 h1
      rw [rm_out g2]
      exact g1
    obtain ⟨e23, d, ed, hd⟩ := y _ exT o2.env.al
    have ej := List.getElem?_eq_some_iff.mp ed
    rw [List.drop_eq_getElem_cons ej.1, ej.2] at h2
    have o3 := o2.step (Stp.ex e23) (o2.env.bx.ex e23) (Nat.le_refl _)
    have l3 : Lk (SO G b os) H1 (SO G b2 os2) H3 := l2.trans (Lk.step (Stp.ex e23) o2.env.bs)
    refine hg.go o3.env hd h2 fun ρ4 σ4 h4 E4 k4 => ?_
    refine a.go (o3.kpt E4 k4) (by omega) h4 ⟨fun b5 os5 σ5 H5 ρ5 q o l => ⟨b5, os5, ρ5, o.le (by omega), l3.trans l, q⟩, fun d v H5 q o => k.rt d v H5 q ⟨o.old, o.obx.le (by omega)⟩, fun ds vs p H5 q o => k.rl ds vs p H5 q ⟨o.old, o.obx.le (by omega)⟩,
      fun b5 os5 σ5 H5 ρ5 q o l => k.nx b5 os5 σ5 H5 ρ5 q (o.le (by omega)) ((lk0.trans l3).trans l), fun b5 os5 σ5 H5 ρ5 q o l => ⟨b5, os5, ρ5, o.le (by omega), l3.trans l, q⟩⟩
  · obtain ⟨b2, os2, ρ2, o2, l2, h2⟩ := pe
    rw [List.drop_length] at h2
    have le : ds.length * c ≤ N * c := Nat.mul_le_mul_right _ hn
    exact k.nx _ _ _ _ _ h2 (o2.le (by omega)) (lk0.trans l2)
/-- while: W tells where one may stand, with a number that falls -/
def sWhile (ft : FT) (f : FS) : FS := fun ρ E => ∃ W : Nat → List Sl → Prop, (∃ n, W n ρ) ∧ ∀ n ρ, W n ρ → ft ρ fun k => if k = true then f ρ { E with nx := fun ρ' => ∃ n', n' < n ∧ W n' ρ', ct := fun ρ' => ∃ n', n' < n ∧ W n' ρ', bk := E.nx } else E.nx ρ
theorem snds_while (x : SndT K tt 0 ft) (a : SndS K t 0 f) : SndS K (tWhile tt t) 0 (sWhile ft f) :=
  ⟨fun ρ E E' h q => by
    obtain ⟨W, w0, turn⟩ := q
    refine ⟨W, w0, fun n ρ w => x.mono _ _ _ (fun k z => ?_) (turn n ρ w)⟩
    cases k with
    | true => exact a.mono ρ { E with nx := fun ρ' => ∃ n', n' < n ∧ W n' ρ', ct := fun ρ' => ∃ n', n' < n ∧ W n' ρ', bk := E.nx } { E' with nx := fun ρ' => ∃ n', n' < n ∧ W n' ρ', ct := fun ρ' => ∃ n', n' < n ∧ W n' ρ', bk := E'.nx } ⟨fun _ h => h, h.rt, h.rl, h.nx, fun _ h => h⟩ z
    | false => exact h.nx _ z,
  fun {G H0 b0 b os m H σ ρ D E} ok hm hf k => by
    obtain ⟨W, ⟨n0, w0⟩, turn⟩ := hf
    refine ⟨fun n σ2 H2 => ∃ b2 os2 ρ2, Ok K G H0 b0 b2 os2 m H2 σ2 ρ2 ∧ Lk (SO G b os) H (SO G b2 os2) H2 ∧ W n ρ2, ⟨n0, b, os, ρ, ok, Lk.refl, w0⟩, fun n σ2 H2 pe => ?_⟩
    obtain ⟨b2, os2, ρ2, o2, l2, w2⟩ := pe
    refine x.go o2.env hm (turn n ρ2 w2) fun q H3 p st bx => ?_
    have o3 := o2.step st bx (Nat.le_refl _)
    have l3 := l2.trans (Lk.step st o2.env.bs)
    cases q with
    | true =>
      rw [if_pos rfl] at p ⊢
      refine ⟨fun σ5 H5 => ∃ b5 os5 ρ5, Ok K G H0 b0 b5 os5 m H5 σ5 ρ5 ∧ Lk (SO G b os) H (SO G b5 os5) H5 ∧ ∃ n', n' < n ∧ W n' ρ5, fun σ5 H5 z => ?_, a.go o3 hm p ⟨fun b5 os5 σ5 H5 ρ5 q o l => ⟨b5, os5, ρ5, o, l3.trans l, q⟩, k.rt, k.rl,
        fun b5 os5 σ5 H5 ρ5 q o l => k.nx b5 os5 σ5 H5 ρ5 q o (l3.trans l), fun b5 os5 σ5 H5 ρ5 q o l => ⟨b5, os5, ρ5, o, l3.trans l, q⟩⟩⟩
      obtain ⟨b5, os5, ρ5, o5, l5, n', ln, w5⟩ := z
      exact ⟨n', ln, b5, os5, ρ5, o5, l5, w5⟩
    | false =>
      rw [if_neg Bool.false_ne_true] at p ⊢
      exact k.nx _ _ _ _ _ p o3 l3⟩
end
end Dv
namespace Dv
open PySem PySem.Spec PyProof.Rows L2 Xg
open Classical
section
variable {K : PySem.W.Frag} {md : Bool} {ta tb te : TE} {ca cb c n : Nat} {fa fb fe : FE} {tr : TA} {fd : FD} {cr : Nat}
abbrev GB := PyData → PyData → (PyData → Prop) → Prop
theorem Vw.tup' {b : Option Addr} {S : Addr → Prop} {H : Hp} {v : V} {ds : List PyData} (h : Vw K b S H v (.tuple ds)) : Da K (rm H S) v (.tuple ds) := by
  cases h with
  | st h => exact h
/-! + - * // % ** << >> & -/
abbrev gI (g : Int → Int → Int) : GB
  | .int i, .int j, Q => Q (.int (g i j))
  | _, _, _ => False
abbrev gIc (C : Int → Int → Prop) (g : Int → Int → Int) : GB
  | .int i, .int j, Q => C i j ∧ Q (.int (g i j))
  | _, _, _ => False
theorem ops_I {g : Int → Int → Int} : OpSnd K (rI0 fun i j => .int (g i j)) (gI g) :=
  ⟨fun x y P P' h q => by
    cases x <;> cases y <;> first | exact h _ q | exact q.elim, fun {b S H x y dx dy Q P} al hx hy q k => by
    cases dx <;> cases dy <;> first | exact q.elim | skip
    rw [hx.int, hy.int]
    exact ⟨_, _, rfl, rfl, k _ _ _ q (Evl.Ex.refl _) (.int _)⟩⟩
theorem ops_Ic {C : Int → Int → Prop} {g : Int → Int → Int} : OpSnd K (rI C fun i j => .int (g i j)) (gIc C g) :=
  ⟨fun x y P P' h q => by
    cases x <;> cases y <;> first | exact ⟨q.1, h _ q.2⟩ | exact q.elim, fun {b S H x y dx dy Q P} al hx hy q k => by
    cases dx <;> cases dy <;> first | exact q.elim | skip
    rw [hx.int, hy.int]
    exact ⟨_, _, rfl, rfl, q.1, k _ _ _ q.2 (Evl.Ex.refl _) (.int _)⟩⟩
abbrev gAdd : GB
  | .int i, .int j, Q => Q (.int (i + j))
  | .list a, .list b, Q => a.length + b.length ≤ 1000000 ∧ Q (.list (a ++ b))
  | .tuple a, .tuple b, Q => a.length + b.length ≤ 1000000 ∧ Q (.tuple (a ++ b))
  | _, _, _ => False
theorem sz6 {n : Nat} (h : n ≤ 1000000) : n ≤ sizeLine := Nat.le_trans h (by decide)
abbrev rAdd (K : PySem.W.Frag) : R2 := fun x y H Q => rI0 (fun i j => .int (i + j)) x y H Q ∨ (rCat x y H Q ∨ rCatA K x y H Q)
theorem op_addX {X : Cx} : OpR X (binaryOp .Add) (rAdd X.K) := Xg.op_or op_add (Xg.op_or op_cat op_catA)
theorem ops_add : OpSnd K (rAdd K) gAdd :=
  ⟨fun x y P P' h q => by
    cases x <;> cases y <;> first | exact h _ q | exact ⟨q.1, h _ q.2⟩ | exact q.elim, fun {b S H x y dx dy Q P} al hx hy q k => by
    cases dx <;> cases dy <;> first | exact q.elim | skip
    · rw [hx.int, hy.int]
      exact .inl ⟨_, _, rfl, rfl, k _ _ _ q (Evl.Ex.refl _) (.int _)⟩
    · obtain ⟨p1, v1, rfl, e1, g1⟩ := hx.list
      obtain ⟨p2, v2, rfl, e2, g2⟩ := hy.list
      exact .inr (.inl ⟨_, _, _, _, rfl, rfl, e1, e2, by rw [g1.len, g2.len]; exact sz6 q.1, fun p np => k _ _ _ q.2 (Evl.Ex.new np) (new_lst al np (g1.app g2))⟩)
    · obtain ⟨p1, v1, rfl, e1, g1⟩ := hx.tuple
      obtain ⟨p2, v2, rfl, e2, g2⟩ := hy.tuple
      have t1 := hx.tup'
      have t2 := hy.tup'
      refine .inr (.inr ⟨_, _, _, _, rfl, rfl, e1, e2, by rw [g1.len, g2.len]; exact sz6 q.1, fun z => ?_, fun z w => ?_, fun z w p np => k _ _ _ q.2 (Evl.Ex.new np) (new_tup al np (g1.app g2))⟩)
      · subst z
        cases g1
        exact k _ _ _ q.2 (Evl.Ex.refl _) t2
      · subst w
        cases g2
        refine k _ _ _ q.2 (Evl.Ex.refl _) ?_
        rw [List.append_nil]
        exact t1⟩
/-- xs + ys, both lists: a new list -/
abbrev fCat (fa fb : FE) : FD := fun ρ Q => fa ρ (fun x => fb ρ fun y => match x, y with
  | .list a, .list b => a.length + b.length ≤ 1000000 ∧ Q (a ++ b)
  | _, _ => False)
theorem sndl_cat {md2 : Bool} (a : Snd md K ta ca fa) (a2 : Snd md2 K tb cb fb) : SndL K (tOp rCat ta tb) (ca + cb) (fCat fa fb) := ⟨fun ρ P P' h q => a.mono _ _ _ (fun x => a2.mono _ _ _ fun y z => by
      cases x <;> cases y <;> first | exact ⟨z.1, h _ z.2⟩ | exact z.elim) q,
  fun E hm hf k => a.go E (by omega) hf fun dx v H1 p st bx vd => a2.go (E.step st bx) (by omega) p fun dy v2 H2 p2 st2 bx2 vd2 => by
    have vd := vd.vw.step st2 E.bs
    have al := ((E.step st bx).step st2 bx2).al
    cases dx <;> cases dy <;> first | exact p2.elim | skip
    obtain ⟨p1, v1, rfl, e1, g1⟩ := vd.list
    obtain ⟨q1, w1, rfl, e2, g2⟩ := vd2.vw.list
    refine ⟨_, _, _, _, rfl, rfl, e1, e2, by rw [g1.len, g2.len]; exact sz6 p2.1, fun p np => k _ _ _ _ p2.2 (back (st.trans st2) (bx2.le (Nat.le_refl _)) np) ((st.trans st2).trans (Stp.ex (Evl.Ex.new np))) ((bx2.le (by omega)).ex (Evl.Ex.new np)) upd_same ((g1.app g2).fresh np)⟩⟩
def rep (k : Int) (xs : List PyData) : List PyData := (List.replicate k.toNat xs).flatten
abbrev gMul : GB
  | .int i, .int j, Q => CMul i j ∧ Q (.int (i * j))
  | .list a, .int k, Q => (-(2 ^ 63) ≤ k ∧ k < 2 ^ 63 ∧ a.length * k.toNat ≤ 1000000) ∧ Q (.list (rep k a))
  | .tuple a, .int k, Q => (a ≠ [] ∧ 1 ≤ k ∧ k ≤ 1000 ∧ a.length ≤ 1000) ∧ Q (.tuple (rep k a))
  | _, _, _ => False
abbrev rMul (K : PySem.W.Frag) : R2 := fun x y H Q => rI CMul (fun i j => .int (i * j)) x y H Q ∨ (rRep x y H Q ∨ (rRepT K x y H Q ∨ Xg.rRep1 K x y H Q))
theorem op_mulX {X : Cx} : OpR X (binaryOp .Mult) (rMul X.K) := Xg.op_or op_mul (Xg.op_or op_rep (Xg.op_or op_repT Xg.op_rep1))
theorem DaL.rep {H : Hp} {vs : List V} {ds : List PyData} (h : DaL K H vs ds) : ∀ k : Nat, DaL K H (List.replicate k vs).flatten (List.replicate k ds).flatten
  | 0 => .nil
  | k + 1 => by
    rw [List.replicate_succ, List.replicate_succ, List.flatten_cons, List.flatten_cons]
    exact h.app (DaL.rep h k)
theorem ops_mul : OpSnd K (rMul K) gMul :=
  ⟨fun x y P P' h q => by
    cases x <;> cases y <;> first | exact ⟨q.1, h _ q.2⟩ | exact q.elim, fun {b S H x y dx dy Q P} al hx hy q k => by
    cases dx <;> cases dy <;> first | exact q.elim | skip
    · rw [hx.int, hy.int]
      exact .inl ⟨_, _, rfl, rfl, q.1, k _ _ _ q.2 (Evl.Ex.refl _) (.int _)⟩
    · obtain ⟨p1, v1, rfl, e1, g1⟩ := hx.list
      rw [hy.int]
      exact .inr (.inl ⟨_, _, _, rfl, rfl, e1, q.1.1, q.1.2.1, by rw [g1.len]; exact sz6 q.1.2.2, fun p np => k _ _ _ q.2 (Evl.Ex.new np) (new_lst al np (g1.rep _))⟩)
    · rename_i a i
      obtain ⟨p1, v1, rfl, e1, g1⟩ := hx.tuple
      rw [hy.int]
      have t1 := hx.tup'
      by_cases z : i = 1
      · subst z
        refine .inr (.inr (.inr ⟨_, _, rfl, rfl, e1, k _ _ _ q.2 (Evl.Ex.refl _) ?_⟩))
        show Da K (rm H S) (.ref p1) (.tuple (List.replicate 1 a).flatten)
        rw [show (List.replicate 1 a).flatten = a by simp]
        exact t1
      · refine .inr (.inr (.inl ⟨_, _, _, rfl, rfl, e1, fun w => ?_, by have := q.1.2.1; omega, q.1.2.2.1, by rw [g1.len]; exact q.1.2.2.2, fun p np => k _ _ _ q.2 (Evl.Ex.new np) (new_tup al np (g1.rep _))⟩))
        subst w
        cases g1
        exact q.1.1 rfl⟩
/-! comparisons -/
abbrev gC (p : Int → Int → Bool) : GB
  | .int i, .int j, Q => Q (.bool (p i j))
  | _, _, _ => False
theorem ops_C {p : Int → Int → Bool} : OpSnd K (rI0 fun i j => .bl (p i j)) (gC p) :=
  ⟨fun x y P P' h q => by
    cases x <;> cases y <;> first | exact h _ q | exact q.elim, fun {b S H x y dx dy Q P} al hx hy q k => by
    cases dx <;> cases dy <;> first | exact q.elim | skip
    rw [hx.int, hy.int]
    exact ⟨_, _, rfl, rfl, k _ _ _ q (Evl.Ex.refl _) (.bl _)⟩⟩
abbrev gEq : GB
  | .int i, .int j, Q => Q (.bool (decide (i = j)))
  | .str i, .str j, Q => Q (.bool (decide (i = j)))
  | .bool i, .bool j, Q => Q (.bool (decide (i = j)))
  | x, y, Q => SeqAt.shaped x = true ∧ SeqAt.shaped y = true ∧ Q (.bool (PyData.eqv x y))
abbrev gNe : GB
  | .int i, .int j, Q => Q (.bool (!decide (i = j)))
  | .str i, .str j, Q => Q (.bool (!decide (i = j)))
  | .bool i, .bool j, Q => Q (.bool (!decide (i = j)))
  | x, y, Q => SeqAt.shaped x = true ∧ SeqAt.shaped y = true ∧ Q (.bool (!PyData.eqv x y))
abbrev rEqX (K : PySem.W.Frag) : R2 := fun x y H Q => rEq x y H Q ∨ rEqD K x y H Q
abbrev rNeX (K : PySem.W.Frag) : R2 := fun x y H Q => rNe x y H Q ∨ rNeD K x y H Q
theorem op_eqX {X : Cx} (hu : X.A.units + 64 < cLine) : OpR X (compareOp .Eq) (rEqX X.K) := Xg.op_or op_eq (op_eqD hu)
theorem op_neX {X : Cx} (hu : X.A.units + 64 < cLine) : OpR X (compareOp .NotEq) (rNeX X.K) := Xg.op_or op_ne (op_neD hu)
theorem ops_eq : OpSnd K (rEqX K) gEq := ⟨fun x y P P' h q => by
    cases x <;> cases y <;> first | exact h _ q | exact ⟨q.1, q.2.1, h _ q.2.2⟩, fun {b S H x y dx dy Q P} al hx hy q k => by
    cases dx <;> cases dy <;> first
      | exact .inr ⟨_, _, hx.dp, hy.dp, q.1, q.2.1, k _ _ _ q.2.2 (Evl.Ex.refl _) (.bl _)⟩
      | (rw [hx.int, hy.int]; exact .inl ⟨rfl, by simp only [V.int.injEq]; exact k _ _ _ q (Evl.Ex.refl _) (.bl _)⟩)
      | (rw [hx.str, hy.str]; exact .inl ⟨rfl, by simp only [V.str.injEq]; exact k _ _ _ q (Evl.Ex.refl _) (.bl _)⟩)
      | (rw [hx.bool, hy.bool]; exact .inl ⟨rfl, by simp only [V.bl.injEq]; exact k _ _ _ q (Evl.Ex.refl _) (.bl _)⟩)⟩
theorem ops_ne : OpSnd K (rNeX K) gNe := ⟨fun x y P P' h q => by
    cases x <;> cases y <;> first | exact h _ q | exact ⟨q.1, q.2.1, h _ q.2.2⟩, fun {b S H x y dx dy Q P} al hx hy q k => by
    cases dx <;> cases dy <;> first
      | exact .inr ⟨_, _, hx.dp, hy.dp, q.1, q.2.1, k _ _ _ q.2.2 (Evl.Ex.refl _) (.bl _)⟩
      | (rw [hx.int, hy.int]; exact .inl ⟨rfl, by simp only [V.int.injEq]; exact k _ _ _ q (Evl.Ex.refl _) (.bl _)⟩)
      | (rw [hx.str, hy.str]; exact .inl ⟨rfl, by simp only [V.str.injEq]; exact k _ _ _ q (Evl.Ex.refl _) (.bl _)⟩)
      | (rw [hx.bool, hy.bool]; exact .inl ⟨rfl, by simp only [V.bl.injEq]; exact k _ _ _ q (Evl.Ex.refl _) (.bl _)⟩)⟩
/-- texts, numbers, truths: by what they are -/
abbrev isN : PyData → Bool
  | .none => true
  | _ => false
theorem non_iff {b : Option Addr} {S : Addr → Prop} {H : Hp} {x : V} {d : PyData} (h : Vw K b S H x d) : decide (x = .non) = isN d := by
  cases d with
  | none => rw [h.none]; rfl
  | bool k => rw [h.bool]; exact decide_eq_false fun z => nomatch z
  | int k => rw [h.int]; exact decide_eq_false fun z => nomatch z
  | str k => rw [h.str]; exact decide_eq_false fun z => nomatch z
  | list k =>
    obtain ⟨_, _, rfl, _⟩ := h.list
    exact decide_eq_false fun z => nomatch z
  | tuple k =>
    obtain ⟨_, _, rfl, _⟩ := h.tuple
    exact decide_eq_false fun z => nomatch z
  | dict k =>
    cases h with
    | st h => cases h
abbrev gIs : GB
  | x, .none, Q => Q (.bool (isN x))
  | _, _, _ => False
abbrev gIsNot : GB
  | x, .none, Q => Q (.bool (!isN x))
  | _, _, _ => False
theorem ops_is : OpSnd K (fun x y H Q => y = .non ∧ Q (.bl (decide (x = .non))) H) gIs := ⟨fun x y P P' h q => by
    cases y <;> first | exact h _ q | exact q.elim, fun {b S H x y dx dy Q P} al hx hy q k => by
    cases dy <;> first | exact q.elim | skip
    exact ⟨hy.none, by rw [non_iff hx]; exact k _ _ _ q (Evl.Ex.refl _) (.bl _)⟩⟩
theorem ops_isnot : OpSnd K (fun x y H Q => y = .non ∧ Q (.bl (!decide (x = .non))) H) gIsNot := ⟨fun x y P P' h q => by
    cases y <;> first | exact h _ q | exact q.elim, fun {b S H x y dx dy Q P} al hx hy q k => by
    cases dy <;> first | exact q.elim | skip
    exact ⟨hy.none, by rw [non_iff hx]; exact k _ _ _ q (Evl.Ex.refl _) (.bl _)⟩⟩
/-! parts -/
abbrev atQ (o : Option PyData) (Q : PyData → Prop) : Prop := match o with
  | some d => Q d
  | none => False
theorem atQ_of {o : Option PyData} {Q : PyData → Prop} (h : atQ o Q) : ∃ d, o = some d ∧ Q d := by
  cases o with
  | none => exact h.elim
  | some d => exact ⟨d, rfl, h⟩
theorem atQ_mono {o : Option PyData} {Q Q' : PyData → Prop} (g : ∀ d, Q d → Q' d) (h : atQ o Q) : atQ o Q' := by
  cases o with
  | none => exact h.elim
  | some d => exact g _ h
abbrev gIx : GB
  | .list ds, .int i, Q => atQ (L2.atI ds i) Q
  | .tuple ds, .int i, Q => atQ (L2.atI ds i) Q
  | _, _, _ => False
theorem ops_ix : OpSnd K (rIx K) gIx := ⟨fun x y P P' h q => by
    cases x <;> cases y <;> first | exact atQ_mono h q | exact q.elim, fun {b S H x y dx dy Q P} al hx hy q k => by
    cases dx <;> cases dy <;> first | exact q.elim | skip
    · obtain ⟨d, e, q⟩ := atQ_of q
      obtain ⟨p, vs, rfl, e1, g⟩ := hx.list
      rw [hy.int]
      obtain ⟨v, e2, e3⟩ := g.atI e
      exact .inl ⟨p, vs, _, v, rfl, rfl, .inl (.inl e1), e2, k _ _ _ q (Evl.Ex.refl _) e3⟩
    · obtain ⟨d, e, q⟩ := atQ_of q
      obtain ⟨p, vs, rfl, e1, g⟩ := hx.tuple
      rw [hy.int]
      obtain ⟨v, e2, e3⟩ := g.atI e
      exact .inr (.inl ⟨p, vs, _, v, rfl, rfl, e1, e2, k _ _ _ q (Evl.Ex.refl _) e3⟩)⟩
/-! slices -/
def cutD (xs : List PyData) (lo hi : Option Int) : List PyData := (xs.drop (HT.sIx xs.length 0 lo)).take (HT.sIx xs.length xs.length hi - HT.sIx xs.length 0 lo)
theorem DaL.cut {H : Hp} {vs : List V} {ds : List PyData} (h : DaL K H vs ds) (lo hi : Option Int) : DaL K H (cutV vs lo hi) (cutD ds lo hi) := by
  unfold cutV cutD
  rw [h.len]
  exact (h.drop _).take _
structure SndO (K : PySem.W.Frag) (t : TO) (c : Nat) (f : List Sl → (Option Int → Prop) → Prop) : Prop where
  mono : ∀ (ρ : List Sl) (P P' : Option Int → Prop), (∀ d, P d → P' d) → f ρ P → f ρ P'
  go : ∀ {b : Option Addr} {S : Addr → Prop} {m : Nat} {σ : L2.St} {H : Hp} {ρ : List Sl} {Q : Option Int → Hp → Prop} {P : Option Int → Prop}, DEnv K b S m H σ ρ → m + c ≤ LIM → f ρ P →
    (∀ k H', P k → Stp b H H' → BxO b H' (m + c) → Q k H') → t σ H Q
abbrev oNone : List Sl → (Option Int → Prop) → Prop := fun _ Q => Q none
abbrev oSome (f : FE) : List Sl → (Option Int → Prop) → Prop := fun ρ Q => f ρ (asI fun i => Q (some i))
theorem sndo_none : SndO K tNoPart 0 oNone := ⟨fun ρ P P' h q => h _ q, fun E hm hf k => k _ _ hf Stp.refl E.bx⟩
theorem sndo_some (a : Snd md K ta ca fa) : SndO K (tPart ta) ca (oSome fa) := ⟨fun ρ P P' h q => a.mono _ _ _ (asI_mono fun i => h _) q, fun E hm hf k => a.go E hm hf fun d v H' p st bx vd => by
    obtain ⟨i, rfl, q⟩ := asI_of p vd
    exact ⟨i, rfl, k _ _ q st bx⟩⟩
abbrev eSl (fa : FE) (fl fh : List Sl → (Option Int → Prop) → Prop) : FE := fun ρ Q => fa ρ fun x => fl ρ fun lo => fh ρ fun hi => match x with
  | .list ds => Q (.list (cutD ds lo hi))
  | .tuple ds => Q (.tuple (cutD ds lo hi))
  | _ => False
abbrev rSlX (K : PySem.W.Frag) : V → Option Int → Option Int → Hp → VK → Prop := fun x lo hi H Q => rSlL K x lo hi H Q ∨ rSlA K x lo hi H Q
theorem sl_X {X : Cx} : L2.SlR X (rSlX X.K) := Pw.sl_or sl_list sl_tupA
theorem snd_sl {tl th : TO} {cl ch : Nat} {fl fh : List Sl → (Option Int → Prop) → Prop} (a : Snd md K ta ca fa) (l : SndO K tl cl fl) (h : SndO K th ch fh) : Snd true K (tSl (rSlX K) ta tl th) (ca + (cl + ch)) (eSl fa fl fh) := mk_snd
  (fun ρ P P' hp q => a.mono _ _ _ (fun x => l.mono _ _ _ fun lo => h.mono _ _ _ fun hi z => by
    cases x <;> first | exact hp _ z | exact z.elim) q)
  (fun E hm hf k => a.go E (by omega) hf fun dx v H1 p st bx vd => l.go (E.step st bx) (by omega) p fun lo H2 p2 st2 bx2 => h.go ((E.step st bx).step st2 bx2) (by omega) p2 fun hi H3 p3 st3 bx3 => by
    have vd := (vd.vw.step st2 E.bs).step st3 E.bs
    have st4 := (st.trans st2).trans st3
    have al := (E.step st4 bx3).al
    cases dx <;> first | exact p3.elim | skip
    · obtain ⟨p1, vs, rfl, e1, g⟩ := vd.list
      exact .inl ⟨p1, vs, rfl, .inl (.inl e1), fun q nq => k _ _ _ p3 (st4.trans (Stp.ex (Evl.Ex.new nq))) ((bx3.le (by omega)).ex (Evl.Ex.new nq)) (new_lst al nq (g.cut lo hi))⟩
    · obtain ⟨p1, vs, rfl, e1, g⟩ := vd.tuple
      refine .inr ⟨p1, vs, rfl, e1, fun z => ?_, fun z q nq => k _ _ _ p3 (st4.trans (Stp.ex (Evl.Ex.new nq))) ((bx3.le (by omega)).ex (Evl.Ex.new nq)) (new_tup al nq (g.cut lo hi))⟩
      refine k _ _ _ p3 st4 (bx3.le (by omega)) ?_
      have t1 := vd.tup'
      unfold cutD
      rw [← g.len, z.1, z.2, List.drop_zero, Nat.sub_zero, g.len, List.take_length]
      exact t1)
/-- x[::-1] of a list -/
abbrev eRevL (fa : FE) : FE := fun ρ Q => fa ρ fun x => match x with
  | .list ds => Q (.list ds.reverse)
  | _ => False
theorem snd_revL (a : Snd md K ta ca fa) : Snd true K (tRevL K ta) ca (eRevL fa) := mk_snd
  (fun ρ P P' hp q => a.mono _ _ _ (fun x z => by
    cases x <;> first | exact hp _ z | exact z.elim) q)
  (fun E hm hf k => a.go E (by omega) hf fun dx v H1 p st bx vd => by
    cases dx <;> first | exact p.elim | skip
    obtain ⟨p1, vs, rfl, e1, g⟩ := vd.vw.list
    exact ⟨p1, vs, rfl, .inl (.inl e1), fun q nq => k _ _ _ p (st.trans (Stp.ex (Evl.Ex.new nq))) (bx.ex (Evl.Ex.new nq)) (new_lst (E.step st bx).al nq g.rev)⟩)
/-! built-ins -/
structure CallSnd (K : PySem.W.Frag) (r : List V → Hp → VK → Prop) (g : List PyData → (PyData → Prop) → Prop) : Prop where
  mono : ∀ x (P P' : PyData → Prop), (∀ d, P d → P' d) → g x P → g x P'
  run : ∀ {b : Option Addr} {S : Addr → Prop} {H : Hp} {vs : List V} {ds : List PyData} {Q : VK} {P : PyData → Prop}, Al S H → VwL false K b S H vs ds → g ds P →
    (∀ d v H', P d → Evl.Ex H H' → Da K (rm H' S) v d → Q v H') → r vs H Q
abbrev eCB (g : List PyData → (PyData → Prop) → Prop) (fd : FD) : FE := fun ρ Q => fd ρ fun ds => g ds Q
theorem VwL.v {b : Option Addr} {S : Addr → Prop} {H : Hp} : ∀ {vs : List V} {ds : List PyData}, VwL md K b S H vs ds → VwL false K b S H vs ds
  | _, _, .nil => .nil
  | _, _, .cons h g => .cons h.vw (VwL.v g)
theorem snd_cb {r : List V → Hp → VK → Prop} {g : List PyData → (PyData → Prop) → Prop} (o : CallSnd K r g) (a : SndD md K tr n cr fd) : Snd true K (tCB r tr) cr (eCB g fd) := mk_snd
  (fun ρ P P' h q => a.mono _ _ _ (fun ds => o.mono ds _ _ h) q)
  (fun E hm hf k => a.go E hm hf fun ds vs H1 h1 l s1 b1 d1 => o.run (E.step s1 b1).al d1.v h1 fun d v H' p e q => k d v H' p (s1.trans (Stp.ex e)) (b1.ex e) q)
abbrev g1 (g : PyData → (PyData → Prop) → Prop) : List PyData → (PyData → Prop) → Prop
  | [d], Q => g d Q
  | _, _ => False
abbrev g2 (g : PyData → PyData → (PyData → Prop) → Prop) : List PyData → (PyData → Prop) → Prop
  | [d, e], Q => g d e Q
  | _, _ => False
abbrev lenD : PyData → (PyData → Prop) → Prop
  | .list ds, Q => Q (.int ds.length)
  | .tuple ds, Q => Q (.int ds.length)
  | _, _ => False
theorem call1 {r : List V → Hp → VK → Prop} {g : PyData → (PyData → Prop) → Prop} (m : ∀ x (P P' : PyData → Prop), (∀ d, P d → P' d) → g x P → g x P')
    (run : ∀ {b : Option Addr} {S : Addr → Prop} {H : Hp} {v : V} {d : PyData} {Q : VK} {P : PyData → Prop}, Al S H → Vw K b S H v d → g d P → (∀ d v H', P d → Evl.Ex H H' → Da K (rm H' S) v d → Q v H') → r [v] H Q) : CallSnd K r (g1 g) :=
  ⟨fun x P P' h q => by
    unfold g1 at q ⊢
    split at q
    · exact m _ _ _ h q
    · exact q.elim, fun al vw q k => by
    unfold g1 at q
    split at q
    · cases vw with
      | cons h g =>
        cases g
        exact run al h q k
    · exact q.elim⟩
theorem call2 {r : List V → Hp → VK → Prop} {g : PyData → PyData → (PyData → Prop) → Prop} (m : ∀ x y (P P' : PyData → Prop), (∀ d, P d → P' d) → g x y P → g x y P')
    (run : ∀ {b : Option Addr} {S : Addr → Prop} {H : Hp} {v w : V} {d e : PyData} {Q : VK} {P : PyData → Prop}, Al S H → Vw K b S H v d → Vw K b S H w e → g d e P → (∀ d v H', P d → Evl.Ex H H' → Da K (rm H' S) v d → Q v H') → r [v, w] H Q) : CallSnd K r (g2 g) :=
  ⟨fun x P P' h q => by
    unfold g2 at q ⊢
    split at q
    · exact m _ _ _ _ h q
    · exact q.elim, fun al vw q k => by
    unfold g2 at q
    split at q
    · cases vw with
      | cons h g =>
        cases g with
        | cons h2 g =>
          cases g
          exact run al h h2 q k
    · exact q.elim⟩
theorem cs_len : CallSnd K (fun xs H Q => ∃ x n, xs = [x] ∧ LenV K x H n ∧ Q (.int n) H) (g1 lenD) := call1
  (fun x P P' h q => by cases x <;> first | exact h _ q | exact q.elim)
  (fun {b S H v d Q P} al h q k => by
    cases d <;> first | exact q.elim | skip
    · obtain ⟨p, vs, rfl, e, g⟩ := h.list
      exact ⟨_, vs.length, rfl, .inl ⟨vs, .inl (.inl e), rfl⟩, by rw [g.len]; exact k _ _ _ q (Evl.Ex.refl _) (.int _)⟩
    · obtain ⟨p, vs, rfl, e, g⟩ := h.tuple
      exact ⟨_, vs.length, rfl, .inr ⟨vs, e, rfl⟩, by rw [g.len]; exact k _ _ _ q (Evl.Ex.refl _) (.int _)⟩)
abbrev absD : PyData → (PyData → Prop) → Prop
  | .int i, Q => Q (.int (if i < 0 then -i else i))
  | _, _ => False
theorem cs_abs : CallSnd K (fun xs H Q => ∃ i, xs = [.int i] ∧ Q (.int (if i < 0 then -i else i)) H) (g1 absD) := call1
  (fun x P P' h q => by cases x <;> first | exact h _ q | exact q.elim)
  (fun {b S H v d Q P} al h q k => by
    cases d <;> first | exact q.elim | skip
    rw [h.int]
    exact ⟨_, rfl, k _ _ _ q (Evl.Ex.refl _) (.int _)⟩)
abbrev intD : PyData → (PyData → Prop) → Prop
  | .int i, Q => Q (.int i)
  | .bool k, Q => Q (.int (if k then 1 else 0))
  | _, _ => False
theorem cs_int : CallSnd K (fun xs H Q => (∃ i, xs = [.int i] ∧ Q (.int i) H) ∨ ∃ k, xs = [.bl k] ∧ Q (.int (if k then 1 else 0)) H) (g1 intD) := call1
  (fun x P P' h q => by cases x <;> first | exact h _ q | exact q.elim)
  (fun {b S H v d Q P} al h q k => by
    cases d <;> first | exact q.elim | skip
    · rw [h.bool]
      exact .inr ⟨_, rfl, k _ _ _ q (Evl.Ex.refl _) (.int _)⟩
    · rw [h.int]
      exact .inl ⟨_, rfl, k _ _ _ q (Evl.Ex.refl _) (.int _)⟩)
theorem cs_max2 : CallSnd K (fun xs H Q => ∃ i j, xs = [.int i, .int j] ∧ Q (.int (if j > i then j else i)) H) (g2 (gI fun i j => if j > i then j else i)) := call2
  (fun x y P P' h q => by cases x <;> cases y <;> first | exact h _ q | exact q.elim)
  (fun {b S H v w d e Q P} al h h2 q k => by
    cases d <;> cases e <;> first | exact q.elim | skip
    rw [h.int, h2.int]
    exact ⟨_, _, rfl, k _ _ _ q (Evl.Ex.refl _) (.int _)⟩)
theorem cs_min2 : CallSnd K (fun xs H Q => ∃ i j, xs = [.int i, .int j] ∧ Q (.int (if j < i then j else i)) H) (g2 (gI fun i j => if j < i then j else i)) := call2
  (fun x y P P' h q => by cases x <;> cases y <;> first | exact h _ q | exact q.elim)
  (fun {b S H v w d e Q P} al h h2 q k => by
    cases d <;> cases e <;> first | exact q.elim | skip
    rw [h.int, h2.int]
    exact ⟨_, _, rfl, k _ _ _ q (Evl.Ex.refl _) (.int _)⟩)
/-- of a list of numbers alone -/
abbrev intsQ (Q : List Int → Prop) : PyData → Prop
  | .list ds => ∃ ns : List Int, ds = ns.map PyData.int ∧ Q ns
  | _ => False
theorem intsQ_mono {P P' : List Int → Prop} (h : ∀ k, P k → P' k) : ∀ d, intsQ P d → intsQ P' d := fun d g => by
  cases d <;> first | exact let ⟨ns, e, q⟩ := g; ⟨ns, e, h _ q⟩ | exact g.elim
theorem intsQ_of {b : Option Addr} {S : Addr → Prop} {H : Hp} {Q : List Int → Prop} {d : PyData} {v : V} (h : intsQ Q d) (g : Vw K b S H v d) : ∃ p ns, v = .ref p ∧ SqL K H p (ns.map V.int) ∧ Q ns := by
  cases d with
  | list ds =>
    obtain ⟨ns, rfl, q⟩ := h
    obtain ⟨p, vs, rfl, e, g⟩ := g.list
    rw [g.ints_inv] at e
    exact ⟨p, ns, rfl, .inl (.inl e), q⟩
  | _ => exact h.elim
theorem cs_sum : CallSnd K (rSum K) (g1 fun d Q => intsQ (fun ns => Q (.int ns.sum)) d) := call1
  (fun x P P' h q => intsQ_mono (fun ns => h _) _ q)
  (fun al h q k => let ⟨p, ns, e, s, q⟩ := intsQ_of q h; ⟨p, ns, by rw [e], s, k _ _ _ q (Evl.Ex.refl _) (.int _)⟩)
theorem cs_min : CallSnd K (rMin K) (g1 fun d Q => intsQ (fun ns => 0 < ns.length ∧ ∀ m, m ∈ ns → (∀ y, y ∈ ns → m ≤ y) → Q (.int m)) d) := call1
  (fun x P P' h q => intsQ_mono (fun ns z => ⟨z.1, fun m h1 h2 => h _ (z.2 m h1 h2)⟩) _ q)
  (fun al h q k => let ⟨p, ns, e, s, q⟩ := intsQ_of q h; ⟨p, ns, by rw [e], s, q.1, fun m h1 h2 => k _ _ _ (q.2 m h1 h2) (Evl.Ex.refl _) (.int _)⟩)
theorem cs_max : CallSnd K (rMax K) (g1 fun d Q => intsQ (fun ns => 0 < ns.length ∧ ∀ m, m ∈ ns → (∀ y, y ∈ ns → y ≤ m) → Q (.int m)) d) := call1
  (fun x P P' h q => intsQ_mono (fun ns z => ⟨z.1, fun m h1 h2 => h _ (z.2 m h1 h2)⟩) _ q)
  (fun al h q k => let ⟨p, ns, e, s, q⟩ := intsQ_of q h; ⟨p, ns, by rw [e], s, q.1, fun m h1 h2 => k _ _ _ (q.2 m h1 h2) (Evl.Ex.refl _) (.int _)⟩)
abbrev boolsQ (Q : List Bool → Prop) : PyData → Prop
  | .list ds => ∃ ns : List Bool, ds = ns.map PyData.bool ∧ Q ns
  | _ => False
theorem boolsQ_mono {P P' : List Bool → Prop} (h : ∀ k, P k → P' k) : ∀ d, boolsQ P d → boolsQ P' d := fun d g => by
  cases d <;> first | exact let ⟨ns, e, q⟩ := g; ⟨ns, e, h _ q⟩ | exact g.elim
theorem boolsQ_of {b : Option Addr} {S : Addr → Prop} {H : Hp} {Q : List Bool → Prop} {d : PyData} {v : V} (h : boolsQ Q d) (g : Vw K b S H v d) : ∃ p ns, v = .ref p ∧ SqL K H p (ns.map V.bl) ∧ Q ns := by
  cases d with
  | list ds =>
    obtain ⟨ns, rfl, q⟩ := h
    obtain ⟨p, vs, rfl, e, g⟩ := g.list
    rw [g.bools_inv] at e
    exact ⟨p, ns, rfl, .inl (.inl e), q⟩
  | _ => exact h.elim
theorem cs_all : CallSnd K (rAll K) (g1 fun d Q => boolsQ (fun ns => Q (.bool (ns.all id))) d) := call1
  (fun x P P' h q => boolsQ_mono (fun ns => h _) _ q)
  (fun al h q k => let ⟨p, ns, e, s, q⟩ := boolsQ_of q h; ⟨p, ns, by rw [e], s, k _ _ _ q (Evl.Ex.refl _) (.bl _)⟩)
theorem cs_any : CallSnd K (rAny K) (g1 fun d Q => boolsQ (fun ns => Q (.bool (ns.any id))) d) := call1
  (fun x P P' h q => boolsQ_mono (fun ns => h _) _ q)
  (fun al h q k => let ⟨p, ns, e, s, q⟩ := boolsQ_of q h; ⟨p, ns, by rw [e], s, k _ _ _ q (Evl.Ex.refl _) (.bl _)⟩)
abbrev negD : PyData → (PyData → Prop) → Prop
  | .int i, Q => Q (.int (-i))
  | _, _ => False
theorem us_neg : UnSnd K (rU fun i => .int (-i)) negD := ⟨fun x P P' h q => by cases x <;> first | exact h _ q | exact q.elim, fun {b S H x dx Q P} al h q k => by
    cases dx <;> first | exact q.elim | skip
    rw [h.int]
    exact ⟨_, rfl, k _ _ _ q (Evl.Ex.refl _) (.int _)⟩⟩
abbrev tupD : PyData → (PyData → Prop) → Prop
  | .list ds, Q => Q (.tuple ds)
  | .tuple ds, Q => Q (.tuple ds)
  | _, _ => False
theorem us_tup : UnSnd K (kTup K) tupD := ⟨fun x P P' h q => by cases x <;> first | exact h _ q | exact q.elim, fun {b S H x dx Q P} al h q k => by
    cases dx <;> first | exact q.elim | skip
    · obtain ⟨p, vs, rfl, e, g⟩ := h.list
      exact .inl ⟨p, vs, rfl, .inl (.inl e), fun q1 nq => k _ _ _ q (Evl.Ex.new nq) (new_tup al nq g)⟩
    · obtain ⟨p, vs, rfl, e, g⟩ := h.tuple
      refine .inr ⟨p, vs, rfl, e, k _ _ _ q (Evl.Ex.refl _) ?_⟩
      cases h with
      | st h => exact h⟩
theorem snd_tupOf (a : Snd md K ta ca fa) : Snd true K (tThen ta (kTup K)) ca (eUn tupD fa) := snd_un0 (r := kTup K) us_tup a
/-- tuple(reversed(x)), x a tuple -/
abbrev eRevT (fa : FE) : FE := fun ρ Q => fa ρ fun x => match x with
  | .tuple ds => (ds ≠ [] ∧ ds.length ≤ 1000) ∧ Q (.tuple ds.reverse)
  | _ => False
theorem snd_revT (a : Snd md K ta ca fa) : Snd true K (Xg.tRevT K ta) ca (eRevT fa) := mk_snd
  (fun ρ P P' hp q => a.mono _ _ _ (fun x z => by
    cases x <;> first | exact ⟨z.1, hp _ z.2⟩ | exact z.elim) q)
  (fun E hm hf k => a.go E (by omega) hf fun dx v H1 p st bx vd => by
    cases dx <;> first | exact p.elim | skip
    obtain ⟨p1, vs, rfl, e1, g⟩ := vd.vw.tuple
    exact ⟨p1, vs, rfl, e1, fun z => (by subst z; cases g; exact p.1.1 rfl), by rw [g.len]; exact p.1.2, fun q nq => k _ _ _ p.2 (st.trans (Stp.ex (Evl.Ex.new nq))) (bx.ex (Evl.Ex.new nq)) (new_tup (E.step st bx).al nq g.rev)⟩)
abbrev listOfD : PyData → (List PyData → Prop) → Prop
  | .list ds, Q => Q ds
  | .tuple ds, Q => Q ds
  | _, _ => False
theorem sndl_listOf (a : Snd md K ta ca fa) : SndL K (tCB (fun xs H Q => ∃ p ys, xs = [.ref p] ∧ (SqL K H p ys ∨ SqT K H p ys) ∧ ∀ l, H l = none → Q (.ref l) (upd H l (.lst ys))) (tCons ta tNil)) ca (fun ρ Q => fa ρ fun d => listOfD d Q) := ⟨
  fun ρ P P' h q => a.mono _ _ _ (fun x z => by cases x <;> first | exact h _ z | exact z.elim) q,
  fun E hm hf k => a.go E hm hf fun dx v H1 p st bx vd => by
    cases dx <;> first | exact p.elim | skip
    · obtain ⟨p1, vs, rfl, e, g⟩ := vd.vw.list
      exact ⟨p1, vs, rfl, .inl (.inl (.inl e)), fun l nl => k _ _ _ _ p (back st bx nl) (st.trans (Stp.ex (Evl.Ex.new nl))) (bx.ex (Evl.Ex.new nl)) upd_same (g.fresh nl)⟩
    · obtain ⟨p1, vs, rfl, e, g⟩ := vd.vw.tuple
      exact ⟨p1, vs, rfl, .inr e, fun l nl => k _ _ _ _ p (back st bx nl) (st.trans (Stp.ex (Evl.Ex.new nl))) (bx.ex (Evl.Ex.new nl)) upd_same (g.fresh nl)⟩⟩
/-- len(script) -/
abbrev eLenS (i : Nat) : FE := fun ρ Q => match ρ[i]? with
  | some (.scr ns) => Q (.int ns.length)
  | _ => False
theorem snd_lenS {i : Nat} : Snd true K (tCB (fun xs H Q => ∃ x n, xs = [x] ∧ LenV K x H n ∧ Q (.int n) H) (tCons (tVar i) tNil)) 0 (eLenS i) := mk_snd
  (fun ρ P P' h q => by
    unfold eLenS at q ⊢
    split at q
    · exact h _ q
    · exact q.elim)
  (fun {b S m σ H ρ Q P} E hm hf k => by
    unfold eLenS at hf
    split at hf
    · rename_i ns e
      obtain ⟨p, e1, e2⟩ := E.sl i _ e
      refine ⟨_, e1, _, (ns.map V.int).length, rfl, .inl ⟨_, Evl.ex_l rm_le e2, rfl⟩, ?_⟩
      rw [List.length_map]
      exact k _ _ _ hf Stp.refl E.bx (.int _)
    · exact hf.elim)
/-! isinstance -/
inductive Ty5 where
  | int | bool | str | list | tuple
def Ty5.nm : Ty5 → String
  | .int => "int" | .bool => "bool" | .str => "str" | .list => "list" | .tuple => "tuple"
abbrev isD : Ty5 → PyData → Bool
  | .int, .int _ => true
  | .int, .bool _ => true
  | .bool, .bool _ => true
  | .str, .str _ => true
  | .list, .list _ => true
  | .tuple, .tuple _ => true
  | _, _ => false
def tyN : PyData → String
  | .none => "NoneType" | .bool _ => "bool" | .int _ => "int" | .str _ => "str" | .list _ => "list" | .tuple _ => "tuple" | .dict _ => "dict"
end
end Dv
namespace Dv
open PySem PySem.Spec PyProof.Rows L2 Xg
open Classical
/-! isinstance(x, T) -/
section
variable {K : PySem.W.Frag} {md : Bool} {ta : TE} {ca : Nat} {fa : FE}
theorem kit_is (t : Ty5) (d : PyData) : kitB (tyN d) t.nm = some (isD t d) := by
  cases t <;> cases d <;> (dsimp only [tyN, Ty5.nm, isD]; decide +kernel)
theorem ty_of {H : Hp} {v : V} {d : PyData} : Dp K H v d → TyX K H v (.type (tyN d))
  | .non => .base .non
  | .bl b => .base (.bl b)
  | .int i => .base (.int i)
  | .str x => .base (.str x)
  | .lst h _ => by
    rcases h with (h | ⟨o, h⟩) | ⟨o, its, n, h1, h2, _⟩
    · exact .base (.lst h)
    · exact .base (.frz h)
    · exact .kList h1 h2
  | .tup h _ => by
    rcases h with (h | ⟨o, h⟩) | ⟨o, its, n, h1, h2, _⟩
    · exact .base (.tup h)
    · exact .fTuple h
    · exact .kTuple h1 h2
abbrev eIsi (t : Ty5) (fa : FE) : FE := fun ρ Q => fa ρ fun d => Q (.bool (isD t d))
theorem snd_isi {t : Ty5} (a : Snd md K ta ca fa) : Snd true K (tCB (rIsi K) (tCons ta (tCons (tC (.ty t.nm)) tNil))) ca (eIsi t fa) := mk_snd
  (fun ρ P P' h q => a.mono _ _ _ (fun d => h _) q)
  (fun E hm hf k => a.go E hm hf fun d v H' p st bx vd => ⟨v, _, _, _, isD t d, rfl, .ty _, ty_of vd.vw.dp, kit_ty (kit_is t d), k _ _ _ p st bx (.bl _)⟩)
/-! repr(x) -/
def rReprV (K : PySem.W.Frag) : List V → Hp → VK → Prop := fun xs H Q => ∃ (v : V) (d : PyData), xs = [v] ∧ Dp K H v d ∧ d.showable = true ∧ d.hasDict = false ∧ d.depth ≤ 60 ∧ d.shown.length ≤ sizeLine ∧ (∃ a, v = .ref a) ∧ Q (.str d.shown) H
theorem call_reprV {X : Cx} (hG : X.A.guards = some []) (hu : X.A.units + 64 < cLine) : CallR X (.builtin "repr") (rReprV X.K) := by
  intro pins s σ H xs us Q I r h
  obtain ⟨v, d, rfl, hd, h1, h2, h3, h4, ⟨a, rfl⟩, q⟩ := h
  exact call_reprD hG hu pins s σ H _ us Q I r ⟨a, d, rfl, hd, h1, h2, h3, h4, q⟩
abbrev reprD (d : PyData) (Q : PyData → Prop) : Prop := flat d = false ∧ (d.showable = true ∧ d.hasDict = false ∧ d.depth ≤ 60 ∧ d.shown.length ≤ sizeLine) ∧ Q (.str d.shown)
theorem cs_repr : CallSnd K (rReprV K) (g1 reprD) := call1 (fun x P P' h q => ⟨q.1, q.2.1, h _ q.2.2⟩)
  (fun {b S H v d Q P} al h q k => by
    have hp := h.dp
    refine ⟨v, d, rfl, hp, q.2.1.1, q.2.1.2.1, q.2.1.2.2.1, q.2.1.2.2.2, ?_, k _ _ _ q.2.2 (Evl.Ex.refl _) (.str _)⟩
    cases hp <;> first | exact ⟨_, rfl⟩ | exact absurd q.1 (by simp [flat]))
end
/-! defs -/
abbrev pad (n : Nat) (as : List Sl) : List Sl := as ++ List.replicate (n - as.length) .no
abbrev mkF (np n : Nat) (f : FS) : FF := fun as Q => as.length = np ∧ f (pad n as) { nx := fun _ => Q .none, rt := Q, rl := fun ds => Q (.list ds) }
abbrev mkL (np n : Nat) (f : FS) : FFL := fun as Q => as.length = np ∧ f (pad n as) { nx := fun _ => False, rt := fun _ => False, rl := Q }
section
variable {P : Program} {w : World} {K : PySem.W.Frag} {mg : Str → Option Value} {base : Heap}
theorem mkF_mono {t : TS} {c np n : Nat} {f : FS} (h : SndS K t c f) : MonoF (mkF np n f) := fun as P P' hp q => ⟨q.1, h.mono _ { nx := fun _ => P .none, rt := P, rl := fun ds => P (.list ds) } { nx := fun _ => P' .none, rt := P', rl := fun ds => P' (.list ds) } ⟨fun _ => hp _, hp, fun ds => hp _, fun _ h => h, fun _ h => h⟩ q.2⟩
theorem mkL_mono {t : TS} {c np n : Nat} {f : FS} (h : SndS K t c f) : MonoL (mkL np n f) := fun as P P' hp q => ⟨q.1, h.mono _ { nx := fun _ => False, rt := fun _ => False, rl := P } { nx := fun _ => False, rt := fun _ => False, rl := P' } ⟨fun _ h => h, fun _ h => h, hp, fun _ h => h, fun _ h => h⟩ q.2⟩
theorem ArgL.len {b : Option Addr} {S : Addr → Prop} {H : Hp} : ∀ {vs : List V} {as : List Sl}, ArgL K b S H vs as → vs.length = as.length
  | _, _, .nil => rfl
  | _, _, .cons _ g => by rw [List.length_cons, List.length_cons, ArgL.len g]
theorem ArgL.at_ {b : Option Addr} {S : Addr → Prop} {H : Hp} : ∀ {vs : List V} {as : List Sl} {i : Nat} {s : Sl}, ArgL K b S H vs as → as[i]? = some s → ∃ v, vs[i]? = some v ∧ ArgR K b S H v s
  | _, _, _, _, .nil, e => by simp at e
  | _, _, 0, _, .cons h g, e => by
    simp at e
    subst e
    exact ⟨_, rfl, h⟩
  | _, _, i + 1, _, .cons h g, e => ArgL.at_ (i := i) g (by simpa using e)
theorem pad_at {n i : Nat} {as : List Sl} {s : Sl} (h : (pad n as)[i]? = some s) : (i < as.length ∧ as[i]? = some s) ∨ s = .no := by
  unfold pad at h
  by_cases l : i < as.length
  · rw [List.getElem?_append_left l] at h
    exact .inl ⟨l, h⟩
  · rw [List.getElem?_append_right (by omega), List.getElem?_replicate] at h
    split at h
    · cases h
      exact .inr rfl
    · cases h
theorem start_at {N : List Str} {vs : List V} {i : Nat} (l : i < vs.length) : (L2.start N vs)[i]? = some (vs[i]?) := by
  unfold L2.start
  rw [List.getElem?_append_left (by rw [List.length_map]; exact l), List.getElem?_map, List.getElem?_eq_getElem l]
  rfl
theorem ok_start {b : Option Addr} {S : Addr → Prop} {m : Nat} {H : Hp} {N : List Str} {vs : List V} {as : List Sl} (hA : ArgL K b S H vs as) (bx : BxO b H m) (bs : ∀ p, b = some p → S p) (al : Al S H) :
    Ok K S H b b (fun _ => none) m H (L2.start N vs) (pad N.length as) := by
  have sub : ∀ a, SO S b (fun _ => none) a → S a := fun a h => by
    rcases h with h | h | ⟨i, h⟩
    · exact h
    · exact bs a h
    · cases h
  refine ⟨⟨?_, fun i s e => ?_, bx, fun p e => .inr (.inl e), fun a h => al a (sub a h)⟩, fun i j a h => (by cases h), fun i a h => (by cases h), Stp.refl, .inl rfl, bx, fun i a h => (by cases h), fun i ds e => ?_, al, bs⟩
  · unfold L2.start pad
    rw [List.length_append, List.length_append, List.length_map, List.length_replicate, List.length_replicate, hA.len]
  · rcases pad_at e with ⟨l, e⟩ | rfl
    · obtain ⟨v, e1, e2⟩ := hA.at_ e
      rw [start_at (by rw [hA.len]; exact l), e1]
      cases s with
      | no => trivial
      | dt d => exact ⟨v, rfl, Da.mono (rm_sub sub) e2⟩
      | own _ => exact e2.elim
      | box => exact let ⟨p, r1, r2⟩ := e2; ⟨p, by rw [r1], r2⟩
      | scr ns => exact let ⟨p, r1, r2⟩ := e2; ⟨p, by rw [r1], Evl.ex_l (rm_sub sub) r2⟩
    · trivial
  · rcases pad_at e with ⟨l, e⟩ | z
    · obtain ⟨v, e1, e2⟩ := hA.at_ e
      exact e2.elim
    · cases z
theorem okD {x qual : Str} {st : Stmt} {f : Addr} {fd : FuncData} {N ps : List Str} {k c : Nat} {t : TS} {g : FS} (F : Fun K x qual st f fd) (S : FnScope N ps (defScope st)) (sn : SndS K t c g)
    (hbody : ∀ (cdv : Value) (A : Around) (outer : List Env) (s : Shared) (H : Hp), (A.deeper (envOfC qual (defScope st) s.heap.objs.size f cdv)).guards = some [] → Room k (A.deeper (envOfC qual (defScope st) s.heap.objs.size f cdv)) →
      PSs (cxOf CX0 P w K mg base N qual (defScope st) f cdv A outer s H E0).nox (defBody st) t) : FnG P w K mg base (k + 1) f fd ps (spD K c (mkF ps.length N.length g)) := by
  refine okG F S (fun vs H Q h => ?_) fun cdv A outer s H vs Q hG hr h => ⟨t, hbody cdv A outer s H hG hr, ?_⟩
  · obtain ⟨b, S, m, as, hA, _, _, _, _, l, _⟩ := h
    rw [hA.len, l]
  · obtain ⟨b, S, m, as, hA, bx, bs, al, hm, l, hf⟩ := h
    refine sn.go (ok_start (N := N) hA bx bs al) hm hf ⟨fun b' os σ' H' ρ' q o _ => q _ _ o.old o.obx .non, fun d v H' q o hd => q _ _ o.old o.obx hd, fun ds vs p H' q o n e g => q _ _ o.old o.obx (.lst ?_ (g.mono (rm_sub fun a z => .inl z))), fun _ _ _ _ _ q => q.elim, fun _ _ _ _ _ q => q.elim⟩
    rw [rm_out (al.new n)]
    exact e
theorem okL {x qual : Str} {st : Stmt} {f : Addr} {fd : FuncData} {N ps : List Str} {k c : Nat} {t : TS} {g : FS} (F : Fun K x qual st f fd) (S : FnScope N ps (defScope st)) (sn : SndS K t c g)
    (hbody : ∀ (cdv : Value) (A : Around) (outer : List Env) (s : Shared) (H : Hp), (A.deeper (envOfC qual (defScope st) s.heap.objs.size f cdv)).guards = some [] → Room k (A.deeper (envOfC qual (defScope st) s.heap.objs.size f cdv)) →
      PSs (cxOf CX0 P w K mg base N qual (defScope st) f cdv A outer s H E0).nox (defBody st) t) : FnG P w K mg base (k + 1) f fd ps (spL K c (mkL ps.length N.length g)) := by
  refine okG F S (fun vs H Q h => ?_) fun cdv A outer s H vs Q hG hr h => ⟨t, hbody cdv A outer s H hG hr, ?_⟩
  · obtain ⟨b, S, m, as, hA, _, _, _, _, l, _⟩ := h
    rw [hA.len, l]
  · obtain ⟨b, S, m, as, hA, bx, bs, al, hm, l, hf⟩ := h
    exact sn.go (ok_start (N := N) hA bx bs al) hm hf ⟨fun _ _ _ _ _ q => q.elim, fun _ _ _ q => q.elim, fun ds vs p H' q o n e g => q _ _ _ n o.old o.obx e g, fun _ _ _ _ _ q => q.elim, fun _ _ _ _ _ q => q.elim⟩
/-- a def with its address, its promise and how it binds -/
structure Df (P : Program) (w : World) (K : PySem.W.Frag) (mg : Str → Option Value) (base : Heap) (x : Str) (ps : List Str) (k : Nat) (sp : Sp) : Prop where
  ex : ∃ (f : Addr) (fd : FuncData), FnG P w K mg base k f fd ps sp ∧ mg x = some (.ref f) ∧ PySem.W.keepIn K (.ref f) = true ∧ L2.Binds K fd ps []
theorem pe_df {X : Cx} {x : Str} {ps : List Str} {k : Nat} {sp : Sp} {p pos : Pos} {e : Expr} {es : List Expr} {t : TA} (D : Df X.prog X.w X.K X.mg X.base x ps k sp) (hG : X.A.guards = some []) (hr : Room k X.A) (hg : Gl X x) (ha : PA X (e :: es) t)
    (hdb : (x == ("__debug__" : Str)) = false := by decide) (he : starEach (e :: es) X.env = (false, eval e X.env) :: starEach es X.env := by rfl) (hpl : (backTo pos (starEach es X.env)).any (·.1) = false := by rfl) :
    PE X (.Call (.Name x p) (e :: es) [] pos) (tCallG sp t) := by
  obtain ⟨f, fd, G, gm, kp, b⟩ := D.ex
  exact pe_callG G hG hr hg gm kp b ha hdb he hpl
theorem pe_con {X : Cx} {x : Str} {v : V} {pos : Pos} (hg : Gl X x) (h : ∃ u, X.mg x = some u ∧ L2.RelV v u) (hd : (x == ("__debug__" : Str)) = false := by decide) : PE X (.Name x pos) (tC v) := let ⟨_, g1, g2⟩ := h; pe_glob hg g1 g2 hd
theorem toG {f : Addr} {fd : FuncData} {ps : List Str} {k : Nat} {sp : Sp} (F : FnOk P w K mg base CX0 k f fd ps sp) : FnG P w K mg base k f fd ps sp :=
  ⟨fun vs H Q h => F.len _ _ _ _ h, fun A outer s H args us vs Q _ hr ev hb r h => F.run A outer s H args us vs Q E0 hr ev hb r h⟩
theorem impG {f : Addr} {fd : FuncData} {ps : List Str} {k : Nat} {sp sp' : Sp} (F : FnG P w K mg base k f fd ps sp) (h : ∀ vs H Q, sp' vs H Q E0 → sp vs H Q E0) : FnG P w K mg base k f fd ps sp' :=
  ⟨fun vs H Q q => F.len _ _ _ (h _ _ _ q), fun A outer s H args us vs Q hG hr ev hb r q => F.run A outer s H args us vs Q hG hr ev hb r (h _ _ _ q)⟩
end
/-! the box -/
def F_take : FF := fun as Q => match as with
  | [.box, .dt (.int n)] => (0 < n ∧ n < 1073741824) ∧ ∀ r, 0 ≤ r → r < n → Q (.int r)
  | _ => False
theorem m_take : MonoF F_take := fun as P P' h q => by
  unfold F_take at q ⊢
  split at q
  · exact ⟨q.1, fun r a b => h _ (q.2 r a b)⟩
  · exact q.elim
/-- x = box(script, k) -/
def spBx (K : PySem.W.Frag) : Sp := fun vs H Q _ => ∃ (a : Addr) (ns : List Int) (k : Nat), vs = [.ref a, .int k] ∧ SqL K H a (ns.map V.int) ∧ k ≤ 1000 ∧
  ∀ p x y, H p = none → 0 ≤ x → 0 ≤ y → y < 1000000000000 → Q (.ref p) (upd H p (.lst [.int x, .int y, .int 0]))
abbrev noBox : Sl → Sl
  | .box => .no
  | s => s
abbrev sBox (i : Nat) (fr : FA) : FS := fun ρ E => fr ρ fun as => match as with
  | [.scr _, .dt (.int k)] => (0 ≤ k ∧ k ≤ 1000) ∧ E.nx ((ρ.map noBox).set i .box)
  | _ => False
theorem snds_box {K : PySem.W.Frag} {i : Nat} {tr : TA} {fr : FA} {cr : Nat} (r : SndA K tr cr fr) : SndS K (tAsg (tCallG (spBx K) tr) (gName i)) cr (sBox i fr) :=
  ⟨fun ρ E E' h q => r.mono _ _ _ (fun as z => by
    split at z
    · exact ⟨z.1, h.nx _ z.2⟩
    · exact z.elim) q,
  fun {G H0 b0 b os m H σ ρ D E} ok hm hf kk => r.go ok.env hm hf fun as vs H1 h1 st bx hA => by
    split at h1
    · rename_i ns k
      obtain ⟨⟨k0, k1⟩, h1⟩ := h1
      cases hA with
      | cons a1 a2 =>
      cases a2 with
      | cons a2 a3 =>
      cases a3
      obtain ⟨p, rfl, hs⟩ := a1
      cases a2
      have ok1 := ok.step st bx (by omega)
      refine ⟨p, ns, k.toNat, ?_, Evl.ex_l rm_le hs, by omega, fun q x y nq x0 y0 y1 => ?_⟩
      · rw [Int.toNat_of_nonneg k0]
      have ex := Evl.Ex.new (o := .lst [.int x, .int y, .int 0]) nq
      have nS : ¬ SO G b os q := ok1.env.al.new nq
      have n0 : H0 q = none := back ok1.old ok1.obx nq
      have sub : ∀ a, SO G (some q) os a → SO G b os a ∨ a = q := fun a h => by
        rcases h with h | h | h
        · exact .inl (.inl h)
        · cases h
          exact .inr rfl
        · exact .inl (.inr (.inr h))
      have lk : Lk (SO G b os) H1 (SO G (some q) os) (upd H1 q (.lst [.int x, .int y, .int 0])) := fun a o n h => ⟨ex a o h, fun z => (sub a z).elim n fun w => by rw [w, nq] at h; cases h⟩
      have exr : Evl.Ex (rm H1 (SO G b os)) (rm (upd H1 q (.lst [.int x, .int y, .int 0])) (SO G (some q) os)) := fun a o h => by
        obtain ⟨n1, h1⟩ := rm_some h
        obtain ⟨g1, g2⟩ := lk a o n1 h1
        rw [rm_out g2]
        exact g1
      refine kk.nx (some q) os _ _ _ h1 ⟨⟨?_, fun j s h => ?_, ⟨x, y, 0, x0, y0, y1, by omega, by omega, upd_same⟩, fun p' e => .inr (.inl e), fun a h => ?_⟩, ok.inj, ok.new, ok1.old.trans (Stp.ex ex), .inr fun p' e => by cases e; exact n0, ok1.obx.ex ex, fun j a h e => ?_, fun j ds h => ?_, ok.al0, ok.bG⟩ ((Lk.step st ok.env.bs).trans lk)
      · rw [List.length_set, List.length_set, List.length_map]
        exact ok.env.len
      · rw [List.getElem?_set] at h ⊢
        by_cases z : i = j
        · rw [if_pos z] at h ⊢
          rw [List.length_map] at h
          rw [ok.env.len]
          split at h
          · rename_i l
            cases h
            rw [if_pos l]
            exact ⟨q, rfl, rfl⟩
          · cases h
        · rw [if_neg z] at h ⊢
          rw [List.getElem?_map] at h
          cases e0 : ρ[j]? with
          | none => rw [e0] at h; cases h
          | some s0 =>
          rw [e0] at h
          have h : noBox s0 = s := Option.some.inj h
          have w := ok1.env.sl j s0 e0
          cases s0 with
          | box => subst h; trivial
          | no => subst h; trivial
          | dt d => subst h; exact let ⟨v, e1, g⟩ := w; ⟨v, e1, g.mono exr⟩
          | own es =>
            subst h
            obtain ⟨p1, ws, e1, s1, n1, g1, k1⟩ := w
            obtain ⟨p2, q1, q2⟩ := ok.slo j _ e0
            rw [e1] at q2
            cases q2
            exact ⟨p1, ws, e1, .inr (.inr ⟨j, q1⟩), fun z => nS (by cases z; exact s1), ex _ _ g1, k1.mono exr⟩
          | scr ns => subst h; exact let ⟨v, e1, g⟩ := w; ⟨v, e1, Evl.ex_l exr g⟩
      · rcases sub a h with h | rfl
        · exact ok1.env.al.ex ex a h
        · rw [upd_same]
          simp
      · cases e
        exact nS (.inr (.inr ⟨j, h⟩))
      · rw [List.getElem?_set] at h ⊢
        by_cases z : i = j
        · rw [if_pos z] at h
          split at h <;> cases h
        · rw [if_neg z] at h ⊢
          rw [List.getElem?_map] at h
          cases e0 : ρ[j]? with
          | none => rw [e0] at h; cases h
          | some s0 =>
          rw [e0] at h
          have h : noBox s0 = .own ds := Option.some.inj h
          cases s0 with
          | own es => exact ok.slo j _ e0
          | _ => cases h
    · exact h1.elim⟩
end Dv
namespace Dv
open PySem PySem.Spec PyProof.Rows L2 Xg
open Classical
section
variable {K : PySem.W.Frag} {ta tb : TE} {ca cb : Nat} {fa fb : FE}
theorem gs_some0 : ∀ ds (ρ : List Sl) (P : List Sl → Prop), gsNil ds ρ P → ∃ ρ', P ρ' := fun ds ρ P h => by
  cases ds with
  | nil => exact ⟨_, h⟩
  | cons => exact h.elim
theorem gs_someS {f : FG} {g : FGs} (mf : ∀ d (ρ : List Sl) (P : List Sl → Prop), f d ρ P → ∃ ρ', P ρ') (h : ∀ ds (ρ : List Sl) (P : List Sl → Prop), g ds ρ P → ∃ ρ', P ρ') : ∀ ds (ρ : List Sl) (P : List Sl → Prop), gsCons f g ds ρ P → ∃ ρ', P ρ' := fun ds ρ P e => by
  cases ds with
  | nil => exact e.elim
  | cons d r =>
    obtain ⟨ρ', z⟩ := mf _ _ _ e
    exact h _ _ _ z
theorem gN_some {i : Nat} : ∀ d (ρ : List Sl) (P : List Sl → Prop), gN i d ρ P → ∃ ρ', P ρ' := fun d ρ P h => ⟨_, h⟩
theorem gT_some {g : FGs} (h : ∀ ds (ρ : List Sl) (P : List Sl → Prop), g ds ρ P → ∃ ρ', P ρ') : ∀ d (ρ : List Sl) (P : List Sl → Prop), gT g d ρ P → ∃ ρ', P ρ' := fun d ρ P e => by
  cases d <;> first | exact h _ _ _ e | exact e.elim
/-! a, b = e1, e2 -/
abbrev sPar (i j : Nat) (fa fb : FE) : FS := fun ρ E => fa ρ fun x => fb ρ fun y => E.nx ((ρ.set i (.dt x)).set j (.dt y))
theorem snds_par {i j : Nat} (a : Snd true K ta ca fa) (r : Snd true K tb cb fb) : SndS K (tPar i j (tCons ta (tCons tb tNil))) (ca + cb) (sPar i j fa fb) :=
  ⟨fun ρ E E' h q => a.mono _ _ _ (fun x => r.mono _ _ _ fun y => h.nx _) q, fun ok hm hf k => a.go ok.env (by omega) hf fun dx v H1 p st bx vd => by
    have ok1 := ok.step st bx (by omega)
    refine r.go ok1.env (by omega) p fun dy w H2 p2 st2 bx2 vd2 => ⟨v, w, rfl, ?_⟩
    have ok2 := ok1.step st2 bx2 (by omega)
    have k1 := ok2.kpt (ok2.env.set (i := i) (s := .dt dx) fun z e => ⟨_, e, Da.mono (st2.rm ok.env.bs) vd⟩) (kpt_set (vs := [i]) (by simp))
    have k2 := k1.kpt (k1.env.set (i := j) (s := .dt dy) fun z e => ⟨_, e, vd2⟩) (kpt_set (vs := [j]) (by simp))
    exact k.nx _ _ _ _ _ p2 (k2.le (by omega)) ((Lk.step st ok.env.bs).trans (Lk.step st2 ok.env.bs))⟩
/-- the first of both a new list -/
abbrev sParO (i j : Nat) (fa : FD) (fb : FE) : FS := fun ρ E => fa ρ fun x => fb ρ fun y => E.nx ((ρ.set i (.own x)).set j (.dt y))
theorem snds_parO {i j : Nat} {fl : FD} (a : SndL K ta ca fl) (r : Snd true K tb cb fb) : SndS K (tPar i j (tCons ta (tCons tb tNil))) (ca + cb) (sParO i j fl fb) :=
  ⟨fun ρ E E' h q => a.mono _ _ _ (fun x => r.mono _ _ _ fun y => h.nx _) q, fun {G H0 b0 b os m H σ ρ D E} ok hm hf k => a.go ok.env (by omega) hf fun dx xs p H1 h1 np st bx e g => by
    have ok1 := ok.step st bx (by omega)
    have bp : b ≠ some p := fun z => ok.env.al.new np (.inr (.inl z))
    have E1 := ok.env.hold np st bx (by rw [e]; simp)
    refine r.go E1 (by omega) h1 fun dy w H2 p2 st2 bx2 vd2 => ⟨.ref p, w, rfl, ?_⟩
    obtain ⟨o2, l2⟩ := ok.own (i := i) (n := m + ca + cb) np (st.trans st2) bx2 (by omega) (st2 _ _ bp e) (g.mono (st2.rm E1.bs))
    have sub : ∀ a, SO G b (osSet os i p) a → SO G b os a ∨ a = p := fun a h => by
      rcases h with h | h | ⟨j, h⟩
      · exact .inl (.inl h)
      · exact .inl (.inr (.inl h))
      · rcases os_at h with ⟨_, rfl⟩ | ⟨_, h⟩
        · exact .inr rfl
        · exact .inl (.inr (.inr ⟨j, h⟩))
    have k2 := o2.kpt (o2.env.set (i := j) (s := .dt dy) fun z e => ⟨_, e, Da.mono (rm_sub sub) vd2⟩) (kpt_set (vs := [j]) (by simp))
    exact k.nx _ _ _ _ _ p2 (k2.le (by omega)) l2⟩
abbrev eL (f : FD) : FE := fun ρ Q => f ρ fun ds => Q (.list ds)
abbrev eCallL (F : FFL) (fr : FA) : FD := fun ρ Q => fr ρ fun as => F as Q
abbrev fListOf (fa : FE) : FD := fun ρ Q => fa ρ fun d => listOfD d Q
abbrev minD : List PyData → (PyData → Prop) → Prop := g1 fun d Q => intsQ (fun ns => 0 < ns.length ∧ ∀ m, m ∈ ns → (∀ y, y ∈ ns → m ≤ y) → Q (.int m)) d
abbrev maxD : List PyData → (PyData → Prop) → Prop := g1 fun d Q => intsQ (fun ns => 0 < ns.length ∧ ∀ m, m ∈ ns → (∀ y, y ∈ ns → y ≤ m) → Q (.int m)) d
abbrev sumD : List PyData → (PyData → Prop) → Prop := g1 fun d Q => intsQ (fun ns => Q (.int ns.sum)) d
abbrev allD : List PyData → (PyData → Prop) → Prop := g1 fun d Q => boolsQ (fun ns => Q (.bool (ns.all id))) d
abbrev anyD : List PyData → (PyData → Prop) → Prop := g1 fun d Q => boolsQ (fun ns => Q (.bool (ns.any id))) d
/-- data of at most so many lists, one in another -/
def shal : Nat → PyData → Bool
  | _, .none => true
  | _, .bool _ => true
  | _, .int _ => true
  | _, .str _ => true
  | 0, .list _ => false
  | 0, .tuple _ => false
  | n + 1, .list ds => decide (ds.length ≤ 1000) && ds.all (shal n)
  | n + 1, .tuple ds => decide (ds.length ≤ 1000) && ds.all (shal n)
  | _, .dict _ => false
def F_same : FF := fun as Q => match as with
  | [.dt x, .dt y] => (x = y ∧ shal 5 x = true) ∧ Q (.bool true)
  | _ => False
theorem m_same : MonoF F_same := fun as P P' h q => by
  unfold F_same at q ⊢
  split at q
  · exact ⟨q.1, h _ q.2⟩
  · exact q.elim
end
end Dv
/-! the draws of the later laws: below greater numbers -/
namespace Ke
open PySem PySem.Spec PyProof.Rows L2 Xg Dv
def F_take : FF := fun as Q => match as with
  | [.box, .dt (.int n)] => (0 < n ∧ n < 4611686018427387904) ∧ ∀ r, 0 ≤ r → r < n → Q (.int r)
  | _ => False
theorem m_take : MonoF F_take := fun as P P' h q => by
  unfold F_take at q ⊢
  split at q
  · exact ⟨q.1, fun r a b => h _ (q.2 r a b)⟩
  · exact q.elim
theorem log_n {n : Int} (h0 : 0 < n) (h : n < 4611686018427387904) : n.natAbs.log2 < 9000 := by
  have h1 : n.natAbs < 2 ^ 62 := by omega
  have := (Nat.log2_lt (by omega : n.natAbs ≠ 0)).mpr h1
  omega
end Ke
namespace Kd
open PySem PySem.Spec PyProof.Rows L2 Xg
open Dv (shal)
def topS (i : Nat) : Stmt := PySem.Challenge.pw_forthback_k31_whole_far_in_pieces.main.body.getD i (.Pass ⟨0, 0, 0, 0⟩)
abbrev stBox : Stmt := topS 29
abbrev stTake : Stmt := topS 30
theorem scB : FnScope ["_law_script", "_law_k", "_law_cell"] ["_law_script", "_law_k"] (defScope stBox) := ⟨rfl, rfl, rfl, by decide +kernel, rfl, by decide +kernel, by decide +kernel⟩
theorem scT : FnScope ["_law_box_here", "_law_below", "_law_found", "_law_once"] ["_law_box_here", "_law_below"] (defScope stTake) := ⟨rfl, rfl, rfl, by decide +kernel, rfl, by decide +kernel, by decide +kernel⟩
theorem inRange {i n : Int} (h : 0 < n) : 0 ≤ i % n ∧ i % n < n := ⟨Int.emod_nonneg i (by omega), Int.emod_lt_of_pos i h⟩
theorem pos1 : (0 : Int) < 2147483647 := by decide
theorem pos2 : (0 : Int) < 30011 := by decide
theorem pos3 : (0 : Int) < 2147483629 := by decide
section
variable {P : Program} {w : World} {K : PySem.W.Frag} {mg : Str → Option Value} {base : Heap}
/-- the next draw below n: some number there; the box's first falls, its third counts -/
def spTake : Sp := fun vs H Q _ => ∃ (b : Addr) (x y z n : Int), vs = [.ref b, .int n] ∧ H b = some (.lst [.int x, .int y, .int z]) ∧
  0 ≤ x ∧ 0 ≤ y ∧ y < 1000000000000 ∧ 0 ≤ z ∧ z < 1000000000 ∧ 0 < n ∧ n < 4611686018427387904 ∧
  ∀ r x' z', 0 ≤ r → r < n → 0 ≤ x' → z ≤ z' → z' ≤ z + 1 → Q (.int r) (upd H b (.lst [.int x', .int y, .int z']))
theorem ok_take {f : Addr} {fd : FuncData} {k : Nat} (F : Fun K "_law_take" "_law_take" stTake f fd) :
    FnOk P w K mg base CX0 (k + 1) f fd ["_law_box_here", "_law_below"] spTake := by
  refine F.ok scT (fun vs H Q E h => ?_) (fun cdv A outer s H vs Q E hr h => ?_)
  · obtain ⟨b, x, y, z, n, rfl, _⟩ := h
    rfl
  · obtain ⟨b, x, y, z, n, rfl, hb, hx, hy, hy2, hz, hz2, hn, hn2, q⟩ := h
    refine ⟨_, pss_cons (ps_if (pt_cmpR op_gt (pe_ix ix_list (pv 0) pe_int (fun _ _ => rfl)) pe_int (nomark _))
        (pss_cons (ps_set (i := 2) scT.nd rfl (.inl rfl) (pe_op op_mod (pe_ix ix_list (pv 0) pe_int (fun _ _ => rfl)) (pv 1)))
        (pss_cons (ps_asg (pe_op op_fdivW (pe_ix ix_list (pv 0) pe_int (fun _ _ => rfl)) (pv 1)) (pg_sub (pv 0) pe_int set_list))
        (pss_one (ps_ret (pv 2))))) pss_nil)
      (pss_cons (ps_asg (pe_op op_add (pe_ix ix_list (pv 0) pe_int (fun _ _ => rfl)) pe_int) (pg_sub (pv 0) pe_int set_list))
      (pss_cons (ps_set (i := 3) scT.nd rfl (.inl rfl) (pe_op op_mod (pe_op op_pow (pe_op op_add (pe_ix ix_list (pv 0) pe_int (fun _ _ => rfl)) (pe_op op_mul pe_int (pe_ix ix_list (pv 0) pe_int (fun _ _ => rfl)))) pe_int) pe_int))
      (pss_one (ps_ret (pe_op op_mod (pe_op op_fdivW (pe_op op_mod (pe_op op_add (pe_op op_mul (pv 3) (pe_op op_add (pe_op op_mod (pv 3) pe_int) pe_int)) (pe_op op_mul (pe_ix ix_list (pv 0) pe_int (fun _ _ => rfl)) pe_int)) pe_int) pe_int) (pv 1)))))), ?_⟩
    have s0 : SqL K H b [.int x, .int y, .int z] := .inl (.inl hb)
    refine ⟨_, rfl, b, _, 0, _, rfl, rfl, s0, atI_nat (j := 0) rfl, x, 0, rfl, rfl, _, rfl, ite2 (fun e => ?_) (fun e => ?_)⟩
    · refine ⟨_, rfl, b, _, 0, _, rfl, rfl, s0, atI_nat (j := 0) rfl, _, rfl, x, n, rfl, rfl, hn, ?_⟩
      refine ⟨_, rfl, b, _, 0, _, rfl, rfl, s0, atI_nat (j := 0) rfl, _, rfl, x, n, rfl, rfl, ⟨hn, Ke.log_n hn hn2⟩, ?_⟩
      refine ⟨_, rfl, b, _, 0, 0, rfl, rfl, hb, rfl, ?_⟩
      refine ⟨_, rfl, ?_⟩
      have g := inRange (i := x) hn
      exact q _ _ _ g.1 g.2 (Int.ediv_nonneg hx (by omega)) (Int.le_refl _) (by omega)
    · refine ⟨_, rfl, b, _, 2, _, rfl, rfl, s0, atI_nat (j := 2) rfl, z, 1, rfl, rfl, ?_⟩
      refine ⟨_, rfl, b, _, 2, 2, rfl, rfl, hb, rfl, ?_⟩
      have s1 : SqL K (upd H b (.lst [.int x, .int y, .int (z + 1)])) b [.int x, .int y, .int (z + 1)] := .inl (.inl upd_same)
      refine ⟨_, rfl, b, _, 1, _, rfl, rfl, s1, atI_nat (j := 1) rfl, _, rfl, b, _, 2, _, rfl, rfl, s1, atI_nat (j := 2) rfl, 48271, z + 1, rfl, rfl, .inl ⟨by decide, by decide⟩,
        y, 48271 * (z + 1), rfl, rfl, _, 5, rfl, rfl, ⟨by decide, by decide, ?_⟩, _, 2147483647, rfl, rfl, pos1, ?_⟩
      · omega
      · have g := inRange (i := (y + 48271 * (z + 1)) ^ (5 : Int).toNat) (n := 2147483647) (by decide)
        have g2 := inRange (i := (y + 48271 * (z + 1)) ^ (5 : Int).toNat % 2147483647) (n := 30011) (by decide)
        refine ⟨_, rfl, _, rfl, _, 30011, rfl, rfl, pos2, _, 7, rfl, rfl, _, _, rfl, rfl, .inl ⟨by omega, by omega⟩,
          _, rfl, b, _, 2, _, rfl, rfl, s1, atI_nat (j := 2) rfl, z + 1, 7919, rfl, rfl, .inr ⟨by decide, by decide⟩, _, _, rfl, rfl, _, 2147483629, rfl, rfl, pos3,
          _, 64, rfl, rfl, ⟨by decide, by decide⟩, _, rfl, _, n, rfl, rfl, hn, ?_⟩
        exact q _ x (z + 1) (inRange hn).1 (inRange hn).2 hx (by omega) (Int.le_refl _)
/-- a box made of a cell: its numbers within bounds -/
def spBox (K : PySem.W.Frag) : Sp := fun vs H Q _ => ∃ (a : Addr) (ns : List Int) (k : Nat), vs = [.ref a, .int k] ∧ SqL K H a (ns.map V.int) ∧ k ≤ 1000 ∧
  ∀ p x y, H p = none → 0 ≤ x → 0 ≤ y → y < 1000000000000 → Q (.ref p) (upd H p (.lst [.int x, .int y, .int 0]))
theorem ok_box {f : Addr} {fd : FuncData} {k : Nat} (F : Fun K "_law_box" "_law_box" stBox f fd) (ml : mg "len" = none) (ma : mg "abs" = none) (mi : mg "int" = none) :
    FnOk P w K mg base CX0 (k + 1) f fd ["_law_script", "_law_k"] (spBox K) := by
  refine F.ok scB (fun vs H Q E h => ?_) (fun cdv A outer s H vs Q E hr h => ?_)
  · obtain ⟨a, ns, k, rfl, _⟩ := h
    rfl
  · obtain ⟨a, ns, k, rfl, hS, hk, q⟩ := h
    refine ⟨_, Evl.pss_cut (ps_set (i := 2) scB.nd rfl (.inl rfl) (pe_ifExp (pt_cmpR op_lt (pv 1) (pe_callB call_len_seq (by rfl) ml PySem.boot_len (pa_cons (pv 0) pa_nil)) (nomark _)) (pe_ix ix_list (pv 0) (pv 1) (fun _ _ => rfl)) pe_int))
      (pss_one (ps_ret (pe_lst (pa_cons (pe_op op_mul (pe_callB call_abs (by rfl) ma (by decide +kernel) (pa_cons (pv 2) pa_nil))
          (pe_callTy call_int1 (by rfl) mi (by decide +kernel) (pa_cons (pe_cmpR op_ge (pe_callB call_abs (by rfl) ma (by decide +kernel) (pa_cons (pv 2) pa_nil)) (pe_op op_pow pe_int pe_int) (nomark _)) pa_nil)))
        (pa_cons (pe_op op_add (pe_op op_add (pe_op op_mod (pv 2) pe_int) (pe_op op_mul pe_int (pv 1))) pe_int)
        (pa_cons pe_int pa_nil)))))), ?_⟩
    refine ⟨fun σ' H' => H' = H ∧ ∃ c : Int, σ' = [some (.ref a), some (.int k), some (.int c)], ?_, fun σ' H' h => ?_⟩
    · refine ⟨_, rfl, _, rfl, a, _, rfl, .inl hS, _, _, rfl, rfl, _, rfl, ite2 (fun e => ?_) (fun e => ?_)⟩
      · have e1 : (k : Int) < ((ns.map V.int).length : Nat) := of_decide_eq_true e
        have e2 : k < ns.length := by
          rw [List.length_map] at e1
          omega
        have g : (ns.map V.int)[k]? = some (.int ns[k]) := by
          rw [List.getElem?_map, List.getElem?_eq_getElem e2]
          rfl
        exact ⟨_, rfl, _, rfl, a, _, _, _, rfl, rfl, hS, atI_nat g, rfl, ns[k], rfl⟩
      · exact ⟨rfl, 0, rfl⟩
    · obtain ⟨rfl, c, rfl⟩ := h
      have g := inRange (i := c) (n := 2147483629) (by decide)
      refine ⟨_, rfl, c, rfl, _, rfl, c, rfl, 10, 18, rfl, rfl, ⟨by decide, by decide, by decide⟩, _, _, rfl, rfl, .inr ⟨_, rfl, ?_⟩⟩
      have hb : ∀ b : Bool, (0 : Int) ≤ (if b = true then 1 else 0) ∧ (if b = true then (1 : Int) else 0) ≤ 1 := by decide
      have ha : (0 : Int) ≤ (if c < 0 then -c else c) := by split <;> omega
      refine ⟨_, _, rfl, rfl, .inr ⟨?_, ?_⟩, _, rfl, c, 2147483629, rfl, rfl, pos3, _, rfl, 7919, k, rfl, rfl, .inl ⟨by decide, by decide⟩, _, _, rfl, rfl, _, 67, rfl, rfl,
        (show 3 ≤ sizeLine by decide), fun p hp => ?_⟩
      · exact Int.lt_of_lt_of_le (by decide) (hb _).1
      · exact Int.lt_of_le_of_lt (hb _).2 (by decide)
      · exact q p _ _ hp (Int.mul_nonneg ha (hb _).1) (by omega) (by omega)
end
theorem dp_ints {K : PySem.W.Frag} {H : Hp} : ∀ ms : List Int, DpAll K H (ms.map V.int) (ms.map PyData.int)
  | [] => .nil
  | m :: r => .cons (.int m) (dp_ints r)
theorem flat_lay {α : Type} (c : α → PyData) (h1 : ∀ a, (c a).canLay0 = true) (h2 : ∀ a, (c a).depth = 0) : ∀ ms : List α, PyData.canLayAll0 (ms.map c) = true ∧ PyData.depthAll (ms.map c) = 0
  | [] => ⟨rfl, rfl⟩
  | m :: r => by
    obtain ⟨g1, g2⟩ := flat_lay c h1 h2 r
    refine ⟨?_, ?_⟩
    · rw [List.map_cons, PyData.canLayAll0, h1, g1]
      rfl
    · rw [List.map_cons, PyData.depthAll, h2, g2]
      rfl
theorem shp_flat {α : Type} (c : α → PyData) (h1 : ∀ a, (c a).canLay0 = true) (h2 : ∀ a, (c a).depth = 0) (ms : List α) : SeqAt.shaped (.list (ms.map c)) = true := by
  obtain ⟨g1, g2⟩ := flat_lay c h1 h2 ms
  unfold SeqAt.shaped
  rw [PyData.canLay0, PyData.depth, g1, g2]
  rfl
theorem shp_ints (ms : List Int) : SeqAt.shaped (.list (ms.map PyData.int)) = true := shp_flat PyData.int (fun _ => by simp [PyData.canLay0]) (fun _ => by simp [PyData.depth]) ms
theorem carry {H : Hp} {p l : Addr} {o u : HO} (hp : H p = some o) (n : H l = none) : upd H l u p = some o := (upd_ne (ne_of_none hp n)).trans hp
abbrev stSame : Stmt := topS 32
theorem scS : FnScope ["_law_found", "_law_due", "_law_mine", "_law_its"] ["_law_found", "_law_due"] (defScope stSame) := ⟨rfl, rfl, rfl, by decide +kernel, rfl, by decide +kernel, by decide +kernel⟩
section
variable {K : PySem.W.Frag} {H H' : Hp} {a b : Addr} {xs ys : List V}
theorem tyx_l (h : SqL K H a xs) : TyX K H (.ref a) (.type "list") := by
  rcases h with (h | ⟨o, h⟩) | ⟨o, its, n, h1, h2, _⟩
  · exact .base (.lst h)
  · exact .base (.frz h)
  · exact .kList h1 h2
theorem tyx_t (h : SqT K H a xs) : TyX K H (.ref a) (.type "tuple") := by
  rcases h with (h | ⟨o, h⟩) | ⟨o, its, n, h1, h2, _⟩
  · exact .base (.tup h)
  · exact .fTuple h
  · exact .kTuple h1 h2
mutual
theorem dp_mono (e : Evl.Ex H H') : ∀ {v : V} {d : PyData}, Dp K H v d → Dp K H' v d
  | _, _, .non => .non
  | _, _, .bl b => .bl b
  | _, _, .int i => .int i
  | _, _, .str x => .str x
  | _, _, .lst h g => .lst (Evl.ex_l e h) (dpa_mono e g)
  | _, _, .tup h g => .tup (Evl.ex_t e h) (dpa_mono e g)
theorem dpa_mono (e : Evl.Ex H H') : ∀ {vs : List V} {ds : List PyData}, DpAll K H vs ds → DpAll K H' vs ds
  | _, _, .nil => .nil
  | _, _, .cons h g => .cons (dp_mono e h) (dpa_mono e g)
end
theorem dpa_len : ∀ {vs : List V} {ds : List PyData}, DpAll K H vs ds → vs.length = ds.length
  | _, _, .nil => rfl
  | _, _, .cons _ g => by rw [List.length_cons, List.length_cons, dpa_len g]
theorem dpa_at : ∀ {vs : List V} {ds : List PyData} {i : Nat} {v : V}, DpAll K H vs ds → vs[i]? = some v → ∃ d, ds[i]? = some d ∧ Dp K H v d
  | _, _, _, _, .nil, e => by simp at e
  | _, _, 0, _, .cons h g, e => by
    simp at e
    subst e
    exact ⟨_, rfl, h⟩
  | _, _, i + 1, v, .cons h g, e => dpa_at (i := i) g (by simpa using e)
theorem walk_zipT {n : Nat} (hn : n = min xs.length ys.length) : Walk (RZ.ItzT K a b) n (fun H => SqT K H a xs ∧ SqT K H b ys) (YPair (fun i => xs[i]?) (fun i => ys[i]?)) := by
  subst hn
  refine ⟨fun i _ hi q => ?_, fun _ q => ⟨xs, ys, q.1, q.2, by omega⟩, fun i H v H' _ q y => ?_⟩
  · exact ⟨xs, ys, xs[i]'(by omega), ys[i]'(by omega), q.1, q.2, List.getElem?_eq_getElem _, List.getElem?_eq_getElem _⟩
  · obtain ⟨T, x, z, g1, g2, g3, g4, g5⟩ := y
    exact ⟨T, x, z, g1, g2, g3, g4 xs q.1, g5 ys q.2⟩
end
section
variable {P : Program} {w : World} {K : PySem.W.Frag} {mg : Str → Option Value} {base : Heap}
theorem ifY {b : Bool} {A B : Prop} (h : b = true) (hA : A) : if b = true then A else B := by
  rw [if_pos h]
  exact hA
theorem ifN {b : Bool} {A B : Prop} (h : b = false) (hB : B) : if b = true then A else B := by
  rw [h]
  exact iteF hB
theorem kit2 {K : PySem.W.Frag} {t : String} {b c : Bool} (h1 : kitB t "list" = some b) (h2 : kitB t "tuple" = some c) : PySem.W.kitAny K (.type t) [.type "list", .type "tuple"] = some (b || c) := by
  refine kitAny_cons (kit_ty h1) (fun e => ?_) (fun e => by rw [e]; rfl)
  subst e
  refine kitAny_cons (kit_ty h2) (fun e => ?_) (fun e => by rw [e]; rfl)
  subst e
  exact kitAny_nil
theorem two_cls : Paired ClsV [.ty "list", .ty "tuple"] [.type "list", .type "tuple"] := .cons (.ty _) (.cons (.ty _) .nil)
theorem two_size : 2 ≤ sizeLine := by decide
theorem all_yes : ∀ n : Nat, (List.replicate n true).all id = true
  | 0 => rfl
  | n + 1 => by rw [List.replicate_succ, List.all_cons, all_yes n]; rfl
theorem all_at {α : Type} {p : α → Bool} : ∀ {l : List α} {i : Nat} {a : α}, l.all p = true → l[i]? = some a → p a = true := fun {l i a} h e =>
  List.all_eq_true.mp h a (List.mem_of_getElem? e)
/-- both read as one and the same -/
def spSame (K : PySem.W.Frag) (n : Nat) : Sp := fun vs H Q _ => ∃ (x y : V) (d : PyData), vs = [x, y] ∧ Dp K H x d ∧ Dp K H y d ∧ shal n d = true ∧ ∀ H', Evl.Ex H H' → Q (.bl true) H'
def spPrev (K : PySem.W.Frag) : Nat → Sp
  | 0 => fun _ _ _ _ => False
  | n + 1 => spSame K n
structure Names (mg : Str → Option Value) : Prop where
  isi : mg "isinstance" = none
  lst : mg "list" = none
  tup : mg "tuple" = none
  len : mg "len" = none
  all : mg "all" = none
  zip : mg "zip" = none
  str : mg "str" = none
  int : mg "int" = none
  bool : mg "bool" = none
theorem bt_isi : bootBuiltins "isinstance" = some (.builtin "isinstance") := by decide +kernel
theorem bt_tup : bootBuiltins "tuple" = some (.type "tuple") := by decide +kernel
theorem bt_lst : bootBuiltins "list" = some (.type "list") := by decide +kernel
theorem bt_str : bootBuiltins "str" = some (.type "str") := by decide +kernel
theorem bt_int : bootBuiltins "int" = some (.type "int") := by decide +kernel
theorem bt_bool : bootBuiltins "bool" = some (.type "bool") := by decide +kernel
theorem bt_all : bootBuiltins "all" = some (.builtin "all") := by decide +kernel
theorem ok_same {f : Addr} {fd : FuncData} (F : Fun K "_law_same" "_law_same" stSame f fd) (b : Binds K fd ["_law_found", "_law_due"] []) (gs : mg "_law_same" = some (.ref f)) (N : Names mg) :
    ∀ n : Nat, FnOk P w K mg base CX0 n f fd ["_law_found", "_law_due"] (spPrev K n)
  | 0 => ⟨fun _ _ _ _ h => h.elim, fun _ _ _ _ _ _ _ _ _ _ _ _ _ h => h.elim⟩
  | n + 1 => by
    have G := ok_same F b gs N n
    refine F.ok scS (fun vs H Q E h => ?_) (fun cdv A outer s H vs Q E hr h => ?_)
    · obtain ⟨x, y, d, rfl, _⟩ := h
      rfl
    obtain ⟨x, y, d, rfl, hx, hy, hd, q⟩ := h
    refine ⟨_, pss_cons (ps_if (pt_val (pe_callB call_isiT (by rfl) N.isi bt_isi (pa_cons (pv 1) (pa_cons (pe_tup (pa_cons (pe_bltn (v := .ty "list") (by rfl) N.lst bt_lst rfl) (pa_cons (pe_bltn (v := .ty "tuple") (by rfl) N.tup bt_tup rfl) pa_nil))) pa_nil))))
        (pss_cons (ps_if (pw_or (pt_cmpR op_ne (pe_callB call_isi (by rfl) N.isi bt_isi (pa_cons (pv 0) (pa_cons (pe_bltn (v := .ty "list") (by rfl) N.lst bt_lst rfl) pa_nil))) (pe_callB call_isi (by rfl) N.isi bt_isi (pa_cons (pv 1) (pa_cons (pe_bltn (v := .ty "list") (by rfl) N.lst bt_lst rfl) pa_nil))) (nomark _)) (pw_or1 (pt_cmpR op_ne (pe_callB call_isi (by rfl) N.isi bt_isi (pa_cons (pv 0) (pa_cons (pe_bltn (v := .ty "tuple") (by rfl) N.tup bt_tup rfl) pa_nil))) (pe_callB call_isi (by rfl) N.isi bt_isi (pa_cons (pv 1) (pa_cons (pe_bltn (v := .ty "tuple") (by rfl) N.tup bt_tup rfl) pa_nil))) (nomark _)))).pt
          (pss_one (ps_ret pe_bl)) pss_nil)
        (pss_one (ps_ret (pe_and (pe_cmpR op_eq (pe_callB call_len_seq (by rfl) N.len PySem.boot_len (pa_cons (pv 0) pa_nil)) (pe_callB call_len_seq (by rfl) N.len PySem.boot_len (pa_cons (pv 1) pa_nil)) (nomark _)) (pe_one (pe_callB (cr_all rfl) (by rfl) N.all bt_all (pa_cons
          (pe_lc (own := [("_law_mine", 2), ("_law_its", 3)]) (g := gTup K 2 (gCons (gName 2) (gCons (gName 3) gNil))) (tt := tYes) rfl scS.nd (RZ.pi_zipA (by rfl) N.zip (pa_cons (pv 0) (pa_cons (pv 1) pa_nil)))
            (blkOk_by (N := ["_law_found", "_law_due", "_law_mine", "_law_its"]) (sc := defScope stSame) (by decide +kernel))
            (fun _ _ _ _ _ => pg_tup rfl (pgs_cons (pg_name (i := 2) scS.nd rfl (.inl rfl)) (pgs_cons (pg_name (i := 3) scS.nd rfl (.inl rfl)) pgs_nil)))
            (fun _ _ _ _ _ => pts_nil)
            (fun _ _ _ _ _ => pe_call G hr (by rfl) gs F.kp b .nil pass0 (pa_cons (pv 2) (pa_cons (pv 3) pa_nil))))
          pa_nil))))))) pss_nil)
      (pss_cons (ps_if (pw_or (pt_cmp (pc_isN (pv 1))) (pw_or1 (pt_val (pe_callB call_isi (by rfl) N.isi bt_isi (pa_cons (pv 1) (pa_cons (pe_bltn (v := .ty "str") (by rfl) N.str bt_str rfl) pa_nil)))))).pt
        (pss_one (ps_ret (pe_and (pe_cmpR op_eq (pv 0) (pv 1) (nomark _)) (pe_one (pe_cmpR op_eq (pe_callB call_isi (by rfl) N.isi bt_isi (pa_cons (pv 0) (pa_cons (pe_bltn (v := .ty "str") (by rfl) N.str bt_str rfl) pa_nil))) (pe_callB call_isi (by rfl) N.isi bt_isi (pa_cons (pv 1) (pa_cons (pe_bltn (v := .ty "str") (by rfl) N.str bt_str rfl) pa_nil))) (nomark _)))))) pss_nil)
      (pss_one (ps_ret (pe_and (pe_callB call_isi (by rfl) N.isi bt_isi (pa_cons (pv 0) (pa_cons (pe_bltn (v := .ty "int") (by rfl) N.int bt_int rfl) pa_nil))) (pe_and (pe_cmpR op_eq (pe_callB call_isi (by rfl) N.isi bt_isi (pa_cons (pv 0) (pa_cons (pe_bltn (v := .ty "bool") (by rfl) N.bool bt_bool rfl) pa_nil))) (pe_callB call_isi (by rfl) N.isi bt_isi (pa_cons (pv 1) (pa_cons (pe_bltn (v := .ty "bool") (by rfl) N.bool bt_bool rfl) pa_nil))) (nomark _)) (pe_one (pe_cmpR op_eq (pv 0) (pv 1) (nomark _)))))))), ?_⟩
    cases d with
    | none =>
      cases hx
      cases hy
      refine ⟨_, rfl, two_size, fun t nt => ?_⟩
      have e0 : Evl.Ex H (upd H t (.tup [.ty "list", .ty "tuple"])) := Evl.Ex.new nt
      refine ⟨_, t, _, _, _, false, rfl, upd_same, two_cls, .base (.non), kit2 (b := false) (c := false) (by decide +kernel) (by decide +kernel), _, rfl, iteF ?_⟩
      refine ⟨_, rfl, _, rfl, iteT ?_⟩
      refine iteT ?_
      refine ⟨_, rfl, _, rfl, rfl, _, rfl, ifY (decide_eq_true rfl) ?_⟩
      refine ⟨_, rfl, _, _, _, _, false, rfl, .ty _, .base (.non), kit_ty (by decide +kernel), _, rfl, _, _, _, _, false, rfl, .ty _, .base (.non), kit_ty (by decide +kernel), rfl, ?_⟩
      exact q _ e0
    | bool b0 =>
      cases hx
      cases hy
      refine ⟨_, rfl, two_size, fun t nt => ?_⟩
      have e0 : Evl.Ex H (upd H t (.tup [.ty "list", .ty "tuple"])) := Evl.Ex.new nt
      refine ⟨_, t, _, _, _, false, rfl, upd_same, two_cls, .base (.bl b0), kit2 (b := false) (c := false) (by decide +kernel) (by decide +kernel), _, rfl, iteF ?_⟩
      refine ⟨_, rfl, _, rfl, ifN (decide_eq_false (fun z => nomatch z)) ?_⟩
      refine ⟨_, rfl, _, _, _, _, false, rfl, .ty _, .base (.bl b0), kit_ty (by decide +kernel), _, rfl, ?_⟩
      refine iteF ?_
      refine ⟨_, rfl, _, _, _, _, true, rfl, .ty _, .base (.bl b0), kit_ty (by decide +kernel), _, rfl, iteT ?_⟩
      refine ⟨_, rfl, _, _, _, _, true, rfl, .ty _, .base (.bl b0), kit_ty (by decide +kernel), _, rfl, _, _, _, _, true, rfl, .ty _, .base (.bl b0), kit_ty (by decide +kernel), rfl, _, rfl, ifY (decide_eq_true rfl) ?_⟩
      refine ⟨_, rfl, _, rfl, rfl, ?_⟩
      rw [decide_eq_true rfl]
      exact q _ e0
    | int i0 =>
      cases hx
      cases hy
      refine ⟨_, rfl, two_size, fun t nt => ?_⟩
      have e0 : Evl.Ex H (upd H t (.tup [.ty "list", .ty "tuple"])) := Evl.Ex.new nt
      refine ⟨_, t, _, _, _, false, rfl, upd_same, two_cls, .base (.int i0), kit2 (b := false) (c := false) (by decide +kernel) (by decide +kernel), _, rfl, iteF ?_⟩
      refine ⟨_, rfl, _, rfl, ifN (decide_eq_false (fun z => nomatch z)) ?_⟩
      refine ⟨_, rfl, _, _, _, _, false, rfl, .ty _, .base (.int i0), kit_ty (by decide +kernel), _, rfl, ?_⟩
      refine iteF ?_
      refine ⟨_, rfl, _, _, _, _, true, rfl, .ty _, .base (.int i0), kit_ty (by decide +kernel), _, rfl, iteT ?_⟩
      refine ⟨_, rfl, _, _, _, _, false, rfl, .ty _, .base (.int i0), kit_ty (by decide +kernel), _, rfl, _, _, _, _, false, rfl, .ty _, .base (.int i0), kit_ty (by decide +kernel), rfl, _, rfl, ifY (decide_eq_true rfl) ?_⟩
      refine ⟨_, rfl, _, rfl, rfl, ?_⟩
      rw [decide_eq_true rfl]
      exact q _ e0
    | str z0 =>
      cases hx
      cases hy
      refine ⟨_, rfl, two_size, fun t nt => ?_⟩
      have e0 : Evl.Ex H (upd H t (.tup [.ty "list", .ty "tuple"])) := Evl.Ex.new nt
      refine ⟨_, t, _, _, _, false, rfl, upd_same, two_cls, .base (.str z0), kit2 (b := false) (c := false) (by decide +kernel) (by decide +kernel), _, rfl, iteF ?_⟩
      refine ⟨_, rfl, _, rfl, ifN (decide_eq_false (fun z => nomatch z)) ?_⟩
      refine ⟨_, rfl, _, _, _, _, true, rfl, .ty _, .base (.str z0), kit_ty (by decide +kernel), _, rfl, ?_⟩
      refine iteT ?_
      refine ⟨_, rfl, _, rfl, rfl, _, rfl, ifY (decide_eq_true rfl) ?_⟩
      refine ⟨_, rfl, _, _, _, _, true, rfl, .ty _, .base (.str z0), kit_ty (by decide +kernel), _, rfl, _, _, _, _, true, rfl, .ty _, .base (.str z0), kit_ty (by decide +kernel), rfl, ?_⟩
      exact q _ e0
    | list ds =>
      cases hx with
      | lst h1 g1 =>
      cases hy with
      | lst h2 g2 =>
      rename_i a1 xs a2 ys
      cases n with
      | zero => exact absurd hd (by simp [shal])
      | succ n =>
      have hd0 : (decide (ds.length ≤ 1000) && ds.all (shal n)) = true := by
        rw [shal] at hd
        exact hd
      have hd' : ds.all (shal n) = true := (Bool.and_eq_true_iff.mp hd0).2
      have hsz : ds.length ≤ 1000 := of_decide_eq_true (Bool.and_eq_true_iff.mp hd0).1
      have l1 := dpa_len g1
      have l2 := dpa_len g2
      refine ⟨_, rfl, two_size, fun t nt => ?_⟩
      have e0 : Evl.Ex H (upd H t (.tup [.ty "list", .ty "tuple"])) := Evl.Ex.new nt
      have L1 := Evl.ex_l e0 h1
      have L2 := Evl.ex_l e0 h2
      refine ⟨_, t, _, _, _, true, rfl, upd_same, two_cls, tyx_l L2, kit2 (b := true) (c := false) (by decide +kernel) (by decide +kernel), _, rfl, iteT ?_⟩
      refine ⟨_, rfl, _, _, _, _, true, rfl, .ty _, tyx_l L1, kit_ty (by decide +kernel), _, rfl, _, _, _, _, true, rfl, .ty _, tyx_l L2, kit_ty (by decide +kernel), rfl, _, rfl, ifN rfl ?_⟩
      refine ⟨_, rfl, _, _, _, _, false, rfl, .ty _, tyx_l L1, kit_ty (by decide +kernel), _, rfl, _, _, _, _, false, rfl, .ty _, tyx_l L2, kit_ty (by decide +kernel), rfl, _, rfl, ifN rfl ?_⟩
      refine ⟨_, rfl, a1, _, rfl, .inl L1, _, rfl, a2, _, rfl, .inl L2, rfl, _, rfl, ifY ?_ ?_⟩
      · rw [l1, l2]
        exact decide_eq_true rfl
      refine ⟨_, rfl, _, rfl, a1, a2, xs, ys, rfl, .inl ⟨L1, L2, fun D nD => lc_it (walk_zip (xs := xs) (ys := ys) rfl)
        (fun i H' => Evl.Ex (upd H t (.tup [.ty "list", .ty "tuple"])) H' ∧ H' D = some (.lst ((List.replicate i true).map V.bl))) ⟨Evl.Ex.new nD, upd_same⟩
        (fun i H' _ p => ⟨Evl.ex_l p.1 L1, Evl.ex_l p.1 L2⟩) (fun i x H2 H3 hi p y => ?_) (fun H' p => ?_)⟩⟩
      · obtain ⟨T, u, v, rfl, nT, rfl, eu, ev⟩ := y
        have e2 := e0.trans (p.1.trans (Evl.Ex.new (o := .tup [u, v]) nT))
        obtain ⟨d1, k1, j1⟩ := dpa_at g1 eu
        obtain ⟨d2, k2, j2⟩ := dpa_at g2 ev
        rw [k1] at k2
        cases k2
        refine ⟨T, _, rfl, .inl (.inl upd_same), rfl, _, _, rfl, _, [], rfl, rfl, rfl, ?_⟩
        unfold tYes
        dsimp only
        rw [if_pos rfl]
        refine ⟨_, rfl, _, rfl, u, v, d1, rfl, dp_mono e2 j1, dp_mono e2 j2, all_at hd' k1, fun H4 e4 => ?_⟩
        have hD4 : H4 D = some (.lst ((List.replicate i true).map V.bl)) := e4 _ _ (by
          rw [upd_ne (ne_of_none p.2 nT)]
          exact p.2)
        refine ⟨_, hD4, ?_, ?_, ?_⟩
        · rw [List.length_map, List.length_replicate]
          exact Evl.sz_lt (by have := hsz; omega)
        · exact Evl.Ex.mut ((p.1.trans (Evl.Ex.new nT)).trans e4) nD
        · rw [upd_same, List.replicate_succ', List.map_append]
          rfl
      · refine ⟨D, _, rfl, .inl (.inl p.2), ?_⟩
        rw [all_yes]
        exact q _ (e0.trans p.1)
    | tuple ds =>
      cases hx with
      | tup h1 g1 =>
      cases hy with
      | tup h2 g2 =>
      rename_i a1 xs a2 ys
      cases n with
      | zero => exact absurd hd (by simp [shal])
      | succ n =>
      have hd0 : (decide (ds.length ≤ 1000) && ds.all (shal n)) = true := by
        rw [shal] at hd
        exact hd
      have hd' : ds.all (shal n) = true := (Bool.and_eq_true_iff.mp hd0).2
      have hsz : ds.length ≤ 1000 := of_decide_eq_true (Bool.and_eq_true_iff.mp hd0).1
      have l1 := dpa_len g1
      have l2 := dpa_len g2
      refine ⟨_, rfl, two_size, fun t nt => ?_⟩
      have e0 : Evl.Ex H (upd H t (.tup [.ty "list", .ty "tuple"])) := Evl.Ex.new nt
      have L1 := Evl.ex_t e0 h1
      have L2 := Evl.ex_t e0 h2
      refine ⟨_, t, _, _, _, true, rfl, upd_same, two_cls, tyx_t L2, kit2 (b := false) (c := true) (by decide +kernel) (by decide +kernel), _, rfl, iteT ?_⟩
      refine ⟨_, rfl, _, _, _, _, false, rfl, .ty _, tyx_t L1, kit_ty (by decide +kernel), _, rfl, _, _, _, _, false, rfl, .ty _, tyx_t L2, kit_ty (by decide +kernel), rfl, _, rfl, ifN rfl ?_⟩
      refine ⟨_, rfl, _, _, _, _, true, rfl, .ty _, tyx_t L1, kit_ty (by decide +kernel), _, rfl, _, _, _, _, true, rfl, .ty _, tyx_t L2, kit_ty (by decide +kernel), rfl, _, rfl, ifN rfl ?_⟩
      refine ⟨_, rfl, a1, _, rfl, .inr L1, _, rfl, a2, _, rfl, .inr L2, rfl, _, rfl, ifY ?_ ?_⟩
      · rw [l1, l2]
        exact decide_eq_true rfl
      refine ⟨_, rfl, _, rfl, a1, a2, xs, ys, rfl, .inr ⟨L1, L2, fun D nD => lc_it (walk_zipT (xs := xs) (ys := ys) rfl)
        (fun i H' => Evl.Ex (upd H t (.tup [.ty "list", .ty "tuple"])) H' ∧ H' D = some (.lst ((List.replicate i true).map V.bl))) ⟨Evl.Ex.new nD, upd_same⟩
        (fun i H' _ p => ⟨Evl.ex_t p.1 L1, Evl.ex_t p.1 L2⟩) (fun i x H2 H3 hi p y => ?_) (fun H' p => ?_)⟩⟩
      · obtain ⟨T, u, v, rfl, nT, rfl, eu, ev⟩ := y
        have e2 := e0.trans (p.1.trans (Evl.Ex.new (o := .tup [u, v]) nT))
        obtain ⟨d1, k1, j1⟩ := dpa_at g1 eu
        obtain ⟨d2, k2, j2⟩ := dpa_at g2 ev
        rw [k1] at k2
        cases k2
        refine ⟨T, _, rfl, .inl (.inl upd_same), rfl, _, _, rfl, _, [], rfl, rfl, rfl, ?_⟩
        unfold tYes
        dsimp only
        rw [if_pos rfl]
        refine ⟨_, rfl, _, rfl, u, v, d1, rfl, dp_mono e2 j1, dp_mono e2 j2, all_at hd' k1, fun H4 e4 => ?_⟩
        have hD4 : H4 D = some (.lst ((List.replicate i true).map V.bl)) := e4 _ _ (by
          rw [upd_ne (ne_of_none p.2 nT)]
          exact p.2)
        refine ⟨_, hD4, ?_, ?_, ?_⟩
        · rw [List.length_map, List.length_replicate]
          exact Evl.sz_lt (by have := hsz; omega)
        · exact Evl.Ex.mut ((p.1.trans (Evl.Ex.new nT)).trans e4) nD
        · rw [upd_same, List.replicate_succ', List.map_append]
          rfl
      · refine ⟨D, _, rfl, .inl (.inl p.2), ?_⟩
        rw [all_yes]
        exact q _ (e0.trans p.1)
    | dict kvs => cases hx
end
open Dv
section
variable {P : Program} {w : World} {K : PySem.W.Frag} {mg : Str → Option Value} {base : Heap}
theorem g_take {f : Addr} {fd : FuncData} (F : Fun K "_law_take" "_law_take" stTake f fd) : FnG P w K mg base 1 f fd ["_law_box_here", "_law_below"] (spD K 1 Ke.F_take) :=
  impG (toG (ok_take (k := 0) F)) fun vs H Q h => by
    obtain ⟨b, S, m, as, hA, bx, bs, al, hm, hF⟩ := h
    unfold Ke.F_take at hF
    split at hF
    · rename_i n
      cases hA with
      | cons a1 a2 =>
      cases a2 with
      | cons a2 a3 =>
      cases a3
      cases a2
      obtain ⟨p, rfl, rfl⟩ := a1
      obtain ⟨x, y, z, h1, h2, h3, h4, h5, h6⟩ := bx
      have hm' : m < 900000000 := by
        have : m + 1 ≤ 900000000 := hm
        omega
      refine ⟨p, x, y, z, n, rfl, h6, h1, h2, h3, h4, by omega, hF.1.1, hF.1.2, fun r x' z' g1 g2 g3 g4 g5 => hF.2 r g1 g2 _ _ (fun c o hc e => ?_) ⟨x', y, z', g3, h2, h3, by omega, by omega, upd_same⟩ (.int _)⟩
      rw [upd_ne fun w => hc (by rw [w])]
      exact e
    · exact hF.elim
theorem g_box {f : Addr} {fd : FuncData} (F : Fun K "_law_box" "_law_box" stBox f fd) (ml : mg "len" = none) (ma : mg "abs" = none) (mi : mg "int" = none) : FnG P w K mg base 1 f fd ["_law_script", "_law_k"] (spBx K) :=
  impG (toG (ok_box (k := 0) F ml ma mi)) fun vs H Q h => h
theorem g_same {f : Addr} {fd : FuncData} (F : Fun K "_law_same" "_law_same" stSame f fd) (b : Binds K fd ["_law_found", "_law_due"] []) (gs : mg "_law_same" = some (.ref f)) (N : Names mg) : FnG P w K mg base 6 f fd ["_law_found", "_law_due"] (spD K 0 F_same) :=
  impG (toG (ok_same F b gs N 6)) fun vs H Q h => by
    obtain ⟨b, S, m, as, hA, bx, bs, al, hm, hF⟩ := h
    unfold F_same at hF
    split at hF
    · rename_i x y
      obtain ⟨⟨rfl, sh⟩, hF⟩ := hF
      cases hA with
      | cons a1 a2 =>
      cases a2 with
      | cons a2 a3 =>
      cases a3
      exact ⟨_, _, x, rfl, (Da.mono rm_le a1).dp, (Da.mono rm_le a2).dp, sh, fun H' e => hF _ _ (Stp.ex e) (bx.ex e) (.bl true)⟩
    · exact hF.elim
end
end Kd
namespace Dv
open PySem PySem.Spec PyProof.Rows L2 Xg
open Classical
theorem law_sp {K : PySem.W.Frag} {c : Nat} {F : FF} (mF : MonoF F) (hc : c ≤ LIM) {H : Hp} {a : Addr} {ns : List Int} {E : XK} (hS : SqL K H a (ns.map V.int)) (hF : F [.scr ns] (fun d => d = .bool true)) : spD K c F [.ref a] H (fun v _ => v = .bl true) E := by
  have b0 : BxO none H 0 := trivial
  have bs : ∀ p : Addr, (none : Option Addr) = some p → (fun _ : Addr => False) p := fun p e => nomatch e
  have al : Al (fun _ => False) H := fun a h => h.elim
  refine ⟨none, fun _ => False, 0, [.scr ns], .cons ⟨a, rfl, Evl.ex_l (fun c o h => ?_) hS⟩ .nil, b0, bs, al, by omega, mF _ _ _ (fun d e v H' _ _ hd => ?_) hF⟩
  · rw [rm_out id]
    exact h
  · subst e
    cases hd
    rfl
/-! what data come to, as equations -/
theorem comp_eq {g : FG} {te : FE} {ρ : List Sl} {Q : List PyData → Prop} (h : PyData → PyData) : ∀ (ds acc : List PyData), (∀ d ∈ ds, ∀ P : PyData → Prop, (g d ρ fun ρ' => te ρ' P) = P (h d)) → compD g fYes te ρ ds acc Q = Q (acc ++ ds.map h)
  | [], acc, _ => by rw [compD, List.map_nil, List.append_nil]
  | d :: ds, acc, hs => by
    rw [compD]
    have e : (fun ρ' : List Sl => fYes ρ' fun k => if k = true then te ρ' fun y => compD g fYes te ρ ds (acc ++ [y]) Q else compD g fYes te ρ ds acc Q) = fun ρ' => te ρ' fun y => compD g fYes te ρ ds (acc ++ [y]) Q := by
      funext ρ'
      unfold fYes
      exact if_pos rfl
    rw [e, hs d (List.mem_cons_self ..) (fun y => compD g fYes te ρ ds (acc ++ [y]) Q), comp_eq h ds _ (fun d hd => hs d (List.mem_cons_of_mem _ hd)), List.map_cons, List.append_assoc]
    rfl
end Dv
/-! sum of a tuple of numbers, too -/
namespace Dv
open PySem PySem.Spec PyProof.Rows L2 Xg
theorem preSum_sum {ns : List Int} : ∀ n, n ≤ ns.length → preSum (fun i => ns.getD i 0) n = (ns.take n).sum
  | 0, _ => by simp [preSum]
  | n + 1, h => by
    rw [preSum, preSum_sum n (by omega), List.take_succ, List.sum_append, List.getD_eq_getElem?_getD, List.getElem?_eq_getElem (by omega)]
    simp
def rSumT (K : PySem.W.Frag) : List V → Hp → VK → Prop := fun vs H Q => ∃ (a : Addr) (ns : List Int), vs = [V.ref a] ∧ SqT K H a (ns.map V.int) ∧ Q (.int ns.sum) H
theorem cr_sumT {X : Cx} (hc : X.calm = true) : CallR X (.builtin "sum") (rSumT X.K) := by
  intro pins s σ H vs us Q I r h
  obtain ⟨a, ns, rfl, hs, q⟩ := h
  obtain ⟨is, rv, m1, _⟩ := I.tuple hs
  rw [Vals.ref1 r]
  have la : a < s.heap.objs.size := let ⟨_, e, _⟩ := id m1; Heap.lt_size e
  have ln : is.length = ns.length := by
    have := rv.length
    rw [List.length_map] at this
    exact this.symm
  refine call_sum_walkG (wpAny_pyIter_tuple (show s.heap.IsTuple a is.toArray from m1) ⟨_, _, _, _, _, _, fun i => ns.getD i 0, rfl, Walks.tuple (A := X.A.in1) (I.ok.hd hc) s.heap.objs.size a (Nat.ne_of_lt la) is.toArray,
    ⟨⟨_, Heap.get?_push_size _ rfl, rfl, rfl⟩, ?_⟩, fun b hb => ?_, fun i v hv => ?_, fun h' tk t' hk => ?_⟩)
  · have m2 : s.heap.IsTuple a is.toArray := m1
    exact m2.at fun o e => Heap.get?_push_of_some _ e
  · rw [Heap.size_push]
    rcases List.mem_cons.mp hb with z | z
    · rw [z]; exact Nat.lt_succ_self _
    · rw [List.mem_singleton.mp z]; exact Nat.lt_succ_of_lt la
  · rw [List.getElem?_toArray] at hv
    have il : i < ns.length := by
      have := (List.getElem?_eq_some_iff.mp hv).1
      omega
    have e1 : (ns.map V.int)[i]? = some (.int (ns.getD i 0)) := by
      rw [List.getElem?_map, List.getElem?_eq_getElem il, List.getD_eq_getElem?_getD, List.getElem?_eq_getElem il]
      rfl
    obtain ⟨u, e2, e3⟩ := Vals.get rv e1
    rw [hv] at e2
    cases e2
    exact e3
  · have e : preSum (fun i => ns.getD i 0) is.toArray.size = ns.sum := by
      rw [List.size_toArray, ln, preSum_sum _ (Nat.le_refl _), List.take_length]
    rw [e]
    exact ⟨.int _, H, I.kept fun b o x => hk b o (fun z => by rw [List.mem_singleton.mp z] at x; exact absurd (Heap.lt_size x) (Nat.lt_irrefl _)) (Heap.get?_push_of_some _ x), ⟨_, rfl⟩, q⟩
theorem callr_or {X : Cx} {f : Value} {r1 r2 : List V → Hp → VK → Prop} (a : CallR X f r1) (b : CallR X f r2) : CallR X f (fun vs H Q => r1 vs H Q ∨ r2 vs H Q) :=
  fun pins s σ H vs us Q I r h => h.elim (a pins s σ H vs us Q I r) (b pins s σ H vs us Q I r)
abbrev rSumX (K : PySem.W.Frag) : List V → Hp → VK → Prop := fun vs H Q => rSum K vs H Q ∨ rSumT K vs H Q
theorem cr_sumX {X : Cx} (hc : X.calm = true) : CallR X (.builtin "sum") (rSumX X.K) := callr_or (cr_sum hc) (cr_sumT hc)
abbrev sumX : PyData → (PyData → Prop) → Prop
  | .list ds, Q => ∃ ns : List Int, ds = ns.map PyData.int ∧ Q (.int ns.sum)
  | .tuple ds, Q => ∃ ns : List Int, ds = ns.map PyData.int ∧ Q (.int ns.sum)
  | _, _ => False
theorem cs_sumX {K : PySem.W.Frag} : CallSnd K (rSumX K) (g1 sumX) := call1
  (fun x P P' h q => by cases x <;> first | exact let ⟨ns, e, z⟩ := q; ⟨ns, e, h _ z⟩ | exact q.elim)
  (fun {b S H v d Q P} al h q k => by
    cases d <;> first | exact q.elim | skip
    · obtain ⟨ns, rfl, q⟩ := q
      obtain ⟨p, vs, rfl, e, g⟩ := h.list
      rw [g.ints_inv] at e
      exact .inl ⟨p, ns, rfl, .inl (.inl e), k _ _ _ q (Evl.Ex.refl _) (.int _)⟩
    · obtain ⟨ns, rfl, q⟩ := q
      obtain ⟨p, vs, rfl, e, g⟩ := h.tuple
      rw [g.ints_inv] at e
      exact .inr ⟨p, ns, rfl, e, k _ _ _ q (Evl.Ex.refl _) (.int _)⟩)
end Dv
namespace Dv
open PySem PySem.Spec PyProof.Rows L2 Xg
open Classical
section
variable {K : PySem.W.Frag} {G : Addr → Prop} {H0 : Hp} {b0 b : Option Addr} {os : Nat → Option Addr} {m : Nat} {H : Hp} {σ : L2.St} {ρ : List Sl} {t : TS} {c : Nat} {f : FS}
/-! a list that was made is made no more: from here on it's a value like others -/
abbrev frz (i : Nat) (ρ : List Sl) : List Sl := match ρ[i]? with
  | some (.own ds) => ρ.set i (.dt (.list ds))
  | _ => ρ
abbrev sFrz (i : Nat) (f : FS) : FS := fun ρ E => f (frz i ρ) E
theorem Ok.frz {i : Nat} {ds : List PyData} (ok : Ok K G H0 b0 b os m H σ ρ) (hi : ρ[i]? = some (.own ds)) : ∃ os', Ok K G H0 b0 b os' m H σ (ρ.set i (.dt (.list ds))) ∧ Lk (SO G b os) H (SO G b os') H := by
  obtain ⟨p, vs, e1, e2, e3, e4, e5⟩ := ok.env.sl i _ hi
  obtain ⟨p', q1, q2⟩ := ok.slo i _ hi
  rw [e1] at q2
  cases q2
  have p0 := ok.new _ _ q1
  have sub : ∀ a, SO G b (fun j => if j = i then none else os j) a → SO G b os a := fun a h => by
    rcases h with h | h | ⟨j, h⟩
    · exact .inl h
    · exact .inr (.inl h)
    · refine .inr (.inr ⟨j, ?_⟩)
      dsimp only at h
      split at h
      · cases h
      · exact h
  have nS : ¬ SO G b (fun j => if j = i then none else os j) p := fun h => by
    rcases h with h | h | ⟨j, h⟩
    · exact ok.al0 p h p0
    · exact e3 h
    · dsimp only at h
      split at h
      · cases h
      · rename_i n
        exact n (ok.inj _ _ _ h q1)
  have ex : Evl.Ex (rm H (SO G b os)) (rm H (SO G b fun j => if j = i then none else os j)) := rm_sub sub
  refine ⟨fun j => if j = i then none else os j, ⟨⟨by rw [List.length_set]; exact ok.env.len, fun j s h => ?_, ok.env.bx, fun q e => .inr (.inl e), fun a h => ok.env.al a (sub a h)⟩, fun j k a h1 h2 => ?_, fun j a h => ?_, ok.old, ok.bn, ok.obx, fun j a h => ?_, fun j es h => ?_, ok.al0, ok.bG⟩, fun a o n h => ⟨h, fun z => n (sub a z)⟩⟩
  · rw [List.getElem?_set] at h
    by_cases z : i = j
    · subst z
      rw [if_pos rfl] at h
      split at h
      · cases h
        exact ⟨.ref p, e1, .lst (by rw [rm_out nS]; exact e4) (e5.mono ex)⟩
      · cases h
    · rw [if_neg z] at h
      have q := ok.env.sl j s h
      cases s with
      | no => trivial
      | dt d => exact let ⟨v, r1, g⟩ := q; ⟨v, r1, g.mono ex⟩
      | own ts =>
        obtain ⟨p3, us, r1, s3, n3, g3, k3⟩ := q
        obtain ⟨p4, w1, w2⟩ := ok.slo j _ h
        rw [r1] at w2
        cases w2
        exact ⟨p3, us, r1, .inr (.inr ⟨j, by show (if j = i then none else os j) = some p3; rw [if_neg fun w => z w.symm]; exact w1⟩), n3, g3, k3.mono ex⟩
      | box => exact q
      | scr ns => exact let ⟨v, r1, g⟩ := q; ⟨v, r1, Evl.ex_l ex g⟩
  · split at h1
    · cases h1
    · split at h2
      · cases h2
      · exact ok.inj _ _ _ h1 h2
  · split at h
    · cases h
    · exact ok.new _ _ h
  · split at h
    · cases h
    · exact ok.bo _ _ h
  · rw [List.getElem?_set] at h
    by_cases z : i = j
    · rw [if_pos z] at h
      split at h <;> cases h
    · rw [if_neg z] at h
      obtain ⟨p4, w1, w2⟩ := ok.slo j _ h
      exact ⟨p4, by show (if j = i then none else os j) = some p4; rw [if_neg fun w => z w.symm]; exact w1, w2⟩
theorem snds_frz {i : Nat} (a : SndS K t c f) : SndS K t c (sFrz i f) := by
  refine ⟨fun ρ E E' h q => a.mono _ _ _ h q, fun {G H0 b0 b os m H σ ρ D E} ok hm hf k => ?_⟩
  by_cases z : ∃ ds, ρ[i]? = some (.own ds)
  · obtain ⟨ds, e⟩ := z
    obtain ⟨os', ok1, l⟩ := ok.frz e
    refine a.go ok1 hm ?_ (k.from l)
    have z : Dv.frz i ρ = ρ.set i (.dt (.list ds)) := by
      unfold Dv.frz
      rw [e]
    rw [← z]
    exact hf
  · refine a.go ok hm ?_ k
    have z : Dv.frz i ρ = ρ := by
      unfold Dv.frz
      split
      · rename_i ds e
        exact absurd ⟨ds, e⟩ z
      · rfl
    rw [← z]
    exact hf
/-- a, b = e, a new list -/
abbrev sParP (i j : Nat) (fa : FE) (fb : FD) : FS := fun ρ E => fa ρ fun x => fb ρ fun y => E.nx ((ρ.set i (.dt x)).set j (.own y))
theorem snds_parP {i j : Nat} {ta tb : TE} {ca cb : Nat} {fa : FE} {fl : FD} (a : Snd true K ta ca fa) (r : SndL K tb cb fl) : SndS K (tPar i j (tCons ta (tCons tb tNil))) (ca + cb) (sParP i j fa fl) :=
  ⟨fun ρ E E' h q => a.mono _ _ _ (fun x => r.mono _ _ _ fun y => h.nx _) q, fun {G H0 b0 b os m H σ ρ D E} ok hm hf k => a.go ok.env (by omega) hf fun dx v H1 p st bx vd => by
    have ok1 := ok.step st bx (by omega)
    refine r.go ok1.env (by omega) p fun dy xs w H2 p2 np st2 bx2 e g => ⟨v, .ref w, rfl, ?_⟩
    have k1 := ok1.kpt (ok1.env.set (i := i) (s := .dt dx) fun z e => ⟨_, e, vd⟩) (kpt_set (vs := [i]) (by simp))
    obtain ⟨o2, l2⟩ := k1.own (i := j) (n := m + ca + cb) np st2 bx2 (by omega) e g
    exact k.nx _ _ _ _ _ p2 (o2.le (by omega)) ((Lk.step st ok.env.bs).trans l2)⟩
/-! x is True, x is not False -/
abbrev gIsB : GB
  | .bool x, .bool y, Q => Q (.bool (decide (x = y)))
  | _, _, _ => False
abbrev gIsNotB : GB
  | .bool x, .bool y, Q => Q (.bool (!decide (x = y)))
  | _, _, _ => False
theorem ops_isB : OpSnd K (fun x y H Q => ∃ a b, x = .bl a ∧ y = .bl b ∧ Q (.bl (decide (a = b))) H) gIsB := ⟨fun x y P P' h q => by
    cases x <;> cases y <;> first | exact h _ q | exact q.elim, fun {b S H x y dx dy Q P} al hx hy q k => by
    cases dx <;> cases dy <;> first | exact q.elim | skip
    exact ⟨_, _, hx.bool, hy.bool, k _ _ _ q (Evl.Ex.refl _) (.bl _)⟩⟩
theorem ops_isnotB : OpSnd K (fun x y H Q => ∃ a b, x = .bl a ∧ y = .bl b ∧ Q (.bl (!decide (a = b))) H) gIsNotB := ⟨fun x y P P' h q => by
    cases x <;> cases y <;> first | exact h _ q | exact q.elim, fun {b S H x y dx dy Q P} al hx hy q k => by
    cases dx <;> cases dy <;> first | exact q.elim | skip
    exact ⟨_, _, hx.bool, hy.bool, k _ _ _ q (Evl.Ex.refl _) (.bl _)⟩⟩
end
end Dv
/-! a tuple backwards: t[::-1], t[:0:-1] -/
namespace Sv
open PySem PySem.Spec PyProof.Rows L2 HT
theorem fm_congr {α β : Type} {f g : α → Option β} : ∀ {l : List α}, (∀ x ∈ l, f x = g x) → l.filterMap f = l.filterMap g
  | [], _ => rfl
  | a :: l, h => by
    rw [List.filterMap_cons, List.filterMap_cons, h a (List.mem_cons_self ..), fm_congr fun x m => h x (List.mem_cons_of_mem _ m)]
theorem fm_self {α : Type} : ∀ l : List α, (List.range l.length).filterMap (fun m => l[m]?) = l
  | [] => rfl
  | a :: l => by
    rw [List.length_cons, List.range_succ_eq_map, List.filterMap_cons, List.filterMap_map]
    show a :: (List.range l.length).filterMap (fun m => (a :: l)[m + 1]?) = a :: l
    rw [show (fun m => (a :: l)[m + 1]?) = (fun m => l[m]?) from rfl, fm_self l]
/-- up to where: nothing said, or 0 -/
def Upto (hi : Option Int) (d : Nat) : Prop := (hi = none ∧ d = 0) ∨ (hi = some 0 ∧ d = 1)
theorem adj {hi : Option Int} {d n : Nat} (u : Upto hi d) : ∃ b, Builtin.Slice.sliceAdjust none hi (-1) (n : Int) = ((n : Int) - 1, b) ∧ Builtin.Slice.slicePlaces ((n : Int) - 1) b (-1) = n - d := by
  rcases u with ⟨rfl, rfl⟩ | ⟨rfl, rfl⟩
  · refine ⟨-1, rfl, ?_⟩
    unfold Builtin.Slice.slicePlaces
    rw [if_neg (by decide), show (-(-1 : Int)) = 1 by decide, Int.ediv_one]
    split <;> omega
  · refine ⟨min 0 ((n : Int) - 1), rfl, ?_⟩
    unfold Builtin.Slice.slicePlaces
    rw [if_neg (by decide), show (-(-1 : Int)) = 1 by decide, Int.ediv_one]
    split <;> omega
theorem pk (xs : Array Value) (d : Nat) : ((List.range (xs.size - d)).filterMap fun (m : Nat) => xs[(((xs.size : Nat) : Int) - 1 + (m : Int) * (-1)).toNat]?).toArray = ((xs.toList.drop d).reverse).toArray := by
  congr 1
  have l : ((xs.toList.drop d).reverse).length = xs.size - d := by
    rw [List.length_reverse, List.length_drop, Array.length_toList]
  have e := fm_self ((xs.toList.drop d).reverse)
  rw [l] at e
  refine Eq.trans (fm_congr fun m hm => ?_) e
  have hm := List.mem_range.mp hm
  have z : (((xs.size : Nat) : Int) - 1 + (m : Int) * (-1)).toNat = xs.size - 1 - m := by omega
  rw [z, List.getElem?_reverse (by rw [List.length_drop, Array.length_toList]; exact hm), List.getElem?_drop, List.length_drop, Array.length_toList, ← Array.getElem?_toList]
  congr 1
  omega
section
variable {prog : Program} {w : World} {A : Around} {E : Value → Shared → Prop} {s : Shared}
theorem ap {sl : Addr} {vl vu vs : Value} {hi : Option Int} {d n : Nat} {Q : Int × Int × Nat → Shared → Prop} (u : Upto hi d) (hs : s.heap.IsSliceOf sl vl vu vs) (pl : IsPart vl none) (pu : IsPart vu hi) (ps : IsPart vs (some (-1)))
    (q : Q ((n : Int) - 1, -1, n - d) s) : wpAny (model prog w) A (Builtin.Slice.sliceApplied (.ref sl) (pure (n : Int))) Q E s := by
  obtain ⟨os, h1, h2, h3⟩ := id hs
  unfold Builtin.Slice.sliceApplied Builtin.Slice.sliceFields
  refine wpAny_bind (wpAny_bind (wpAny_field h1 h3 (x := vl) rfl (wpAny_bind (wpAny_field h1 h3 (x := vu) rfl (wpAny_bind (wpAny_field h1 h3 (x := vs) rfl (wpAny_pure ?_)))))))
  refine wpAny_bind (slicePart_ ps ?_)
  show wpAny _ _ (if ((-1 : Int) == 0) = true then _ else _) _ _ s
  rw [if_neg (by decide)]
  refine wpAny_bind (slicePart_ pl (wpAny_bind (slicePart_ pu (wpAny_bind (wpAny_pure ?_)))))
  obtain ⟨b, g1, g2⟩ := adj (n := n) u
  show wpAny _ _ (match Builtin.Slice.sliceAdjust none hi (-1) (n : Int) with | (lo, hi) => pure (lo, (-1 : Int), Builtin.Slice.slicePlaces lo hi (-1))) _ _ s
  rw [g1]
  show wpAny _ _ (pure ((n : Int) - 1, (-1 : Int), Builtin.Slice.slicePlaces ((n : Int) - 1) b (-1))) _ _ s
  rw [g2]
  exact wpAny_pure q
theorem gi {t sl : Addr} {xs : Array Value} {vl vu vs : Value} {hi : Option Int} {d : Nat} {Q : Value → Shared → Prop} (u : Upto hi d) (ht : IsTup s.heap t xs) (hs : s.heap.IsSliceOf sl vl vu vs) (pl : IsPart vl none) (pu : IsPart vu hi) (ps : IsPart vs (some (-1)))
    (q : Q (.ref s.heap.objs.size) { s with heap := s.heap.push { cls := .type "tuple", data := .seq ((xs.toList.drop d).reverse).toArray } }) (hz : xs.size ≤ sizeLine) : wpAny (model prog w) A (getItem (.ref t) (.ref sl)) Q E s := by
  have fit : sizeOk (.seq ((xs.toList.drop d).reverse).toArray) := by
    show ((xs.toList.drop d).reverse).toArray.size ≤ sizeLine
    rw [List.size_toArray, List.length_reverse, List.length_drop, Array.length_toList]
    omega
  obtain ⟨os, h1, h2, h3⟩ := id hs
  have tS : s.TypeIs (.ref sl) "slice" := ⟨os, h1, h2⟩
  unfold getItem
  try with_reducible refine wpAny_holding ?_
  first | refine wpAny_bind (wpAny_pure ?_) | skip
  refine wpAny_bind (wpAny_sequenceKey (IsTup.typeIs ht) (by decide) ?_)
  refine wpAny_bind (wpAny_callSpecial?_slot (name := Str.ofString "__getitem__") (IsTup.typeIs ht) slot_tuple_getitem (wpAny_call_entry slot_tuple_getitem (IsTup.typeIs ht) entry_tuple_getitem ?_ (args_tuple_getitem _ _)))
  show wpAny _ _ (Builtin.Tuple.tupleItemsOf (.ref t) >>= _) _ _ s
  refine wpAny_bind (tupleItemsOf_ ht (wpAny_bind (wpAny_typeOf tS ?_)))
  rw [if_pos (by decide)]
  refine wpAny_bind (ap u hs pl pu ps ?_)
  have no : ¬ (((((xs.size : Nat) : Int) - 1) == 0 && (-1 : Int) == 1 && (xs.size - d) == xs.size) = true) := fun z => by
    rw [Bool.and_eq_true, Bool.and_eq_true] at z
    exact absurd (eq_of_beq z.1.2) (by decide)
  show wpAny _ _ (if ((((xs.size : Nat) : Int) - 1) == 0 && (-1 : Int) == 1 && (xs.size - d) == xs.size) = true then _ else _) _ _ s
  rw [if_neg no, pk]
  first
    | exact wpAny_bind (m := Builtin.Tuple.tupleExact _) (wpAny_newObj_type (wpAny_pure ⟨_, rfl, wpAny_pure q⟩) fit)
    | exact wpAny_bind (m := Builtin.Tuple.tupleExact _) (wpAny_newObj_type (wpAny_bind (wpAny_pure (wpAny_pure ⟨_, rfl, wpAny_pure q⟩))) fit)
    | exact wpAny_bind (wpAny_bind (m := Builtin.Tuple.tupleExact _) (wpAny_newObj_type (wpAny_pure (wpAny_pure ⟨_, rfl, wpAny_pure q⟩)) fit))
    | exact wpAny_bind (wpAny_bind (m := Builtin.Tuple.tupleExact _) (wpAny_newObj_type (wpAny_pure ⟨_, rfl, wpAny_pure q⟩) fit))
end
/-- t backwards, without its first d parts -/
def tBack (K : PySem.W.Frag) (d : Nat) (te : TE) : TE := fun σ H Q => te σ H fun x H1 => ∃ a xs, x = .ref a ∧ SqT K H1 a xs ∧ ∀ p, H1 p = none → Q (.ref p) (upd H1 p (.tup (xs.drop d).reverse))
section
variable {X : Cx}
theorem pe_back {e : Expr} {eh : Option Expr} {te : TE} {th : TO} {hi : Option Int} {d k : Nat} {p1 p2 p3 pos : Pos} (u : Upto hi d) (he : PE X e te) (hh : PO X eh th) (hv : ∀ σ H (Q : Option Int → Hp → Prop), Q hi H → th σ H Q) :
    PE X (.Subscript e (.Slice none eh (some (.UnaryOp .USub (.Constant (.int 1) k p1) p2)) p3) pos) (tBack X.K d te) := by
  refine ⟨fun pins s σ H Q I h => Subscript_ (thn (he.run pins s σ H _ I h) fun v s1 ⟨x, H1, I1, r1, q1⟩ => ?_)⟩
  obtain ⟨a, xs, ex, hx, q⟩ := q1
  subst ex
  cases r1
  have one : PO X (some (.UnaryOp .USub (.Constant (.int 1) k p1) p2)) (tPart (tUn (rU fun i => .int (-i)) (tC (.int 1)))) := po_some (pe_un un_neg pe_int)
  refine wpAny_Slice (thn (po_none.run pins s1 σ H1 (fun o H2 => o = none ∧ H2 = H1) I1 ⟨rfl, rfl⟩) fun vl s2 ⟨l, H2, I2, pl, el, e2⟩ => ?_)
  subst el e2
  refine thn (hh.run pins s2 σ H2 (fun o H3 => o = hi ∧ H3 = H2) I2 (hv _ _ _ ⟨rfl, rfl⟩)) fun vu s3 ⟨u3, H3, I3, pu, eu, e3⟩ => ?_
  subst eu e3
  refine thn (one.run pins s3 σ H3 (fun o H4 => o = some (-1) ∧ H4 = H3) I3 ⟨1, rfl, -1, rfl, rfl, rfl⟩) fun vs s4 ⟨o, H4, I4, ps, eo, e4⟩ => ?_
  subst eo e4
  have I5 : Inv X pins σ H4 { s4 with heap := s4.heap.push { cls := .type "slice", data := .fields #[vl, vu, vs] } } := I4.kept (t' := s4.toks) fun b ob z => Heap.get?_push_of_some _ z
  obtain ⟨its, r, ht, hz⟩ := I5.tuple hx
  have ln := r.length
  show wpAny (model X.prog X.w) X.A (subscriptTail e _ (.ref a) (.ref s4.heap.objs.size)) (EP X pins σ Q) X.xe { s4 with heap := s4.heap.push { cls := .type "slice", data := .fields #[vl, vu, vs] } }
  refine tail_any (ops := [.ref a, .ref s4.heap.objs.size]) (IsTup.typeIs ht) (slot_tuple_getitem.lookup) ?_ (by with_unfolding_all rfl)
  refine gi u ht (Heap.IsSliceOf.new _ vl vu vs) pl pu ps ?_ (by rw [List.size_toArray]; omega)
  refine ⟨.ref _, _, I5.laid (t' := s4.toks) (o := .tup (xs.drop d).reverse) (fun b ob z => Heap.get?_push_of_some _ z) (Nat.le_refl _) ?_, rfl, q _ (I5.hok.fresh (Nat.le_refl _))⟩
  exact ⟨by rw [List.length_reverse, List.length_drop]; omega, _, (r.drop d).reverse, IsTup.new _ _⟩
theorem pe_back0 {e : Expr} {te : TE} {k : Nat} {p1 p2 p3 pos : Pos} (he : PE X e te) : PE X (.Subscript e (.Slice none none (some (.UnaryOp .USub (.Constant (.int 1) k p1) p2)) p3) pos) (tBack X.K 0 te) :=
  pe_back (hi := none) (.inl ⟨rfl, rfl⟩) he po_none fun _ _ _ q => q
theorem pe_back1 {e : Expr} {te : TE} {k k0 : Nat} {p0 p1 p2 p3 pos : Pos} (he : PE X e te) : PE X (.Subscript e (.Slice none (some (.Constant (.int 0) k0 p0)) (some (.UnaryOp .USub (.Constant (.int 1) k p1) p2)) p3) pos) (tBack X.K 1 te) :=
  pe_back (hi := some 0) (.inr ⟨rfl, rfl⟩) he (po_some pe_int) fun _ _ _ q => ⟨0, rfl, q⟩
end
end Sv
namespace Dv
open PySem PySem.Spec PyProof.Rows L2 Xg
open Classical
section
variable {K : PySem.W.Frag} {md : Bool} {ta : TE} {ca : Nat} {fa : FE}
/-! a tuple backwards, without its first d parts -/
abbrev bkD (d : Nat) (Q : PyData → Prop) : PyData → Prop
  | .tuple ds => Q (.tuple (ds.drop d).reverse)
  | _ => False
abbrev eBack (d : Nat) (f : FE) : FE := fun ρ Q => f ρ (bkD d Q)
theorem bkD_mono {d : Nat} {P P' : PyData → Prop} (h : ∀ k, P k → P' k) : ∀ x, bkD d P x → bkD d P' x := fun x g => by
  cases x <;> first | exact h _ g | exact g.elim
theorem snd_back {d : Nat} (a : Snd md K ta ca fa) : Snd true K (Sv.tBack K d ta) ca (eBack d fa) := mk_snd
  (fun ρ P P' h q => a.mono _ _ _ (bkD_mono h) q)
  (fun E hm hf k => a.go E hm hf fun x v H1 h1 s1 b1 d1 => by
    cases x with
    | tuple ds =>
      obtain ⟨p, vs, rfl, e, g⟩ := d1.vw.tuple
      exact ⟨p, vs, rfl, e, fun q nq => k _ _ _ h1 (s1.trans (Stp.ex (Evl.Ex.new nq))) (b1.ex (Evl.Ex.new nq)) (new_tup (E.step s1 b1).al nq (g.drop d).rev)⟩
    | _ => exact h1.elim)
/-- a, b = [], [] -/
abbrev sPar00 (i j : Nat) : FS := fun ρ E => E.nx ((ρ.set i (.own [])).set j (.own []))
theorem snds_par00 {i j : Nat} : SndS K (tPar i j (tCons (tLst tNil) (tCons (tLst tNil) tNil))) 0 (sPar00 i j) :=
  ⟨fun ρ E E' h q => h.nx _ q, fun {G H0 b0 b os m H σ ρ D E} ok hm hf k => ⟨Nat.zero_le _, fun p np => ⟨Nat.zero_le _, fun r nr => ⟨.ref p, .ref r, rfl, by
    obtain ⟨o1, l1⟩ := ok.own (i := i) (n := m) np (Stp.ex (Evl.Ex.new np)) (ok.env.bx.ex (Evl.Ex.new np)) (Nat.le_refl _) upd_same .nil
    obtain ⟨o2, l2⟩ := o1.own (i := j) (n := m) nr (Stp.ex (Evl.Ex.new nr)) (o1.env.bx.ex (Evl.Ex.new nr)) (Nat.le_refl _) upd_same .nil
    exact k.nx _ _ _ _ _ hf (o2.le (by omega)) (l1.trans l2)⟩⟩⟩⟩
end
end Dv
namespace Dv
open PySem PySem.Spec PyProof.Rows L2 Xg
open Classical
section
variable {K : PySem.W.Frag} {ta tb tc : TE} {ca cb cc : Nat} {fa fb fc : FE}
/-! a, b, c = e1, e2, e3 -/
abbrev sPar3 (i j l : Nat) (fa fb fc : FE) : FS := fun ρ E => fa ρ fun x => fb ρ fun y => fc ρ fun z => E.nx (((ρ.set i (.dt x)).set j (.dt y)).set l (.dt z))
theorem snds_par3 {i j l : Nat} (a : Snd true K ta ca fa) (r : Snd true K tb cb fb) (u : Snd true K tc cc fc) : SndS K (tPar3 i j l (tCons ta (tCons tb (tCons tc tNil)))) (ca + (cb + cc)) (sPar3 i j l fa fb fc) :=
  ⟨fun ρ E E' h q => a.mono _ _ _ (fun x => r.mono _ _ _ fun y => u.mono _ _ _ fun z => h.nx _) q, fun ok hm hf k => a.go ok.env (by omega) hf fun dx v H1 p st bx vd => by
    have ok1 := ok.step st bx (by omega)
    refine r.go ok1.env (by omega) p fun dy w H2 p2 st2 bx2 vd2 => ?_
    have ok2 := ok1.step st2 bx2 (by omega)
    refine u.go ok2.env (by omega) p2 fun dz w3 H3 p3 st3 bx3 vd3 => ⟨v, w, w3, rfl, ?_⟩
    have ok3 := ok2.step st3 bx3 (by omega)
    have k1 := ok3.kpt (ok3.env.set (i := i) (s := .dt dx) fun z e => ⟨_, e, Da.mono (st3.rm ok.env.bs) (Da.mono (st2.rm ok.env.bs) vd)⟩) (kpt_set (vs := [i]) (by simp))
    have k2 := k1.kpt (k1.env.set (i := j) (s := .dt dy) fun z e => ⟨_, e, Da.mono (st3.rm ok.env.bs) vd2⟩) (kpt_set (vs := [j]) (by simp))
    have k3 := k2.kpt (k2.env.set (i := l) (s := .dt dz) fun z e => ⟨_, e, vd3⟩) (kpt_set (vs := [l]) (by simp))
    exact k.nx _ _ _ _ _ p3 (k3.le (by omega)) (((Lk.step st ok.env.bs).trans (Lk.step st2 ok.env.bs)).trans (Lk.step st3 ok.env.bs))⟩
end
end Dv
/-! enumerate(zip(x, y)) -/
namespace Ez
open PySem PySem.Spec PyProof.Rows L2 Zq
open PySem.Sem (wp)
open AutoSeq1 (wpAny_loadPart')
/-- a zip, whatever it last gave out -/
abbrev ZpF (g : Heap) (z S T : Addr) (v : Value) (f : Bool) : Prop := g.get? z = some { cls := .type "zip", dict := none, data := .fields #[v, .bool f, .bool false, .ref S, .ref T], slots := #[] }
def Og (v : Value) : Prop := v = .none ∨ ∃ a : Nat, v = rawInt a
structure ZS (t u : Bool) (g : Heap) (z S T p1 p2 a b : Addr) (i : Nat) : Prop where
  zp : ∃ v f, Og v ∧ ZpF g z S T v f
  S0 : IsPair g S (.ref p1) (.ref p2)
  T0 : ∃ x y, IsPair g T x y
  f1 : itK t g p1 a i
  f2 : itK u g p2 b i
section
variable {prog : Program} {w : World} {A : Around} {E : Value → Shared → Prop} {s : Shared}
theorem alive {a : Addr} {Q : Option Obj → Shared → Prop} (q : Q (s.heap.get? a) s) : wpAny (model prog w) A (loadIfAlive a) Q E s := fun _ _ _ => q
theorem isFree {z S T : Addr} {v : Value} {f : Bool} {Q : Bool → Shared → Prop} (og : Og v) (z0 : ZpF s.heap z S T v f) (yes : Q true s) (no : ∀ g, ZpF g z S T v true → Heap.SameBut z s.heap g → Q false { s with heap := g }) :
    wpAny (model prog w) A (Builtin.SmallTypes.ownedTupleIsFree (.ref z)) Q E s := by
  unfold Builtin.SmallTypes.ownedTupleIsFree
  rcases og with rfl | ⟨a, rfl⟩
  · exact wpAny_bind (wpAny_field z0 rfl (x := .none) rfl (wpAny_pure yes))
  · refine wpAny_bind (wpAny_field z0 rfl (x := rawInt a) rfl ?_)
    show wpAny _ _ (loadIfAlive ((a : Int).toNat) >>= fun _ => _) _ _ _
    rw [Int.toNat_natCast]
    refine wpAny_bind (alive ?_)
    cases e : s.heap.get? a with
    | none =>
      simp only [Option.isNone_none, if_true]
      exact wpAny_pure yes
    | some o =>
      simp only [Option.isNone_some, Bool.false_eq_true, if_false]
      refine wpAny_bind (wpAny_field z0 rfl (x := .bool f) rfl ?_)
      cases f with
      | true =>
        rw [if_neg (show ¬ ((Value.bool true != Value.bool true) = true) from fun h => nomatch h)]
        exact wpAny_pure (no _ z0 (Heap.SameBut.refl _ _))
      | false =>
        rw [if_pos (show (Value.bool false != Value.bool true) = true from rfl)]
        exact wpAny_bind (wpAny_setField_rec z0 (by simp) fun g1 z1 k1 => wpAny_pure (no g1 z1 k1))
theorem zn_item {t u : Bool} {z S T p1 p2 l1 l2 : Addr} {i : Nat} {xs ys : Array Value} {x y : Value} {Q : Value → Shared → Prop} (D : ZipApart z S T p1 p2 l1 l2) (st : ZS t u s.heap z S T p1 p2 l1 l2 i)
    (m1 : sqK t s.heap l1 xs) (m2 : sqK u s.heap l2 ys) (hx : xs[i]? = some x) (hy : ys[i]? = some y)
    (q : ∀ g, ZS t u g z S T p1 p2 l1 l2 (i + 1) → IsPair g s.heap.objs.size x y → g.objs.size = s.heap.objs.size + 1 → Stay s.heap g z T p1 p2 → Q (.ref s.heap.objs.size) { s with heap := g }) :
    wpAny (model prog w) A (Builtin.«zip.__next__» ⟨[.ref z], []⟩) (fun r s' => ∃ v, r = .done (.ret v) ∧ Q v s') E s := by
  obtain ⟨⟨v, f, og, z0⟩, S0, ⟨a, b, T0⟩, f1, f2⟩ := st
  show wpAny _ _ (field (.ref z) 2 >>= fun _ => _) _ _ _
  refine wpAny_bind (wpAny_field z0 rfl (x := .bool false) rfl ?_)
  show wpAny _ _ (field (.ref z) 3 >>= fun _ => _) _ _ _
  refine wpAny_bind (wpAny_field z0 rfl (x := .ref S) rfl (wpAny_bind (wpAny_seqItems S0 rfl ?_)))
  show wpAny _ _ (Builtin.SmallTypes.ownedTupleIsFree (.ref z) >>= fun _ => _) _ _ _
  refine wpAny_bind (isFree og z0 ?_ fun g1 z1 k1 => ?_)
  · simp only [if_true]
    refine wpAny_bind (wpAny_rule (wpAny_bind (wpAny_field z0 rfl (x := .ref T) rfl (wpAny_bind (wpAny_setField_rec z0 (by simp) fun g1 z1 k1 => ?_)))))
    replace z1 : ZpF g1 z S T .ellipsis f := z1
    refine wpAny_bind ?_
    simp only [List.zipIdx_cons, List.zipIdx_nil, List.forIn_cons, List.forIn_nil]
    refine wpAny_bind (wpAny_bind (wpAny_onRaise ?_))
    show wpAny _ _ (Builtin.SmallTypes.nextOf (.ref p1) >>= fun _ => _) _ _ _
    refine wpAny_bind (nx_item (it_ext f1 k1.extBut D.i1z) (sq_ext m1 k1.extBut D.l1z) hx fun g2 f1b k2 => wpAny_pure ?_)
    have T2 : IsPair g2 T a b := k2.extBut _ _ D.TOi1 (k1.extBut _ _ D.TOz T0)
    refine wpAny_bind (wpAny_seqItems T2 rfl (wpAny_bind (wpAny_updateSeq_pair T2 fun g3 T3 k3 => ?_)))
    replace T3 : IsPair g3 T x b := T3
    refine wpAny_bind (wpAny_letGo (wpAny_pure (wpAny_bind (wpAny_bind (wpAny_onRaise ?_)))))
    show wpAny _ _ (Builtin.SmallTypes.nextOf (.ref p2) >>= fun _ => _) _ _ _
    have f2c := it_ext (it_ext (it_ext f2 k1.extBut D.i2z) k2.extBut D.i12.symm) k3.extBut D.TOi2.symm
    have m2c := sq_ext (sq_ext (sq_ext m2 k1.extBut D.l2z) k2.extBut D.l2i1) k3.extBut D.l2TO
    refine wpAny_bind (nx_item f2c m2c hy fun g4 f2d k4 => wpAny_pure ?_)
    have T4 : IsPair g4 T x b := k4.extBut _ _ D.TOi2 T3
    refine wpAny_bind (wpAny_seqItems T4 rfl (wpAny_bind (wpAny_updateSeq_pair T4 fun g5 T5 k5 => ?_)))
    replace T5 : IsPair g5 T x y := T5
    refine wpAny_bind (wpAny_letGo (wpAny_pure (wpAny_pure (wpAny_bind (wpAny_seqItems T5 rfl (wpAny_bind (wpAny_newTuple ?_)))))))
    have n5 : g5.objs.size = s.heap.objs.size := by rw [k5.1, k4.1, k3.1, k2.1, k1.1]
    have z5 : ZpF g5 z S T .ellipsis f := k5.extBut _ _ D.TOz.symm (k4.extBut _ _ D.i2z.symm (k3.extBut _ _ D.TOz.symm (k2.extBut _ _ D.i1z.symm z1)))
    have st5 : Stay s.heap g5 z T p1 p2 := fun c o c1 c2 c3 c4 e => k5.extBut _ _ c2 (k4.extBut _ _ c4 (k3.extBut _ _ c2 (k2.extBut _ _ c3 (k1.extBut _ _ c1 e))))
    have f15 : itK t g5 p1 l1 (i + 1) := it_ext (it_ext (it_ext f1b k3.extBut D.TOi1.symm) k4.extBut D.i12) k5.extBut D.TOi1.symm
    have f25 : itK u g5 p2 l2 (i + 1) := it_ext f2d k5.extBut D.TOi2.symm
    have ltz : z < g5.objs.size := Heap.lt_size z5
    show wpAny _ _ (Builtin.SmallTypes.ownedTupleHandOut (.ref z) (.ref g5.objs.size) >>= fun _ => _) _ _ _
    refine wpAny_bind ?_
    unfold Builtin.SmallTypes.ownedTupleHandOut
    have z6 : ZpF (g5.push { cls := .type "tuple", data := .seq #[x, y] }) z S T .ellipsis f := Heap.get?_push_of_some _ z5
    refine wpAny_bind (wpAny_setField_rec z6 (by simp) fun g7 z7 k7 => ?_)
    replace z7 : ZpF g7 z S T (rawInt g5.objs.size) f := z7
    refine wpAny_setField_rec z7 (by simp) fun g8 z8 k8 => ?_
    replace z8 : ZpF g8 z S T (rawInt g5.objs.size) false := z8
    have on : ∀ c o, c ≠ z → g5.get? c = some o → g8.get? c = some o := fun c o c1 e => k8.extBut _ _ c1 (k7.extBut _ _ c1 (Heap.get?_push_of_some _ e))
    have W8 : IsPair g8 g5.objs.size x y := k8.extBut _ _ (Nat.ne_of_gt ltz) (k7.extBut _ _ (Nat.ne_of_gt ltz) (Heap.get?_push_size _ rfl))
    have n8 : g8.objs.size = g5.objs.size + 1 := by rw [k8.1, k7.1, Heap.size_push]
    rw [n5] at W8 n8
    have sy : Stay s.heap g8 z T p1 p2 := fun c o c1 c2 c3 c4 e => on c o c1 (st5 c o c1 c2 c3 c4 e)
    refine wpAny_pure ⟨.ref g5.objs.size, rfl, ?_⟩
    rw [n5]
    exact q g8 ⟨⟨_, _, .inr ⟨_, rfl⟩, z8⟩, sy _ _ D.TIz D.TITO D.TIi1 D.TIi2 S0, ⟨x, y, on _ _ D.TOz T5⟩, it_at f15 fun o e => on _ o D.i1z e, it_at f25 fun o e => on _ o D.i2z e⟩ W8 n8 sy
  · simp only [Bool.false_eq_true, if_false]
    refine wpAny_bind ?_
    rw [← Array.forIn_toList]
    simp only [List.forIn_cons, List.forIn_nil]
    refine wpAny_bind (wpAny_bind (wpAny_holding ?_))
    show wpAny _ _ (Builtin.SmallTypes.nextOf (.ref p1) >>= fun _ => _) _ _ _
    refine wpAny_bind (nx_item (s := { s with heap := g1 }) (it_ext f1 k1.extBut D.i1z) (sq_ext m1 k1.extBut D.l1z) hx fun g2 f1b k2 => wpAny_pure (wpAny_pure (wpAny_bind (wpAny_bind (wpAny_holding ?_)))))
    show wpAny _ _ (Builtin.SmallTypes.nextOf (.ref p2) >>= fun _ => _) _ _ _
    refine wpAny_bind (nx_item (s := { s with heap := g2 }) (it_ext (it_ext f2 k1.extBut D.i2z) k2.extBut D.i12.symm) (sq_ext (sq_ext m2 k1.extBut D.l2z) k2.extBut D.l2i1) hy fun g3 f2c k3 => wpAny_pure (wpAny_pure (wpAny_pure ?_)))
    show wpAny _ _ (newTuple [x, y] >>= fun _ => _) _ _ _
    refine wpAny_bind (wpAny_newTuple ?_)
    have n3 : g3.objs.size = s.heap.objs.size := by rw [k3.1, k2.1, k1.1]
    have z3 : ZpF g3 z S T v true := k3.extBut _ _ D.i2z.symm (k2.extBut _ _ D.i1z.symm z1)
    have sy3 : ∀ c o, c ≠ z → c ≠ p1 → c ≠ p2 → s.heap.get? c = some o → g3.get? c = some o := fun c o c1 c2 c3 e => k3.extBut _ _ c3 (k2.extBut _ _ c2 (k1.extBut _ _ c1 e))
    have f13 : itK t g3 p1 l1 (i + 1) := it_ext f1b k3.extBut D.i12
    refine wpAny_pure ⟨_, rfl, ?_⟩
    show Q (.ref g3.objs.size) _
    have W4 : IsPair (g3.push { cls := .type "tuple", data := .seq #[x, y] }) g3.objs.size x y := Heap.get?_push_size _ rfl
    have n4 : (g3.push { cls := .type "tuple", data := .seq #[x, y] }).objs.size = g3.objs.size + 1 := Heap.size_push ..
    rw [n3] at W4 n4 ⊢
    exact q _ ⟨⟨_, _, og, Heap.get?_push_of_some _ z3⟩, Heap.get?_push_of_some _ (sy3 _ _ D.TIz D.TIi1 D.TIi2 S0), ⟨a, b, Heap.get?_push_of_some _ (sy3 _ _ D.TOz D.TOi1 D.TOi2 T0)⟩, it_at f13 fun o e => Heap.get?_push_of_some _ e, it_at f2c fun o e => Heap.get?_push_of_some _ e⟩ W4 n4
      fun c o c1 _ c3 c4 e => Heap.get?_push_of_some _ (sy3 c o c1 c3 c4 e)
theorem zn_end {t u : Bool} {z S T p1 p2 l1 l2 : Addr} {i : Nat} {xs ys : Array Value} {Q : Fin → Shared → Prop} (hh : A.handled = none) (D : ZipApart z S T p1 p2 l1 l2) (st : ZS t u s.heap z S T p1 p2 l1 l2 i)
    (m1 : sqK t s.heap l1 xs) (m2 : sqK u s.heap l2 ys) (he : xs[i]? = none ∨ ys[i]? = none)
    (q : ∀ g e, Stay s.heap g z T p1 p2 → (∃ o, g.get? e = some o ∧ o.cls = .type "StopIteration") → E (.ref e) { s with heap := g }) : wpAny (model prog w) A (Builtin.«zip.__next__» ⟨[.ref z], []⟩) Q E s := by
  obtain ⟨⟨v, f, og, z0⟩, S0, ⟨a, b, T0⟩, f1, f2⟩ := st
  show wpAny _ _ (field (.ref z) 2 >>= fun _ => _) _ _ _
  refine wpAny_bind (wpAny_field z0 rfl (x := .bool false) rfl ?_)
  show wpAny _ _ (field (.ref z) 3 >>= fun _ => _) _ _ _
  refine wpAny_bind (wpAny_field z0 rfl (x := .ref S) rfl (wpAny_bind (wpAny_seqItems S0 rfl ?_)))
  show wpAny _ _ (Builtin.SmallTypes.ownedTupleIsFree (.ref z) >>= fun _ => _) _ _ _
  refine wpAny_bind (isFree og z0 ?_ fun g1 z1 k1 => ?_)
  · simp only [if_true]
    refine wpAny_bind (wpAny_rule (wpAny_bind (wpAny_field z0 rfl (x := .ref T) rfl (wpAny_bind (wpAny_setField_rec z0 (by simp) fun g1 z1 k1 => ?_)))))
    replace z1 : ZpF g1 z S T .ellipsis f := z1
    refine wpAny_bind ?_
    simp only [List.zipIdx_cons, List.zipIdx_nil, List.forIn_cons, List.forIn_nil]
    refine wpAny_bind (wpAny_bind (wpAny_onRaise ?_))
    show wpAny _ _ (Builtin.SmallTypes.nextOf (.ref p1) >>= fun _ => _) _ _ _
    have f1a := it_ext f1 k1.extBut D.i1z
    have m1a := sq_ext m1 k1.extBut D.l1z
    cases hx : xs[i]? with
    | none =>
      refine wpAny_bind (nx_end hh f1a m1a hx fun g2 e k2 ⟨o, eo, ec⟩ => ?_)
      have z2 : ZpF g2 z S T .ellipsis f := k2 _ _ D.i1z.symm z1
      have ne : e ≠ z := fun c => by rw [c, z2] at eo; cases eo; simp at ec
      exact wpAny_setField_rec z2 (by simp) fun g3 _ k3 => q g3 e (fun c o c1 _ c3 _ v => k3.extBut _ _ c1 (k2 _ _ c3 (k1.extBut _ _ c1 v))) ⟨o, k3.extBut _ _ ne eo, ec⟩
    | some x =>
      have hy : ys[i]? = none := he.resolve_left (by rw [hx]; simp)
      refine wpAny_bind (nx_item f1a m1a hx fun g2 f1b k2 => wpAny_pure ?_)
      have T2 : IsPair g2 T a b := k2.extBut _ _ D.TOi1 (k1.extBut _ _ D.TOz T0)
      refine wpAny_bind (wpAny_seqItems T2 rfl (wpAny_bind (wpAny_updateSeq_pair T2 fun g3 T3 k3 => ?_)))
      refine wpAny_bind (wpAny_letGo (wpAny_pure (wpAny_bind (wpAny_bind (wpAny_onRaise ?_)))))
      show wpAny _ _ (Builtin.SmallTypes.nextOf (.ref p2) >>= fun _ => _) _ _ _
      have f2c := it_ext (it_ext (it_ext f2 k1.extBut D.i2z) k2.extBut D.i12.symm) k3.extBut D.TOi2.symm
      have m2c := sq_ext (sq_ext (sq_ext m2 k1.extBut D.l2z) k2.extBut D.l2i1) k3.extBut D.l2TO
      refine wpAny_bind (nx_end hh f2c m2c hy fun g4 e k4 ⟨o, eo, ec⟩ => ?_)
      have z4 : ZpF g4 z S T .ellipsis f := k4 _ _ D.i2z.symm (k3.extBut _ _ D.TOz.symm (k2.extBut _ _ D.i1z.symm z1))
      have ne : e ≠ z := fun c => by rw [c, z4] at eo; cases eo; simp at ec
      exact wpAny_setField_rec z4 (by simp) fun g5 _ k5 => q g5 e (fun c o c1 c2 c3 c4 v => k5.extBut _ _ c1 (k4 _ _ c4 (k3.extBut _ _ c2 (k2.extBut _ _ c3 (k1.extBut _ _ c1 v))))) ⟨o, k5.extBut _ _ ne eo, ec⟩
  · simp only [Bool.false_eq_true, if_false]
    refine wpAny_bind ?_
    rw [← Array.forIn_toList]
    simp only [List.forIn_cons, List.forIn_nil]
    refine wpAny_bind (wpAny_bind (wpAny_holding ?_))
    show wpAny _ _ (Builtin.SmallTypes.nextOf (.ref p1) >>= fun _ => _) _ _ _
    have f1a := it_ext f1 k1.extBut D.i1z
    have m1a := sq_ext m1 k1.extBut D.l1z
    cases hx : xs[i]? with
    | none => exact wpAny_bind (nx_end (s := { s with heap := g1 }) hh f1a m1a hx fun g2 e k2 x => q g2 e (fun c o c1 _ c3 _ v => k2 _ _ c3 (k1.extBut _ _ c1 v)) x)
    | some x =>
      have hy : ys[i]? = none := he.resolve_left (by rw [hx]; simp)
      refine wpAny_bind (nx_item (s := { s with heap := g1 }) f1a m1a hx fun g2 f1b k2 => wpAny_pure (wpAny_pure (wpAny_bind (wpAny_bind (wpAny_holding ?_)))))
      show wpAny _ _ (Builtin.SmallTypes.nextOf (.ref p2) >>= fun _ => _) _ _ _
      exact wpAny_bind (nx_end (s := { s with heap := g2 }) hh (it_ext (it_ext f2 k1.extBut D.i2z) k2.extBut D.i12.symm) (sq_ext (sq_ext m2 k1.extBut D.l2z) k2.extBut D.l2i1) hy fun g3 e k3 x => q g3 e (fun c o c1 _ c3 c4 v => k3 _ _ c4 (k2.extBut _ _ c3 (k1.extBut _ _ c1 v))) x)
end
end Ez
namespace Ez
open PySem PySem.Spec PyProof.Rows L2 Zq
open PySem.Sem (wp)
open AutoSeq1 (wpAny_loadPart')
theorem ZS.keep {t u : Bool} {g g' : Heap} {z S T p1 p2 a b : Addr} {i : Nat} (st : ZS t u g z S T p1 p2 a b i) (k : ∀ c ∈ [z, S, T, p1, p2], ∀ o, g.get? c = some o → g'.get? c = some o) : ZS t u g' z S T p1 p2 a b i :=
  ⟨let ⟨v, f, og, z0⟩ := st.zp; ⟨v, f, og, k z (by simp) _ z0⟩, k S (by simp) _ st.S0, let ⟨x, y, T0⟩ := st.T0; ⟨x, y, k T (by simp) _ T0⟩, it_at st.f1 (k p1 (by simp)), it_at st.f2 (k p2 (by simp))⟩
theorem ZS.obj {t u : Bool} {g : Heap} {z S T p1 p2 a b : Addr} {i : Nat} (st : ZS t u g z S T p1 p2 a b i) {c : Addr} (hc : c ∈ [z, S, T, p1, p2]) : ∃ o, g.get? c = some o ∧ ∀ v, o.data ≠ .cell v := by
  obtain ⟨⟨v, f, og, z0⟩, S0, ⟨x, y, T0⟩, f1, f2⟩ := st
  obtain ⟨o1, g1, d1⟩ := it_obj f1
  obtain ⟨o2, g2, d2⟩ := it_obj f2
  refine five hc (fun e => ?_) (fun e => ?_) (fun e => ?_) (fun e => ?_) (fun e => ?_) <;> rw [e]
  · exact ⟨_, z0, fun _ k => nomatch k⟩
  · exact ⟨_, S0, fun _ k => nomatch k⟩
  · exact ⟨_, T0, fun _ k => nomatch k⟩
  · exact ⟨o1, g1, fun _ k => by cases d1.symm.trans k⟩
  · exact ⟨o2, g2, fun _ k => by cases d2.symm.trans k⟩
section
variable {prog : Program} {w : World} {A : Around} {E : Value → Shared → Prop} {s : Shared}
theorem nx_zip {t u : Bool} {z S T p1 p2 l1 l2 : Addr} {i : Nat} {xs ys : Array Value} {x y : Value} {Q : Value → Shared → Prop} (D : ZipApart z S T p1 p2 l1 l2) (st : ZS t u s.heap z S T p1 p2 l1 l2 i)
    (m1 : sqK t s.heap l1 xs) (m2 : sqK u s.heap l2 ys) (hx : xs[i]? = some x) (hy : ys[i]? = some y)
    (q : ∀ g, ZS t u g z S T p1 p2 l1 l2 (i + 1) → IsPair g s.heap.objs.size x y → g.objs.size = s.heap.objs.size + 1 → Stay s.heap g z T p1 p2 → Q (.ref s.heap.objs.size) { s with heap := g }) :
    wpAny (model prog w) A (Builtin.SmallTypes.nextOf (.ref z)) Q E s := by
  have ty : s.TypeIs (.ref z) "zip" := let ⟨_, _, _, z0⟩ := st.zp; ⟨_, z0, rfl⟩
  unfold Builtin.SmallTypes.nextOf
  exact wpAny_bind (wpAny_callSpecial?_slot (name := Str.ofString "__next__") ty F.slot_zip_next (wpAny_call_entry F.slot_zip_next ty F.entry_zip_next (zn_item D st m1 m2 hx hy fun g a1 a2 a3 a4 => wpAny_pure (q g a1 a2 a3 a4)) (F.args_zip_next_1 _)))
theorem nx_zipEnd {t u : Bool} {z S T p1 p2 l1 l2 : Addr} {i : Nat} {xs ys : Array Value} {Q : Value → Shared → Prop} (hh : A.handled = none) (D : ZipApart z S T p1 p2 l1 l2) (st : ZS t u s.heap z S T p1 p2 l1 l2 i)
    (m1 : sqK t s.heap l1 xs) (m2 : sqK u s.heap l2 ys) (he : xs[i]? = none ∨ ys[i]? = none)
    (q : ∀ g e, Stay s.heap g z T p1 p2 → (∃ o, g.get? e = some o ∧ o.cls = .type "StopIteration") → E (.ref e) { s with heap := g }) : wpAny (model prog w) A (Builtin.SmallTypes.nextOf (.ref z)) Q E s := by
  have ty : s.TypeIs (.ref z) "zip" := let ⟨_, _, _, z0⟩ := st.zp; ⟨_, z0, rfl⟩
  unfold Builtin.SmallTypes.nextOf
  exact wpAny_bind (wpAny_callSpecial?_slot (name := Str.ofString "__next__") ty F.slot_zip_next (wpAny_call_entry F.slot_zip_next ty F.entry_zip_next (zn_end hh D st m1 m2 he q) (F.args_zip_next_1 _)))
theorem en_item {t u : Bool} {e z S T p1 p2 l1 l2 : Addr} {i : Nat} {xs ys : Array Value} {x y old : Value} {Q : Option Value → Shared → Prop} (D : ZipApart z S T p1 p2 l1 l2) (ne : e ∉ [z, S, T, p1, p2]) (he : IsEnum s.heap e z ((i : Nat) : Int) old) (st : ZS t u s.heap z S T p1 p2 l1 l2 i)
    (m1 : sqK t s.heap l1 xs) (m2 : sqK u s.heap l2 ys) (hx : xs[i]? = some x) (hy : ys[i]? = some y)
    (q : ∀ g tk, IsEnumOut g e z ((i : Int) + 1) (.ref s.heap.objs.size) (s.heap.objs.size + 1) → ZS t u g z S T p1 p2 l1 l2 (i + 1) → IsPair g s.heap.objs.size x y →
      g.get? (s.heap.objs.size + 1) = some { cls := .type "tuple", data := .seq #[.int i tk, .ref s.heap.objs.size] } → (∀ c o, c ∉ [e, z, S, T, p1, p2] → s.heap.get? c = some o → g.get? c = some o) → Q (some (.ref (s.heap.objs.size + 1))) { s with heap := g, toks := tk + 1 }) :
    wpAny (model prog w) A (pyNext (.ref e)) Q E s := by
  have ty : s.TypeIs (.ref e) "enumerate" := ⟨_, he, rfl⟩
  simp only [List.mem_cons, List.not_mem_nil, or_false, not_or] at ne
  unfold pyNext
  refine wpAny_bind (wpAny_attempt (wpAny_callSpecial?_slot (name := Str.ofString "__next__") ty F.slot_enumerate_next (wpAny_call_entry F.slot_enumerate_next ty F.entry_enumerate_next ?_ (F.args_enumerate_next_1 _))))
  obtain ⟨g0, ga, gd, tk, os⟩ := s
  show wpAny _ _ (field (.ref e) 2 >>= fun _ => _) _ _ _
  refine wpAny_bind (wpAny_field he rfl (x := .ref z) rfl (wpAny_bind (nx_zip D st m1 m2 hx hy fun g1 st1 W1 n1 sy1 => ?_)))
  replace W1 : IsPair g1 g0.objs.size x y := W1
  replace n1 : g1.objs.size = g0.objs.size + 1 := n1
  replace sy1 : Stay g0 g1 z T p1 p2 := sy1
  have e1 : IsEnum g1 e z ((i : Nat) : Int) old := sy1 _ _ ne.1 ne.2.2.1 ne.2.2.2.1 ne.2.2.2.2 he
  show wpAny _ _ (field (.ref e) 3 >>= fun _ => _) _ _ ⟨g1, ga, gd, tk, os⟩
  refine wpAny_bind (wpAny_field e1 rfl (x := rawInt i) rfl ?_)
  show wpAny _ _ (field (.ref e) 4 >>= fun _ => _) _ _ ⟨g1, ga, gd, tk, os⟩
  refine wpAny_bind (wpAny_field e1 rfl (x := .none) rfl ?_)
  show wpAny _ _ (mkInt i >>= fun _ => _) _ _ ⟨g1, ga, gd, tk, os⟩
  refine wpAny_bind (wpAny_mkInt ?_)
  show wpAny _ _ (setField (.ref e) 3 (rawInt ((i : Int) + 1)) >>= fun _ => _) _ _ ⟨g1, ga, gd, tk + 1, os⟩
  refine wpAny_bind (wpAny_setField_rec e1 (by simp) fun g2 e2 k2 => ?_)
  replace k2 : Heap.SameBut e g1 g2 := k2
  replace e2 : IsEnum g2 e z ((i : Int) + 1) old := e2
  show wpAny _ _ (setField (.ref e) 4 .none >>= fun _ => _) _ _ ⟨g2, ga, gd, tk + 1, os⟩
  refine wpAny_bind (wpAny_setField_rec e2 (by simp) fun g3 e3 k3 => ?_)
  replace k3 : Heap.SameBut e g2 g3 := k3
  replace e3 : IsEnum g3 e z ((i : Int) + 1) old := e3
  show wpAny _ _ (newTuple [.int i tk, .ref g0.objs.size] >>= fun _ => _) _ _ ⟨g3, ga, gd, tk + 1, os⟩
  refine wpAny_bind (wpAny_newTuple ?_)
  have e4 : IsEnum (g3.push { cls := .type "tuple", data := .seq #[.int i tk, .ref g0.objs.size] }) e z ((i : Int) + 1) old := Heap.get?_push_of_some _ e3
  have n3 : g3.objs.size = g0.objs.size + 1 := by rw [k3.1, k2.1, n1]
  have O4 : (g3.push { cls := .type "tuple", data := .seq #[.int i tk, .ref g0.objs.size] }).get? (g0.objs.size + 1) = some { cls := .type "tuple", data := .seq #[.int i tk, .ref g0.objs.size] } := by
    rw [← n3]
    exact Heap.get?_push_size _ rfl
  have y4 : ∀ c o, c ≠ e → g1.get? c = some o → (g3.push { cls := .type "tuple", data := .seq #[.int i tk, .ref g0.objs.size] }).get? c = some o := fun c o hc h => Heap.get?_push_of_some _ (k3.extBut _ _ hc (k2.extBut _ _ hc h))
  generalize (g3.push { cls := .type "tuple", data := .seq #[.int i tk, .ref g0.objs.size] }) = g4 at e4 O4 y4
  have le : e < g0.objs.size := Heap.lt_size he
  show wpAny _ _ (Builtin.SmallTypes.ownedTupleIsFree (.ref e) >>= fun _ => _) _ _ ⟨g4, ga, gd, tk + 1, os⟩
  rw [n3]
  refine wpAny_bind ?_
  unfold Builtin.SmallTypes.ownedTupleIsFree
  refine wpAny_bind (wpAny_field e4 rfl (x := .none) rfl (wpAny_pure ?_))
  simp only [if_true]
  refine wpAny_bind (wpAny_rule (wpAny_bind (wpAny_field e4 rfl (x := old) rfl (wpAny_bind (wpAny_setField_rec e4 (by simp) fun g5 e5 k5 => ?_)))))
  replace k5 : Heap.SameBut e g4 g5 := k5
  replace e5 : IsEnum g5 e z ((i : Int) + 1) (.ref g0.objs.size) := e5
  show wpAny _ _ (Builtin.SmallTypes.ownedTupleHandOut (.ref e) (.ref (g0.objs.size + 1)) >>= fun _ => _) _ _ ⟨g5, ga, gd, tk + 1, os⟩
  refine wpAny_bind ?_
  unfold Builtin.SmallTypes.ownedTupleHandOut
  refine wpAny_bind (wpAny_setField_rec e5 (by simp) fun g6 e6 k6 => ?_)
  replace k6 : Heap.SameBut e g5 g6 := k6
  replace e6 : IsEnumOut g6 e z ((i : Int) + 1) (.ref g0.objs.size) (g0.objs.size + 1) := e6
  refine wpAny_setField_rec e6 (by simp) fun g7 e7 k7 => ?_
  replace k7 : Heap.SameBut e g6 g7 := k7
  replace e7 : IsEnumOut g7 e z ((i : Int) + 1) (.ref g0.objs.size) (g0.objs.size + 1) := e7
  have y7 : ∀ c o, c ≠ e → g4.get? c = some o → g7.get? c = some o := fun c o hc h => k7.extBut _ _ hc (k6.extBut _ _ hc (k5.extBut _ _ hc h))
  have y : ∀ c o, c ≠ e → g1.get? c = some o → g7.get? c = some o := fun c o hc h => y7 c o hc (y4 c o hc h)
  refine wpAny_bind (wpAny_letGo (wpAny_pure ⟨_, rfl, wpAny_pure (q g7 tk e7 (st1.keep fun c hc o h => y c o (fun w => ?_) h) (y _ _ (Nat.ne_of_gt le) W1) (y7 _ _ (Nat.ne_of_gt (Nat.lt_succ_of_lt le)) O4) fun c o hc h => ?_)⟩))
  · simp only [List.mem_cons, List.not_mem_nil, or_false] at hc
    rw [w] at hc
    exact hc.elim ne.1 fun hc => hc.elim ne.2.1 fun hc => hc.elim ne.2.2.1 fun hc => hc.elim ne.2.2.2.1 ne.2.2.2.2
  · simp only [List.mem_cons, List.not_mem_nil, or_false, not_or] at hc
    exact y c o hc.1 (sy1 c o hc.2.1 hc.2.2.2.1 hc.2.2.2.2.1 hc.2.2.2.2.2 h)
theorem en_end {t u : Bool} {e z S T p1 p2 l1 l2 : Addr} {i : Nat} {xs ys : Array Value} {old : Value} {Q : Option Value → Shared → Prop} (hh : A.in1.handled = none) (D : ZipApart z S T p1 p2 l1 l2) (he : IsEnum s.heap e z ((i : Nat) : Int) old) (st : ZS t u s.heap z S T p1 p2 l1 l2 i)
    (m1 : sqK t s.heap l1 xs) (m2 : sqK u s.heap l2 ys) (hn : xs[i]? = none ∨ ys[i]? = none) (q : ∀ g, Stay s.heap g z T p1 p2 → Q none { s with heap := g }) : wpAny (model prog w) A (pyNext (.ref e)) Q E s := by
  have ty : s.TypeIs (.ref e) "enumerate" := ⟨_, he, rfl⟩
  unfold pyNext
  refine wpAny_bind (wpAny_attempt (wpAny_callSpecial?_slot (name := Str.ofString "__next__") ty F.slot_enumerate_next (wpAny_call_entry F.slot_enumerate_next ty F.entry_enumerate_next ?_ (F.args_enumerate_next_1 _))))
  show wpAny _ _ (field (.ref e) 2 >>= fun _ => _) _ _ _
  refine wpAny_bind (wpAny_field he rfl (x := .ref z) rfl (wpAny_bind (nx_zipEnd hh D st m1 m2 hn fun g x sy ⟨o, ho, hc⟩ => ?_)))
  exact wpAny_bind (wpAny_isInstance (T := "StopIteration") (b := true) ⟨o, ho, hc⟩ isSubtype_stop (wpAny_pure (q g sy)))
/-- enumerate of a zip that is new -/
theorem en_newZ (z S T : Addr) : Meets (Builtin.«enumerate.__new__» ⟨[.type "enumerate", .ref z], []⟩) (fun _ R s => IsZip s.heap z S T .none ∧
      R (.ok (.ret (.ref s.heap.objs.size))) { s with heap := s.heap.push { cls := .type "enumerate", data := .fields #[.none, .bool false, .ref z, rawInt 0, .none, .none] } }) :=
  .of_wp fun prog w A R s h => by
    obtain ⟨h0, g0, d0, k0, o0⟩ := s
    obtain ⟨hz, h⟩ := h
    have su := sub_enumerate
    have hZ : IsZip (Shared.heap ⟨h0, g0, d0, k0, o0⟩) z S T .none := hz
    wp_walk using wpAny_loadPart' hz
    refine wpAny_stack_any fun st => wpAny_pure ?_
    split
    · rename_i c _ _ _ _ _
      cases (c == Value.type "enumerate")
      · wp_walk using wpAny_loadPart' hz, wpAny_pyIter_zip hZ
        exact ⟨_, rfl, h⟩
      · wp_walk using wpAny_loadPart' hz, wpAny_pyIter_zip hZ
        exact ⟨_, rfl, h⟩
    · wp_walk using wpAny_loadPart' hz, wpAny_pyIter_zip hZ
      exact ⟨_, rfl, h⟩
theorem call_enZ {z S T : Addr} {Q : Value → Shared → Prop} (hz : IsZip s.heap z S T .none) (q : ∀ g, IsEnum g s.heap.objs.size z 0 .none → (∀ c o, s.heap.get? c = some o → g.get? c = some o) → Q (.ref s.heap.objs.size) { s with heap := g }) :
    wpAny (model prog w) A (call (.type "enumerate") [.ref z]) Q E s := by
  refine callType_new F.called_enumerate (by decide) (F.typeCall_enumerate_1 _) (F.newCall_enumerate_1 _) (fun o => F.args_object_init_2 o _) F.entry_enumerate_new (en_newZ z S T) ⟨hz, ?_⟩
  have he : IsEnum (s.heap.push { cls := .type "enumerate", data := .fields #[.none, .bool false, .ref z, rawInt 0, .none, .none] }) s.heap.objs.size z 0 .none := Heap.get?_push_size _ rfl
  exact ⟨⟨_, he, rfl⟩, q _ he fun c o x => Heap.get?_push_of_some _ x⟩
end
end Ez
namespace Ez
open PySem PySem.Spec PyProof.Rows L2 Zq Xg
/-- pairs (number, pair) of a tuple at a and a list at b -/
def ItN (K : PySem.W.Frag) (a b : Addr) : It where
  go i H := ∃ (xs ys : List V) (x y : V), (SqT K H a xs ∧ xs[i]? = some x) ∧ (SqL K H b ys ∧ ys[i]? = some y)
  yld i H v H' := ∃ W O x y, v = .ref O ∧ H W = none ∧ W ≠ O ∧ H O = none ∧ H' = upd (upd H W (.tup [x, y])) O (.tup [.int (i : Nat), .ref W]) ∧ (∀ l, SqT K H a l → l[i]? = some x) ∧ (∀ l, SqL K H b l → l[i]? = some y)
  stop i H := ∃ xs ys : List V, SqT K H a xs ∧ SqL K H b ys ∧ min xs.length ys.length ≤ i
theorem turn_N {P : Program} {w : World} {K : PySem.W.Frag} {es : List Expr} {kk : Nat} {tp : Pos} {a b e z S T p1 p2 : Addr} (D : ZipApart z S T p1 p2 a b) (ne : e ∉ [z, S, T, p1, p2]) :
    Turn P w K (.Tuple es kk tp) (ItN K a b) [e, z, S, T, p1, p2] e (fun i g => (∃ old, IsEnum g e z ((i : Nat) : Int) old) ∧ ZS true false g z S T p1 p2 a b i) where
  mem := List.mem_cons_self ..
  obj := fun i g st c hc => by
    obtain ⟨⟨old, he⟩, st⟩ := st
    rcases List.mem_cons.mp hc with rfl | hc
    · exact ⟨_, he, fun v q => nomatch q⟩
    · exact st.obj hc
  keep := fun i g g' st k => ⟨let ⟨old, he⟩ := st.1; ⟨old, k e (by simp) _ he⟩, st.2.keep fun c hc => k c (List.mem_cons_of_mem _ hc)⟩
  item := by
    rintro X rfl rfl rfl hc i pins s σ H E I hf ⟨⟨old, he⟩, st⟩ ⟨xs, ys, x, y, ⟨qx, ex⟩, qy, ey⟩
    have lts : ∀ c ∈ [e, z, S, T, p1, p2], c < s.heap.objs.size := fun c hm => by
      rcases List.mem_cons.mp hm with rfl | hm
      · exact Heap.lt_size he
      · obtain ⟨_, q, _⟩ := st.obj hm
        exact Heap.lt_size q
    obtain ⟨us, r1, m1, _⟩ := I.tuple qx
    obtain ⟨vs, r2, m2, _⟩ := I.list qy
    obtain ⟨u, eu, ru⟩ := r1.get ex
    obtain ⟨v, ev, rv⟩ := r2.get ey
    refine en_item (t := true) (u := false) D ne he st m1 m2.isList (x := u) (y := v) (by simpa using eu) (by simpa using ev) fun g tk eo st1 W1 O1 ky => ⟨_, rfl, ?_⟩
    refine wpAny_letOwnedTupleGo_enum (s := { s with heap := g, toks := tk + 1 }) eo fun g2 he2 sb => ?_
    have le := lts e (List.mem_cons_self ..)
    have O2 := (sb.2 _ (Nat.ne_of_gt (Nat.lt_succ_of_lt le))).trans O1
    have W2 := (sb.2 _ (Nat.ne_of_gt le)).trans W1
    have I1 : Inv X pins σ (upd H s.heap.objs.size (.tup [x, y])) { s with heap := s.heap.push { cls := .type "tuple", data := .seq #[u, v] } } :=
      I.laid (t' := s.toks) (fun c ob q => Heap.get?_push_of_some _ q) (Nat.le_refl _) ⟨(by decide : 2 ≤ sizeLine), [u, v], .cons ru (.cons rv .nil), ⟨_, Heap.get?_push_size _ rfl, rfl, _, rfl⟩⟩
    have okO : ObjOk X.prog X.w (upd (upd H s.heap.objs.size (.tup [x, y])) (s.heap.objs.size + 1) (.tup [.int (i : Nat), .ref s.heap.objs.size])) g2 (s.heap.objs.size + 1) (.tup [.int (i : Nat), .ref s.heap.objs.size]) :=
      ⟨(by decide : 2 ≤ sizeLine), [.int i tk, .ref s.heap.objs.size], .cons ⟨_, rfl⟩ (.cons rfl .nil), ⟨_, O2, rfl, _, rfl⟩⟩
    have I2 := I1.turnedNew (t' := tk + 1) (h' := g2) (ch := [e, z, S, T, p1, p2]) (T := s.heap.objs.size + 1) (ob := .tup [.int (i : Nat), .ref s.heap.objs.size]) (fun c o hb q => by
        rcases Heap.get?_push_cases q with ⟨rfl, rfl⟩ | q
        · exact W2
        · exact (sb.2 c fun w => hb (by rw [w]; exact List.mem_cons_self ..)).trans (ky c o hb q))
      (fun c hm => ⟨(upd_ne (Nat.ne_of_lt (lts c hm))).trans (hf c hm).1, (hf c hm).2⟩) (by show (s.heap.push _).objs.size ≤ _; rw [Heap.size_push]; exact Nat.le_refl _) okO
    have f0 : H s.heap.objs.size = none := I.hok.fresh (Nat.le_refl _)
    have f1 : H (s.heap.objs.size + 1) = none := I.hok.fresh (Nat.le_succ _)
    refine ⟨.ref (s.heap.objs.size + 1), _, I2, rfl, ⟨_, _, x, y, rfl, f0, Nat.ne_of_lt (Nat.lt_succ_self _), f1, rfl, fun l hl => I.tuple_inj hl qx ▸ ex, fun l hl => I.list_inj hl qy ▸ ey⟩, ⟨⟨.ref s.heap.objs.size, ?_⟩, st1.keep fun c hc o q => (sb.2 c fun w => ne (by rw [← w]; exact hc)).trans q⟩, fun c hm => ?_⟩
    · rw [show ((i + 1 : Nat) : Int) = (i : Int) + 1 by omega]
      exact he2
    · have lc := lts c hm
      exact (upd_ne (Nat.ne_of_lt (Nat.lt_succ_of_lt lc))).trans ((upd_ne (Nat.ne_of_lt lc)).trans (hf c hm).1)
  done := by
    rintro X rfl rfl rfl hc i pins s σ H E I hf ⟨⟨old, he⟩, st⟩ ⟨xs, ys, qx, qy, hn⟩
    obtain ⟨us, r1, m1, _⟩ := I.tuple qx
    obtain ⟨vs, r2, m2, _⟩ := I.list qy
    have n1 := r1.length
    have n2 := r2.length
    have no : us.toArray[i]? = none ∨ vs.toArray[i]? = none := by
      simp only [List.getElem?_toArray, List.getElem?_eq_none_iff]
      omega
    refine en_end (t := true) (u := false) (I.ok.hd hc) D he st m1 m2.isList no fun g sy => ⟨rfl, I.turnedL (t' := s.toks) (ch := [e, z, S, T, p1, p2]) (fun c o hb q => ?_) hf⟩
    simp only [List.mem_cons, List.not_mem_nil, or_false, not_or] at hb
    exact sy c o hb.2.1 hb.2.2.2.1 hb.2.2.2.2.1 hb.2.2.2.2.2 q
  self := fun A i s Q E st h => let ⟨⟨_, he⟩, _⟩ := st; wpAny_pyIter_enum he h
/-- enumerate(zip(x, y)), x a tuple, y a list -/
def iEnZ (K : PySem.W.Frag) (ta : TA) : TI := fun σ H R => ta σ H fun vs H1 => ∃ a b xs ys, vs = [.ref a, .ref b] ∧ SqT K H1 a xs ∧ SqL K H1 b ys ∧ R (ItN K a b) H1
theorem pi_enZ {X : Cx} {e e' : Expr} {ta : TA} {p p2 pos pos2 tp : Pos} {es : List Expr} {kk : Nat} (hg : Gl X "enumerate") (hm : X.mg "enumerate" = none) (hg2 : Gl X "zip") (hm2 : X.mg "zip" = none) (ha : PA X [e, e'] ta)
    (hs : starEach [e, e'] X.env = (false, eval e X.env) :: starEach [e'] X.env := by rfl) (hp : (backTo pos2 (starEach [e'] X.env)).any (·.1) = false := by rfl)
    (h2 : starEach [.Call (.Name "zip" p2) [e, e'] [] pos2] X.env = (false, eval (.Call (.Name "zip" p2) [e, e'] [] pos2) X.env) :: starEach [] X.env := by rfl) :
    PI X (.Tuple es kk tp) (.Call (.Name "enumerate" p) [.Call (.Name "zip" p2) [e, e'] [] pos2] [] pos) (iEnZ X.K ta) := by
  refine ⟨fun pins s σ H R I h => Call_ (ld_blt I hg hm boot_enumerate (PyProof.Rows.callWith_type1 (args_cons (Call_ (ld_blt I hg2 hm2 PyProof.Rows.boot_zip
    (PyProof.Rows.callWith_type1 (thn (ha.run pos2 pins s σ H _ I h) fun us s1 ⟨vs, H1, I1, r1, a, b, xs, ys, ex, qx, qy, q⟩ => ?_) hs hp))) h2) h2 rfl))⟩
  subst ex
  cases r1 with
  | cons ra rr =>
  cases rr with
  | cons rb rr =>
  cases rr
  cases ra
  cases rb
  obtain ⟨is, _, m1, _⟩ := I1.tuple qx
  obtain ⟨js, _, m2, _⟩ := I1.list qy
  have la : a < s1.heap.objs.size := let ⟨_, e, _⟩ := id m1; Heap.lt_size e
  refine call_zq (show s1.heap.IsTuple a is.toArray from m1) m2.isList fun g z0 S0 T0 f1 f2 k => args_nil (call_enZ (s := { s1 with heap := g }) z0 fun g2 he k2 => wpAny_pyIter_enum he ?_)
  have lz : s1.heap.objs.size + 4 < g.objs.size := Heap.lt_size z0
  have fp : ∀ c ∈ [g.objs.size, s1.heap.objs.size + 4, s1.heap.objs.size + 2, s1.heap.objs.size + 3, s1.heap.objs.size, s1.heap.objs.size + 1], FpOk X pins H1 c := fun c hc => by
    have le : s1.heap.objs.size ≤ c := by
      simp only [List.mem_cons, List.not_mem_nil, or_false] at hc
      omega
    exact I1.fpOk le (I1.hok.fresh le)
  refine ⟨_, _, _, _, H1, rfl, I1.kept (t' := s1.toks) fun c o q => k2 c o (k c o q), turn_N (PySem.W.ktu_apart s1.heap.objs.size a b la m2.lt) ?_, ⟨⟨.none, he⟩, ⟨⟨_, _, .inl rfl, k2 _ _ z0⟩, k2 _ _ S0, ⟨_, _, k2 _ _ T0⟩, it_at f1 fun o q => k2 _ o q, it_at f2 fun o q => k2 _ o q⟩⟩, fp, q⟩
  simp only [List.mem_cons, List.not_mem_nil, or_false, not_or]
  refine ⟨?_, ?_, ?_, ?_, ?_⟩ <;> (show g.objs.size ≠ _; omega)
/-- what such a walk gives out -/
def YN (xs ys : List V) : Nat → Hp → V → Hp → Prop := fun i H v H' => ∃ W O x y, v = .ref O ∧ H W = none ∧ W ≠ O ∧ H O = none ∧ H' = upd (upd H W (.tup [x, y])) O (.tup [.int (i : Nat), .ref W]) ∧ xs[i]? = some x ∧ ys[i]? = some y
theorem walk_N {K : PySem.W.Frag} {a b : Addr} {xs ys : List V} {n : Nat} (hn : n = min xs.length ys.length) : Walk (ItN K a b) n (fun H => SqT K H a xs ∧ SqL K H b ys) (YN xs ys) := by
  subst hn
  refine ⟨fun i _ hi q => ⟨xs, ys, xs[i]'(by omega), ys[i]'(by omega), ⟨q.1, List.getElem?_eq_getElem _⟩, q.2, List.getElem?_eq_getElem _⟩, fun _ q => ⟨xs, ys, q.1, q.2, Nat.le_refl _⟩, fun i H v H' _ q ⟨W, O, x, y, g1, g2, g3, g4, g5, g6, g7⟩ => ⟨W, O, x, y, g1, g2, g3, g4, g5, g6 xs q.1, g7 ys q.2⟩⟩
end Ez
namespace Dv
open PySem PySem.Spec PyProof.Rows L2 Xg
open Classical
section
variable {K : PySem.W.Frag} {md : Bool} {ta tb : TE} {ca cb : Nat} {fa fb : FE}
/-! enumerate(zip(x, y)), x a tuple, y a list -/
abbrev enZQ (Q : List PyData → Prop) : PyData → PyData → Prop
  | .tuple a, .list b => Q (enumD 0 (zipD a b))
  | _, _ => False
theorem enZQ_mono {P P' : List PyData → Prop} (h : ∀ k, P k → P' k) : ∀ x y, enZQ P x y → enZQ P' x y := fun x y g => by
  cases x <;> cases y <;> first | exact h _ g | exact g.elim
abbrev fEnZip (f g : FE) : FD := fun ρ Q => f ρ fun x => g ρ fun y => enZQ Q x y
theorem sndi_enZ (a : Snd md K ta ca fa) (a2 : Snd md K tb cb fb) : SndI md K (Ez.iEnZ K (tCons ta (tCons tb tNil))) (ca + cb) (fEnZip fa fb) := ⟨fun ρ P P' h g => a.mono _ _ _ (fun x => a2.mono _ _ _ fun y => enZQ_mono h x y) g,
  fun {b S m σ H ρ R P} E hm hf k => a.go E (by omega) hf fun dx v H1 p st bx vd => a2.go (E.step st bx) (by omega) p fun dy v2 H2 p2 st2 bx2 vd2 => by
    have vd := vd.step st2 E.bs
    have sx : sq (fun _ => True) dx := by
      cases dx <;> cases dy <;> first | trivial | exact p2.elim
    have sy : sq (fun _ => True) dy := by
      cases dx <;> cases dy <;> first | trivial | exact p2.elim
    obtain ⟨p1, xs, ds, rfl, _, g, hh⟩ := vd.seq sx E.bs
    obtain ⟨q1, ys, es, rfl, _, g2, hh2⟩ := vd2.seq sy E.bs
    have turn : ∀ (i : Nat) (H : Hp) (x : V) (H' : Hp), Ez.YN xs ys i H x H' → ∀ T, Evl.Ex (rm H2 S) (rm H T) → Al T H → Evl.Ex H H' ∧ ∃ d, (enumD 0 (zipD ds es))[i]? = some d ∧ Da K (rm H' T) x d := fun i H x H' y T hT al => by
      obtain ⟨W, O, u, w, rfl, nW, ne, nO, rfl, eu, ew⟩ := y
      obtain ⟨d, e1, e2⟩ := at_of g hT eu
      obtain ⟨e, f1, f2⟩ := at_of g2 hT ew
      have nO' : upd H W (.tup [u, w]) O = none := (upd_ne ne.symm).trans nO
      refine ⟨(Evl.Ex.new nW).trans (Evl.Ex.new nO'), _, ?_, new_tup (al.ex (Evl.Ex.new nW)) nO' (.cons (.int _) (.cons (new_tup al nW (.cons e2 (.cons f2 .nil))) .nil))⟩
      rw [enumD_at, Nat.zero_add]
      unfold zipD
      rw [List.getElem?_zipWith, e1, f1]
      rfl
    have ln : min xs.length ys.length = (enumD 0 (zipD ds es)).length := by
      rw [enumD_len]
      unfold zipD
      rw [List.length_zipWith, g.len, g2.len]
    have st3 := st.trans st2
    have bx3 : BxO b H2 (m + (ca + cb)) := bx2.le (by omega)
    rcases hh with ⟨rfl, hL⟩ | ⟨rfl, hL⟩ <;> rcases hh2 with ⟨rfl, hL2⟩ | ⟨rfl, hL2⟩
    · exact p2.elim
    · exact p2.elim
    · exact ⟨p1, q1, xs, ys, rfl, hL _ KG.refl, hL2 _ KG.refl, k _ _ H2 p2 st3 bx3 (wk_of (Ez.walk_N (xs := xs) (ys := ys) rfl) ln (fun H3 kg => ⟨hL H3 kg, hL2 H3 kg⟩) fun i H x H' hi => turn i H x H')⟩
    · exact p2.elim⟩
end
end Dv
namespace Dv
open PySem PySem.Spec PyProof.Rows L2 Xg
open Classical
section
variable {K : PySem.W.Frag} {md : Bool} {ta tc : TE} {ca cc : Nat} {fa fc : FE}
/-! {k1: v1, k2: v2}[x], all texts -/
abbrev dctQ (k1 v1 k2 v2 : Str) (Q : PyData → Prop) : PyData → Prop
  | .str x => (k1 ≠ k2 ∧ (x = k1 ∨ x = k2)) ∧ Q (.str (if x = k1 then v1 else v2))
  | _ => False
abbrev eDct (k1 v1 k2 v2 : Str) (f : FE) : FE := fun ρ Q => f ρ (dctQ k1 v1 k2 v2 Q)
theorem dctQ_mono {k1 v1 k2 v2 : Str} {P P' : PyData → Prop} (h : ∀ k, P k → P' k) : ∀ x, dctQ k1 v1 k2 v2 P x → dctQ k1 v1 k2 v2 P' x := fun x g => by
  cases x <;> first | exact ⟨g.1, h _ g.2⟩ | exact g.elim
abbrev tDct (k1 v1 k2 v2 : Str) (t : TE) : TE := tDGet (tDisp [(tC (.str k1), tC (.str v1)), (tC (.str k2), tC (.str v2))]) t
theorem snd_dct {k1 v1 k2 v2 : Str} (a : Snd md K ta ca fa) : Snd true K (tDct k1 v1 k2 v2 ta) ca (eDct k1 v1 k2 v2 fa) := mk_snd
  (fun ρ P P' h q => a.mono _ _ _ (dctQ_mono h) q)
  (fun {b S m σ H ρ Q P} E hm hf k => by
    intro p np
    have n1 : upd H p (.dK []) p = some (.dK []) := upd_same
    refine ⟨n1, [(.inr k1, .str v1), (.inr k2, .str v2)], rfl, by show 2 ≤ 15; decide, ?_⟩
    have st : Stp b H (upd (upd H p (.dK [])) p (.dK (mergeK [] [(.inr k1, .str v1), (.inr k2, .str v2)]))) := fun c o _ e => by
      have ne : c ≠ p := fun z => by rw [z, np] at e; cases e
      rw [upd_ne ne, upd_ne ne]
      exact e
    have bx : BxO b (upd (upd H p (.dK [])) p (.dK (mergeK [] [(.inr k1, .str v1), (.inr k2, .str v2)]))) m := by
      cases b with
      | none => trivial
      | some q =>
        obtain ⟨x, y, z, h1, h2, h3, h4, h5, h6⟩ := E.bx
        have ne : q ≠ p := fun w => by rw [w, np] at h6; cases h6
        exact ⟨x, y, z, h1, h2, h3, h4, h5, by rw [upd_ne ne, upd_ne ne]; exact h6⟩
    have bp : b ≠ some p := fun z => by
      rw [z] at E
      obtain ⟨_, _, _, _, _, _, _, _, e⟩ := E.bx
      rw [np] at e
      cases e
    refine a.go (E.step st bx) hm hf fun d v H2 h2 s2 b2 d2 => ?_
    cases d with
    | str x =>
      obtain ⟨⟨ne, hx⟩, q⟩ := h2
      have hp := s2 p _ bp (upd_same (H := upd H p (.dK [])))
      have mg : mergeK [] [((.inr k1 : Key), V.str v1), (.inr k2, .str v2)] = [(.inr k1, .str v1), (.inr k2, .str v2)] := by
        show putK (putK [] (Sum.inr k1) (V.str v1)) (Sum.inr k2) (V.str v2) = _
        unfold putK
        simp [ne]
      rw [mg] at hp
      have vv : valV [((.inr k1 : Key), V.str v1), (.inr k2, .str v2)] (.inr x) = some (.str (if x = k1 then v1 else v2)) := by
        unfold valV
        by_cases z : x = k1
        · subst z
          simp
        · have z2 : x = k2 := hx.resolve_left z
          subst z2
          have z3 : ¬ k1 = x := fun w => z w.symm
          simp [z, z3]
      have dg : DGet H2 p (kV (.inr x)) (valV [((.inr k1 : Key), V.str v1), (.inr k2, .str v2)] (.inr x)) := DGet.k hp
      rw [vv] at dg
      rw [d2.vw.str]
      exact ⟨p, _, rfl, dg, k _ _ _ q (st.trans s2) b2 (.str _)⟩
    | _ => exact h2.elim)
/-! a, b, c = x, [], z, by a tuple: b is being made from here on -/
abbrev sTupO (i j l : Nat) (fa fc : FE) : FS := fun ρ E => fa ρ fun x => fc ρ fun z => E.nx (((ρ.set i (.dt x)).set j (.own [])).set l (.dt z))
theorem snds_tupO {i j l : Nat} (a : Snd true K ta ca fa) (r : Snd true K tc cc fc) :
    SndS K (tAsg (tTup (tCons ta (tCons (tLst tNil) (tCons tc tNil)))) (gTup K 3 (gCons (gName i) (gCons (gName j) (gCons (gName l) gNil))))) (ca + cc) (sTupO i j l fa fc) :=
  ⟨fun ρ E E' h q => a.mono _ _ _ (fun x => r.mono _ _ _ fun y => h.nx _) q, fun {G H0 b0 b os m H σ ρ D E} ok hm hf k => a.go ok.env (by omega) hf fun dx vx H1 h1 st bx d1 => by
    have ok1 := ok.step st bx (by omega)
    refine ⟨Nat.zero_le _, fun p np => ?_⟩
    have bp : b ≠ some p := fun z => by
      rw [z] at bx
      obtain ⟨_, _, _, _, _, _, _, _, e⟩ := bx
      rw [np] at e
      cases e
    have E2 := ok1.env.hold (D := p) np (Stp.ex (Evl.Ex.new (o := .lst []) np)) (bx.ex (Evl.Ex.new np)) (by rw [upd_same]; simp)
    refine r.go E2 (by omega) h1 fun dz vz H3 h3 st3 bx3 d3 => ⟨by show 3 ≤ sizeLine; decide, fun t nt => ?_⟩
    refine ⟨t, [vx, .ref p, vz], rfl, .inl (.inl upd_same), rfl, _, _, rfl, _, _, rfl, _, _, rfl, rfl, ?_⟩
    have e3 : H3 p = some (.lst []) := st3 p _ bp upd_same
    have e4 : upd H3 t (.tup [vx, .ref p, vz]) p = some (.lst []) := by
      rw [upd_ne (fun z => by rw [z, nt] at e3; cases e3)]
      exact e3
    have st4 : Stp b H1 (upd H3 t (.tup [vx, .ref p, vz])) := (Stp.ex (Evl.Ex.new (o := .lst []) np)).trans (st3.trans (Stp.ex (Evl.Ex.new nt)))
    have k1 := ok1.kpt (ok1.env.set (i := i) (s := .dt dx) fun z e => ⟨_, e, d1⟩) (kpt_set (vs := [i]) (by simp))
    obtain ⟨o2, l2⟩ := k1.own (i := j) (n := m + ca + cc) np st4 ((bx3.ex (Evl.Ex.new nt)).le (by omega)) (by omega) e4 .nil
    have sub : ∀ c, SO G b (osSet os j p) c → SO G b os c ∨ c = p := fun c h => by
      rcases h with h | h | ⟨n, h⟩
      · exact .inl (.inl h)
      · exact .inl (.inr (.inl h))
      · unfold osSet at h
        split at h
        · cases h
          exact .inr rfl
        · exact .inl (.inr (.inr ⟨n, h⟩))
    have k2 := o2.kpt (o2.env.set (i := l) (s := .dt dz) fun z e => ⟨_, e, Da.mono ((rm_ex (Evl.Ex.new nt)).trans (rm_sub sub)) d3⟩) (kpt_set (vs := [l]) (by simp))
    exact k.nx _ _ _ _ _ h3 (k2.le (by omega)) ((Lk.step st ok.env.bs).trans l2)⟩
end
end Dv
namespace Dv
open PySem PySem.Spec PyProof.Rows L2 Xg
open Classical
/-! a statement that isn't come to -/
theorem ps_never {X : Cx} {st : Stmt} : PS X st (fun _ _ _ => False) := ⟨fun _ _ _ _ _ _ h => h.elim⟩
abbrev sNever : FS := fun _ _ => False
theorem snds_never {K : PySem.W.Frag} : SndS K (fun _ _ _ => False) 0 sNever := ⟨fun _ _ _ _ q => q.elim, fun _ _ hf _ => hf.elim⟩
end Dv
namespace Zq
open PySem PySem.Spec PyProof.Rows L2
open PySem.Sem (wp)
section
variable {prog : Program} {w : World} {A : Around} {E : Value → Shared → Prop} {s : Shared}
/-- zip's five new ones, of a list and a tuple -/
abbrev u1 (g : Heap) (l1 : Addr) : Heap := g.push { cls := .type "list_iterator", data := .fields #[.ref l1, .int 0 0] }
abbrev u2 (g : Heap) (l1 l2 : Addr) : Heap := (u1 g l1).push { cls := .type "tuple_iterator", data := .fields #[.ref l2, .int 0 0] }
abbrev u3 (g : Heap) (l1 l2 : Addr) : Heap := (u2 g l1 l2).push { cls := .type "tuple", data := .seq #[.ref g.objs.size, .ref (u1 g l1).objs.size] }
abbrev u4 (g : Heap) (l1 l2 : Addr) : Heap := (u3 g l1 l2).push { cls := .type "tuple", data := .seq #[.none, .none] }
abbrev u5 (g : Heap) (l1 l2 : Addr) : Heap := (u4 g l1 l2).push { cls := .type "zip", data := .fields #[.none, .bool false, .bool false, .ref (u2 g l1 l2).objs.size, .ref (u3 g l1 l2).objs.size] }
theorem madeU (l1 l2 : Addr) (xs ys : Array Value) : Meets (Builtin.«zip.__new__» ⟨[.type "zip", .ref l1, .ref l2], []⟩) (fun _ R s => s.heap.IsList l1 xs ∧ s.heap.IsTuple l2 ys ∧ R (.ok (.ret (.ref (u4 s.heap l1 l2).objs.size))) { s with heap := u5 s.heap l1 l2 }) :=
  .of_wp fun prog w A R s h => by
    obtain ⟨g, a, d, k, o⟩ := s; obtain ⟨m1, m2, r⟩ := h
    have sub := sub_zip
    have M1 : Heap.IsList (Shared.heap ⟨g, a, d, k, o⟩) l1 xs := m1
    have M2 : Heap.IsTuple (Shared.heap ⟨u1 g l1, a, d, k, o⟩) l2 ys := Heap.IsTuple.push m2 _
    wp_walk using wpAny_pyIter_list M1, wpAny_pyIter_tuple M2
    exact ⟨_, rfl, r⟩
theorem call_zu {l1 l2 : Addr} {xs ys : Array Value} {Q : Value → Shared → Prop} (m1 : s.heap.IsList l1 xs) (m2 : s.heap.IsTuple l2 ys)
    (q : ∀ g, IsZip g (s.heap.objs.size + 4) (s.heap.objs.size + 2) (s.heap.objs.size + 3) .none → IsPair g (s.heap.objs.size + 2) (.ref s.heap.objs.size) (.ref (s.heap.objs.size + 1)) → IsPair g (s.heap.objs.size + 3) .none .none →
      itK false g s.heap.objs.size l1 0 → itK true g (s.heap.objs.size + 1) l2 0 → (∀ c o, s.heap.get? c = some o → g.get? c = some o) → Q (.ref (s.heap.objs.size + 4)) { s with heap := g }) :
    wpAny (model prog w) A (call (.type "zip") [.ref l1, .ref l2]) Q E s := by
  refine callType_new F.called_zip (by decide) (F.typeCall_zip_2 _ _) (F.newCall_zip_2 _ _) (fun obj => F.args_object_init_3 obj _ _) F.entry_zip_new (madeU l1 l2 xs ys) ⟨m1, m2, ?_⟩
  have n1 : (u1 s.heap l1).objs.size = s.heap.objs.size + 1 := Heap.size_push ..
  have n2 : (u2 s.heap l1 l2).objs.size = s.heap.objs.size + 2 := (Heap.size_push ..).trans (congrArg (· + 1) n1)
  have n3 : (u3 s.heap l1 l2).objs.size = s.heap.objs.size + 3 := (Heap.size_push ..).trans (congrArg (· + 1) n2)
  have n4 : (u4 s.heap l1 l2).objs.size = s.heap.objs.size + 4 := (Heap.size_push ..).trans (congrArg (· + 1) n3)
  have k1 : ∀ {c : Addr} {o : Obj}, (u1 s.heap l1).get? c = some o → (u5 s.heap l1 l2).get? c = some o := fun e => Heap.get?_push_of_some _ (Heap.get?_push_of_some _ (Heap.get?_push_of_some _ (Heap.get?_push_of_some _ e)))
  have k2 : ∀ {c : Addr} {o : Obj}, (u2 s.heap l1 l2).get? c = some o → (u5 s.heap l1 l2).get? c = some o := fun e => Heap.get?_push_of_some _ (Heap.get?_push_of_some _ (Heap.get?_push_of_some _ e))
  have g5 : (u5 s.heap l1 l2).get? (u4 s.heap l1 l2).objs.size = some _ := Heap.get?_push_size _ rfl
  have g4 : (u5 s.heap l1 l2).get? (u3 s.heap l1 l2).objs.size = some _ := Heap.get?_push_of_some _ (Heap.get?_push_size _ rfl)
  have g3 : (u5 s.heap l1 l2).get? (u2 s.heap l1 l2).objs.size = some _ := Heap.get?_push_of_some _ (Heap.get?_push_of_some _ (Heap.get?_push_size _ rfl))
  have g2 : (u5 s.heap l1 l2).get? (u1 s.heap l1).objs.size = some _ := k2 (Heap.get?_push_size _ rfl)
  have g1 : (u5 s.heap l1 l2).get? s.heap.objs.size = some _ := k1 (Heap.get?_push_size _ rfl)
  show _ ∧ _
  rw [n2, n3, n4] at g5
  rw [n3] at g4
  rw [n1, n2] at g3
  rw [n1] at g2
  rw [n4]
  exact ⟨⟨_, g5, rfl⟩, q _ g5 g3 g4 ⟨_, g1, rfl, rfl⟩ ⟨_, g2, rfl, rfl⟩ fun c o e => k1 (Heap.get?_push_of_some _ e)⟩
end
/-- a list at a, a tuple at b, pair by pair -/
def ItU (K : PySem.W.Frag) (a b : Addr) : It where
  go i H := ∃ (xs ys : List V) (x y : V), (SqL K H a xs ∧ xs[i]? = some x) ∧ (SqT K H b ys ∧ ys[i]? = some y)
  yld i H v H' := ∃ W x y, v = .ref W ∧ H W = none ∧ H' = upd H W (.tup [x, y]) ∧ (∀ l, SqL K H a l → l[i]? = some x) ∧ (∀ l, SqT K H b l → l[i]? = some y)
  stop i H := ∃ xs ys : List V, SqL K H a xs ∧ SqT K H b ys ∧ min xs.length ys.length ≤ i
def tnU (z S T p1 p2 a b : Addr) (i : Nat) (g : Heap) : Prop := IsZip g z S T .none ∧ IsPair g S (.ref p1) (.ref p2) ∧ (∃ x y, IsPair g T x y) ∧ itK false g p1 a i ∧ itK true g p2 b i
theorem tnU_obj {z S T p1 p2 a b : Addr} {i : Nat} {g : Heap} (st : tnU z S T p1 p2 a b i g) {c : Addr} (hc : c ∈ [z, S, T, p1, p2]) : ∃ o, g.get? c = some o ∧ ∀ v, o.data ≠ .cell v := by
  obtain ⟨z0, S0, ⟨x, y, T0⟩, f1, f2⟩ := st
  obtain ⟨o1, g1, d1⟩ := it_obj f1
  obtain ⟨o2, g2, d2⟩ := it_obj f2
  refine five hc (fun e => ?_) (fun e => ?_) (fun e => ?_) (fun e => ?_) (fun e => ?_) <;> rw [e]
  · exact ⟨_, z0, fun _ k => nomatch k⟩
  · exact ⟨_, S0, fun _ k => nomatch k⟩
  · exact ⟨_, T0, fun _ k => nomatch k⟩
  · exact ⟨o1, g1, fun _ k => by cases d1.symm.trans k⟩
  · exact ⟨o2, g2, fun _ k => by cases d2.symm.trans k⟩
theorem turn_U {P : Program} {w : World} {K : PySem.W.Frag} {es : List Expr} {kk : Nat} {tp : Pos} {a b z S T p1 p2 : Addr} (D : ZipApart z S T p1 p2 a b) :
    Turn P w K (.Tuple es kk tp) (ItU K a b) [z, S, T, p1, p2] z (tnU z S T p1 p2 a b) where
  mem := List.mem_cons_self
  obj := fun i g st c hc => tnU_obj st hc
  keep := fun i g g' ⟨z0, S0, ⟨x, y, T0⟩, f1, f2⟩ k => ⟨k z (by simp) _ z0, k S (by simp) _ S0, ⟨x, y, k T (by simp) _ T0⟩, it_at f1 (k p1 (by simp)), it_at f2 (k p2 (by simp))⟩
  item := by
    rintro X rfl rfl rfl hc i pins s σ H E I hf st ⟨xs, ys, x, y, ⟨qx, ex⟩, qy, ey⟩
    have lts : ∀ c ∈ [z, S, T, p1, p2], c < s.heap.objs.size := fun c hm => let ⟨_, e, _⟩ := tnU_obj st hm; Heap.lt_size e
    obtain ⟨z0, S0, ⟨x0, y0, T0⟩, f1, f2⟩ := st
    obtain ⟨us, r1, m1, _⟩ := I.list qx
    obtain ⟨vs, r2, m2, _⟩ := I.tuple qy
    obtain ⟨u, eu, ru⟩ := r1.get ex
    obtain ⟨v, ev, rv⟩ := r2.get ey
    refine pyn_item (t := false) (u := true) D z0 S0 T0 f1 f2 m1.isList m2 (x := u) (y := v) (by simpa using eu) (by simpa using ev) fun g z1 T1 f1' f2' W1 n1 st => ⟨_, rfl, ?_⟩
    refine wpAny_letOwnedTupleGo_zip (s := { s with heap := g }) z1 fun g' z2 sb => ?_
    have out : ∀ c o, c ∉ [z, S, T, p1, p2] → s.heap.get? c = some o → g'.get? c = some o := fun c o hb e => by
      have h5 : c ≠ z ∧ c ≠ T ∧ c ≠ p1 ∧ c ≠ p2 := by
        simp only [List.mem_cons, List.not_mem_nil, or_false, not_or] at hb
        exact ⟨hb.1, hb.2.2.1, hb.2.2.2.1, hb.2.2.2.2⟩
      exact (sb.2 c h5.1).trans (st c o h5.1 h5.2.1 h5.2.2.1 h5.2.2.2 e)
    have W2 : g'.get? s.heap.objs.size = some { cls := .type "tuple", data := .seq #[u, v] } := (sb.2 _ (Nat.ne_of_gt (lts z List.mem_cons_self))).trans W1
    have okW : ObjOk X.prog X.w (upd H s.heap.objs.size (.tup [x, y])) g' s.heap.objs.size (.tup [x, y]) := ⟨(by decide : 2 ≤ sizeLine), [u, v], .cons ru (.cons rv .nil), ⟨_, W2, rfl, _, rfl⟩⟩
    have I' : Inv X pins σ (upd H s.heap.objs.size (.tup [x, y])) { s with heap := g' } := I.turnedNew (t' := s.toks) (ch := [z, S, T, p1, p2]) out hf (Nat.le_refl _) okW
    refine ⟨.ref s.heap.objs.size, _, I', rfl, ⟨_, x, y, rfl, I.hok.fresh (Nat.le_refl _), rfl, fun l hl => I.list_inj hl qx ▸ ex, fun l hl => I.tuple_inj hl qy ▸ ey⟩, ⟨z2, ?_, ⟨u, v, ?_⟩, it_at f1' fun o e => (sb.2 _ D.i1z).trans e, it_at f2' fun o e => (sb.2 _ D.i2z).trans e⟩, fun c hm => ?_⟩
    · exact (sb.2 _ D.TIz).trans (st _ _ D.TIz D.TITO D.TIi1 D.TIi2 S0)
    · exact (sb.2 _ D.TOz).trans T1
    · exact (upd_ne (Nat.ne_of_lt (lts c hm))).trans (hf c hm).1
  done := by
    rintro X rfl rfl rfl hc i pins s σ H E I hf ⟨z0, S0, ⟨x0, y0, T0⟩, f1, f2⟩ ⟨xs, ys, qx, qy, he⟩
    obtain ⟨us, r1, m1, _⟩ := I.list qx
    obtain ⟨vs, r2, m2, _⟩ := I.tuple qy
    have n1 := r1.length
    have n2 := r2.length
    have no : us.toArray[i]? = none ∨ vs.toArray[i]? = none := by
      simp only [List.getElem?_toArray, List.getElem?_eq_none_iff]
      omega
    refine pyn_end (t := false) (u := true) (I.ok.hd hc) D z0 S0 T0 f1 f2 m1.isList m2 no fun g st => ⟨rfl, I.turnedL (t' := s.toks) (ch := [z, S, T, p1, p2]) (fun c o hb e => ?_) hf⟩
    simp only [List.mem_cons, List.not_mem_nil, or_false, not_or] at hb
    exact st c o hb.1 hb.2.2.1 hb.2.2.2.1 hb.2.2.2.2 e
  self := fun A i s Q E st q => wpAny_pyIter_zip st.1 q
theorem walk_zipU {K : PySem.W.Frag} {a b : Addr} {xs ys : List V} {n : Nat} (hn : n = min xs.length ys.length) : Walk (ItU K a b) n (fun H => SqL K H a xs ∧ SqT K H b ys) (YPair (fun i => xs[i]?) (fun i => ys[i]?)) := by
  subst hn
  refine ⟨fun i _ hi q => ?_, fun _ q => ⟨xs, ys, q.1, q.2, Nat.le_refl _⟩, fun i H v H' _ q ⟨W, x, y, g1, g2, g3, g4, g5⟩ => ⟨W, x, y, g1, g2, g3, g4 xs q.1, g5 ys q.2⟩⟩
  exact ⟨xs, ys, xs[i]'(by omega), ys[i]'(by omega), ⟨q.1, List.getElem?_eq_getElem _⟩, q.2, List.getElem?_eq_getElem _⟩
def iZipU (K : PySem.W.Frag) (ta : TA) : TI := fun σ H R => ta σ H fun vs H1 => ∃ a b xs ys, vs = [.ref a, .ref b] ∧ SqL K H1 a xs ∧ SqT K H1 b ys ∧ R (ItU K a b) H1
theorem pi_zipU {X : Cx} {e e' : Expr} {ta : TA} {p pos tp : Pos} {es : List Expr} {kk : Nat} (hg : Gl X "zip") (hm : X.mg "zip" = none) (ha : PA X [e, e'] ta)
    (hs : starEach [e, e'] X.env = (false, eval e X.env) :: starEach [e'] X.env := by rfl) (hp : (backTo pos (starEach [e'] X.env)).any (·.1) = false := by rfl) : PI X (.Tuple es kk tp) (.Call (.Name "zip" p) [e, e'] [] pos) (iZipU X.K ta) := by
  refine ⟨fun pins s σ H R I h => Call_ (ld_blt I hg hm PyProof.Rows.boot_zip (PyProof.Rows.callWith_type1 (thn (ha.run pos pins s σ H _ I h) fun us s1 ⟨vs, H1, I1, r1, a, b, xs, ys, ex, qx, qy, q⟩ => ?_) hs hp))⟩
  subst ex
  cases r1 with
  | cons ra rr =>
  cases rr with
  | cons rb rr =>
  cases rr
  cases ra
  cases rb
  obtain ⟨is, _, m1, _⟩ := I1.list qx
  obtain ⟨js, _, m2, _⟩ := I1.tuple qy
  have lb : b < s1.heap.objs.size := let ⟨_, e, _⟩ := id m2; Heap.lt_size e
  refine call_zu m1.isList (show s1.heap.IsTuple b js.toArray from m2) fun g z0 S0 T0 f1 f2 k => wpAny_pyIter_zip z0 ?_
  refine ⟨s1.heap.objs.size + 4, _, _, _, H1, rfl, I1.kept (t' := s1.toks) k, turn_U (PySem.W.ktu_apart s1.heap.objs.size a b m1.lt lb), ⟨z0, S0, ⟨_, _, T0⟩, f1, f2⟩, fun c hm => ?_, q⟩
  have le : s1.heap.objs.size ≤ c := five hm (fun e => by rw [e]; exact Nat.le_add_right _ 4) (fun e => by rw [e]; exact Nat.le_add_right _ 2) (fun e => by rw [e]; exact Nat.le_add_right _ 3) (fun e => by rw [e]; exact Nat.le_refl _) (fun e => by rw [e]; exact Nat.le_add_right _ 1)
  exact I1.fpOk le (I1.hok.fresh le)
end Zq
namespace Dv
open PySem PySem.Spec PyProof.Rows L2 Xg
open Classical
section
variable {K : PySem.W.Frag} {md : Bool} {ta tb : TE} {ca cb : Nat} {fa fb : FE}
/-! zip(x, y), x a list, y a tuple -/
abbrev zipUQ (Q : List PyData → Prop) : PyData → PyData → Prop
  | .list a, .tuple b => Q (zipD a b)
  | _, _ => False
theorem zipUQ_mono {P P' : List PyData → Prop} (h : ∀ k, P k → P' k) : ∀ x y, zipUQ P x y → zipUQ P' x y := fun x y g => by
  cases x <;> cases y <;> first | exact h _ g | exact g.elim
abbrev fZipU (f g : FE) : FD := fun ρ Q => f ρ fun x => g ρ fun y => zipUQ Q x y
theorem sndi_zipU (a : Snd md K ta ca fa) (a2 : Snd md K tb cb fb) : SndI md K (Zq.iZipU K (tCons ta (tCons tb tNil))) (ca + cb) (fZipU fa fb) := ⟨fun ρ P P' h g => a.mono _ _ _ (fun x => a2.mono _ _ _ fun y => zipUQ_mono h x y) g,
  fun {b S m σ H ρ R P} E hm hf k => a.go E (by omega) hf fun dx v H1 p st bx vd => a2.go (E.step st bx) (by omega) p fun dy v2 H2 p2 st2 bx2 vd2 => by
    have vd := vd.step st2 E.bs
    have sx : sq (fun _ => True) dx := by
      cases dx <;> cases dy <;> first | trivial | exact p2.elim
    have sy : sq (fun _ => True) dy := by
      cases dx <;> cases dy <;> first | trivial | exact p2.elim
    obtain ⟨p1, xs, ds, rfl, _, g, hh⟩ := vd.seq sx E.bs
    obtain ⟨q1, ys, es, rfl, _, g2, hh2⟩ := vd2.seq sy E.bs
    have turn : ∀ (i : Nat) (H : Hp) (x : V) (H' : Hp), YPair (fun i => xs[i]?) (fun i => ys[i]?) i H x H' → ∀ T, Evl.Ex (rm H2 S) (rm H T) → Al T H → Evl.Ex H H' ∧ ∃ d, (zipD ds es)[i]? = some d ∧ Da K (rm H' T) x d := fun i H x H' y T hT al => by
      obtain ⟨T, u, w, rfl, nT, rfl, eu, ew⟩ := y
      obtain ⟨d, e1, e2⟩ := at_of g hT eu
      obtain ⟨e, f1, f2⟩ := at_of g2 hT ew
      refine ⟨Evl.Ex.new nT, _, ?_, new_tup al nT (.cons e2 (.cons f2 .nil))⟩
      unfold zipD
      rw [List.getElem?_zipWith, e1, f1]
    have ln : min xs.length ys.length = (zipD ds es).length := by
      unfold zipD
      rw [List.length_zipWith, g.len, g2.len]
    have st3 := st.trans st2
    have bx3 : BxO b H2 (m + (ca + cb)) := bx2.le (by omega)
    rcases hh with ⟨rfl, hL⟩ | ⟨rfl, hL⟩ <;> rcases hh2 with ⟨rfl, hL2⟩ | ⟨rfl, hL2⟩
    · exact p2.elim
    · exact ⟨p1, q1, xs, ys, rfl, hL _ KG.refl, hL2 _ KG.refl, k _ _ H2 p2 st3 bx3 (wk_of (Zq.walk_zipU (xs := xs) (ys := ys) rfl) ln (fun H3 kg => ⟨hL H3 kg, hL2 H3 kg⟩) fun i H x H' hi => turn i H x H')⟩
    · exact p2.elim
    · exact p2.elim⟩
end
end Dv
namespace Dv
open PySem PySem.Spec PyProof.Rows L2 Xg
open Classical
/-! f(b = y, a = x): by names alone, the last one first -/
theorem pe_kwG {X : Cx} {k : Nat} {f : Addr} {fd : FuncData} {ps ks : List Str} {sp : Sp} {x : Str} {p pos : Pos} {kws : List Keyword} {tk : TA} {g : {α : Type} → List α → List α}
    (F : FnG X.prog X.w X.K X.mg X.base k f fd ps sp) (hG : X.A.guards = some []) (hr : Room k X.A) (hg : Gl X x) (hm : X.mg x = some (.ref f)) (hk : PySem.W.keepIn X.K (.ref f) = true)
    (hb : KwOnly X.K fd ps ks g) (hrel : ∀ {zs : List V} {ws : List Value}, Vals zs ws → Vals (g zs) (g ws)) (hkw : PK X kws tk)
    (hall : (backToKw pos (keywordEach kws X.env)).all (·.1.isSome) = true := by rfl) (hks : (backToKw pos (keywordEach kws X.env)).filterMap (·.1) = ks := by rfl)
    (hdb : (x == ("__debug__" : Str)) = false := by decide) (hpl : ((backTo pos (starEach [] X.env)).any (·.1) || (backToKw pos (keywordEach kws X.env)).any (·.1.isNone)) = false := by rfl) :
    PE X (.Call (.Name x p) [] kws pos) (tKw ks.length sp g tk) := by
  refine ⟨fun pins s σ H Q I h => wpAny_Call_Name_kw (ld_glob I hg hm ?_ hdb)⟩
  refine PySem.W.callWith_KW0 (h₀ := X.base) I.ok.mod.kin hk hall (thn (hkw.run pos pins s σ H _ I h) fun ws s1 ⟨zs, H1, I1, rz, l1, q⟩ => ⟨I1.kIn, ?_⟩) hpl
  rw [hks]
  refine wpAny_call (codeAny_mono (F.run X.A X.stack s1 H1 ⟨[], ks.zip ws⟩ (g ws) (g zs) Q hG hr I1.env0 (hb s1 ws I1.kIn (rz.length.symm.trans l1)) (hrel rz) q) fun res s' hq => ?_)
  cases res with
  | error er => exact hq.elim
  | ok fl =>
    cases fl with
    | ret u => exact I1.after hq
    | next => exact False.elim hq
    | brk => exact False.elim hq
    | cont => exact False.elim hq
/-- a def with how it binds by names, the last one first -/
structure DfR (P : Program) (w : World) (K : PySem.W.Frag) (mg : Str → Option Value) (base : Heap) (x : Str) (ps : List Str) (k : Nat) (sp : Sp) : Prop where
  ex : ∃ (f : Addr) (fd : FuncData), FnG P w K mg base k f fd ps sp ∧ mg x = some (.ref f) ∧ PySem.W.keepIn K (.ref f) = true ∧ KwOnly K fd ps ps.reverse List.reverse
theorem pe_dfr {X : Cx} {x : Str} {ps : List Str} {k n : Nat} {sp : Sp} {p pos : Pos} {kws : List Keyword} {tk : TA} (D : DfR X.prog X.w X.K X.mg X.base x ps k sp) (hG : X.A.guards = some []) (hr : Room k X.A) (hg : Gl X x) (hkw : PK X kws tk) (hn : ps.reverse.length = n := by rfl)
    (hall : (backToKw pos (keywordEach kws X.env)).all (·.1.isSome) = true := by rfl) (hks : (backToKw pos (keywordEach kws X.env)).filterMap (·.1) = ps.reverse := by rfl)
    (hdb : (x == ("__debug__" : Str)) = false := by decide) (hpl : ((backTo pos (starEach [] X.env)).any (·.1) || (backToKw pos (keywordEach kws X.env)).any (·.1.isNone)) = false := by rfl) :
    PE X (.Call (.Name x p) [] kws pos) (tKw n sp List.reverse tk) := by
  subst hn
  obtain ⟨f, fd, G, gm, kp, b⟩ := D.ex
  exact pe_kwG G hG hr hg gm kp b (fun r => r.reverse) hkw hall hks hdb hpl
section
variable {K : PySem.W.Frag} {tr : TA} {cr c : Nat} {fr : FA}
theorem ArgL.app {b : Option Addr} {S : Addr → Prop} {H : Hp} : ∀ {vs ws : List V} {as bs : List Sl}, ArgL K b S H vs as → ArgL K b S H ws bs → ArgL K b S H (vs ++ ws) (as ++ bs)
  | _, _, _, _, .nil, h => h
  | _, _, _, _, .cons h g, k => .cons h (ArgL.app g k)
theorem ArgL.rev {b : Option Addr} {S : Addr → Prop} {H : Hp} : ∀ {vs : List V} {as : List Sl}, ArgL K b S H vs as → ArgL K b S H vs.reverse as.reverse
  | _, _, .nil => .nil
  | _, _, .cons h g => by
    rw [List.reverse_cons, List.reverse_cons]
    exact (ArgL.rev g).app (.cons h .nil)
abbrev eKw (n : Nat) (F : FF) (fr : FA) : FE := fun ρ Q => fr ρ fun as => as.length = n ∧ F as.reverse Q
theorem snd_kw {n : Nat} {F : FF} (mF : MonoF F) (r : SndA K tr cr fr) : Snd true K (tKw n (spD K c F) List.reverse tr) (cr + c) (eKw n F fr) := mk_snd
  (fun ρ P P' h g => r.mono _ _ _ (fun as z => ⟨z.1, mF _ _ _ h z.2⟩) g)
  (fun {b S m σ H ρ Q P} E hm hf k => r.go E (by omega) hf fun as vs H1 h1 s1 b1 d1 => ⟨by rw [d1.len, h1.1], b, S, m + cr, as.reverse, d1.rev, b1, E.bs, (E.step s1 b1).al, by omega,
    mF _ _ _ (fun d p v H' s2 b2 d2 => k _ _ _ p (s1.trans s2) (b2.le (by omega)) d2) h1.2⟩)
/-! numbers of a list or of a tuple -/
end
end Dv
/-! least and greatest of a tuple of numbers, too -/
namespace Dv
open PySem PySem.Spec PyProof.Rows L2 Xg
theorem at_int {ns : List Int} {is : List Value} {i : Nat} {v : Value} (rv : Vals (ns.map V.int) is) (hv : is.toArray[i]? = some v) : i < ns.length ∧ ∃ t, v = .int (ns.getD i 0) t := by
  rw [List.getElem?_toArray] at hv
  have ln := rv.length
  rw [List.length_map] at ln
  have il : i < ns.length := by
    have := (List.getElem?_eq_some_iff.mp hv).1
    omega
  have e1 : (ns.map V.int)[i]? = some (.int (ns.getD i 0)) := by
    rw [List.getElem?_map, List.getElem?_eq_getElem il, List.getD_eq_getElem?_getD, List.getElem?_eq_getElem il]
    rfl
  obtain ⟨u, e2, e3⟩ := Vals.get rv e1
  rw [hv] at e2
  cases e2
  exact ⟨il, e3⟩
def rMinT (K : PySem.W.Frag) : List V → Hp → VK → Prop := fun vs H Q => ∃ (a : Addr) (ns : List Int), vs = [V.ref a] ∧ SqT K H a (ns.map V.int) ∧ 0 < ns.length ∧ ∀ m, m ∈ ns → (∀ y, y ∈ ns → m ≤ y) → Q (.int m) H
theorem cr_minT {X : Cx} (hc : X.calm = true) : CallR X (.builtin "min") (rMinT X.K) := by
  intro pins s σ H vs us Q I r h
  obtain ⟨a, ns, rfl, hs, hne, q⟩ := h
  obtain ⟨is, rv, m1, _⟩ := I.tuple hs
  rw [Vals.ref1 r]
  have la : a < s.heap.objs.size := let ⟨_, e, _⟩ := id m1; Heap.lt_size e
  have ln : is.toArray.size = ns.length := by
    have := rv.length
    rw [List.length_map] at this
    rw [List.size_toArray, ← this]
  refine call_min_walk (wpAny_pyIter_tuple (show s.heap.IsTuple a is.toArray from m1) ⟨_, _, _, _, _, _, _, rfl, Walks.tuple (A := X.A.in1) (I.ok.hd hc) s.heap.objs.size a (Nat.ne_of_lt la) is.toArray,
    ⟨⟨_, Heap.get?_push_size _ rfl, rfl, rfl⟩, ?_⟩, fun b hb => ?_, by rw [ln]; exact hne, CmpOf.ints_lt (fun i => ns.getD i 0) (fun i v hv => (at_int rv hv).2), fun v h' tk hP hk => ?_⟩)
  · have m2 : s.heap.IsTuple a is.toArray := m1
    exact m2.at fun o e => Heap.get?_push_of_some _ e
  · rw [Heap.size_push]
    rcases List.mem_cons.mp hb with z | z
    · rw [z]; exact Nat.lt_succ_self _
    · rw [List.mem_singleton.mp z]; exact Nat.lt_succ_of_lt la
  · obtain ⟨il, t, rfl⟩ := at_int rv hP
    obtain ⟨_, b2⟩ := argBest_lt (fun i => ns.getD i 0) (is.toArray.size - 1)
    refine ⟨.int _, H, I.kept fun b o x => hk b o (fun z => by rw [List.mem_singleton.mp z] at x; exact absurd (Heap.lt_size x) (Nat.lt_irrefl _)) (Heap.get?_push_of_some _ x), ⟨_, rfl⟩, q _ ?_ fun y hy => ?_⟩
    · rw [List.getD_eq_getElem?_getD, List.getElem?_eq_getElem il]
      exact List.getElem_mem il
    · obtain ⟨j, hj, rfl⟩ := List.getElem_of_mem hy
      have z := b2 j (by rw [ln]; omega)
      rw [List.getD_eq_getElem?_getD (l := ns) (i := j), List.getElem?_eq_getElem hj] at z
      exact z
abbrev rMinX (K : PySem.W.Frag) : List V → Hp → VK → Prop := fun vs H Q => rMin K vs H Q ∨ rMinT K vs H Q
theorem cr_minX {X : Cx} (hc : X.calm = true) : CallR X (.builtin "min") (rMinX X.K) := callr_or (cr_min hc) (cr_minT hc)
abbrev minX : PyData → (PyData → Prop) → Prop
  | .list ds, Q => ∃ ns : List Int, ds = ns.map PyData.int ∧ 0 < ns.length ∧ ∀ m, m ∈ ns → (∀ y, y ∈ ns → m ≤ y) → Q (.int m)
  | .tuple ds, Q => ∃ ns : List Int, ds = ns.map PyData.int ∧ 0 < ns.length ∧ ∀ m, m ∈ ns → (∀ y, y ∈ ns → m ≤ y) → Q (.int m)
  | _, _ => False
theorem cs_minX {K : PySem.W.Frag} : CallSnd K (rMinX K) (g1 minX) := call1
  (fun x P P' h q => by cases x <;> first | exact let ⟨ns, e, z1, z2⟩ := q; ⟨ns, e, z1, fun m a b => h _ (z2 m a b)⟩ | exact q.elim)
  (fun {b S H v d Q P} al h q k => by
    cases d <;> first | exact q.elim | skip
    · obtain ⟨ns, rfl, q1, q2⟩ := q
      obtain ⟨p, vs, rfl, e, g⟩ := h.list
      rw [g.ints_inv] at e
      exact .inl ⟨p, ns, rfl, .inl (.inl e), q1, fun m a b => k _ _ _ (q2 m a b) (Evl.Ex.refl _) (.int _)⟩
    · obtain ⟨ns, rfl, q1, q2⟩ := q
      obtain ⟨p, vs, rfl, e, g⟩ := h.tuple
      rw [g.ints_inv] at e
      exact .inr ⟨p, ns, rfl, e, q1, fun m a b => k _ _ _ (q2 m a b) (Evl.Ex.refl _) (.int _)⟩)
def rMaxT (K : PySem.W.Frag) : List V → Hp → VK → Prop := fun vs H Q => ∃ (a : Addr) (ns : List Int), vs = [V.ref a] ∧ SqT K H a (ns.map V.int) ∧ 0 < ns.length ∧ ∀ m, m ∈ ns → (∀ y, y ∈ ns → y ≤ m) → Q (.int m) H
theorem cr_maxT {X : Cx} (hc : X.calm = true) : CallR X (.builtin "max") (rMaxT X.K) := by
  intro pins s σ H vs us Q I r h
  obtain ⟨a, ns, rfl, hs, hne, q⟩ := h
  obtain ⟨is, rv, m1, _⟩ := I.tuple hs
  rw [Vals.ref1 r]
  have la : a < s.heap.objs.size := let ⟨_, e, _⟩ := id m1; Heap.lt_size e
  have ln : is.toArray.size = ns.length := by
    have := rv.length
    rw [List.length_map] at this
    rw [List.size_toArray, ← this]
  refine call_max_walk (wpAny_pyIter_tuple (show s.heap.IsTuple a is.toArray from m1) ⟨_, _, _, _, _, _, _, rfl, Walks.tuple (A := X.A.in1) (I.ok.hd hc) s.heap.objs.size a (Nat.ne_of_lt la) is.toArray,
    ⟨⟨_, Heap.get?_push_size _ rfl, rfl, rfl⟩, ?_⟩, fun b hb => ?_, by rw [ln]; exact hne, CmpOf.ints_gt (fun i => ns.getD i 0) (fun i v hv => (at_int rv hv).2), fun v h' tk hP hk => ?_⟩)
  · have m2 : s.heap.IsTuple a is.toArray := m1
    exact m2.at fun o e => Heap.get?_push_of_some _ e
  · rw [Heap.size_push]
    rcases List.mem_cons.mp hb with z | z
    · rw [z]; exact Nat.lt_succ_self _
    · rw [List.mem_singleton.mp z]; exact Nat.lt_succ_of_lt la
  · obtain ⟨il, t, rfl⟩ := at_int rv hP
    obtain ⟨_, b2⟩ := argBest_gt (fun i => ns.getD i 0) (is.toArray.size - 1)
    refine ⟨.int _, H, I.kept fun b o x => hk b o (fun z => by rw [List.mem_singleton.mp z] at x; exact absurd (Heap.lt_size x) (Nat.lt_irrefl _)) (Heap.get?_push_of_some _ x), ⟨_, rfl⟩, q _ ?_ fun y hy => ?_⟩
    · rw [List.getD_eq_getElem?_getD, List.getElem?_eq_getElem il]
      exact List.getElem_mem il
    · obtain ⟨j, hj, rfl⟩ := List.getElem_of_mem hy
      have z := b2 j (by rw [ln]; omega)
      rw [List.getD_eq_getElem?_getD (l := ns) (i := j), List.getElem?_eq_getElem hj] at z
      exact z
abbrev rMaxX (K : PySem.W.Frag) : List V → Hp → VK → Prop := fun vs H Q => rMax K vs H Q ∨ rMaxT K vs H Q
theorem cr_maxX {X : Cx} (hc : X.calm = true) : CallR X (.builtin "max") (rMaxX X.K) := callr_or (cr_max hc) (cr_maxT hc)
abbrev maxX : PyData → (PyData → Prop) → Prop
  | .list ds, Q => ∃ ns : List Int, ds = ns.map PyData.int ∧ 0 < ns.length ∧ ∀ m, m ∈ ns → (∀ y, y ∈ ns → y ≤ m) → Q (.int m)
  | .tuple ds, Q => ∃ ns : List Int, ds = ns.map PyData.int ∧ 0 < ns.length ∧ ∀ m, m ∈ ns → (∀ y, y ∈ ns → y ≤ m) → Q (.int m)
  | _, _ => False
theorem cs_maxX {K : PySem.W.Frag} : CallSnd K (rMaxX K) (g1 maxX) := call1
  (fun x P P' h q => by cases x <;> first | exact let ⟨ns, e, z1, z2⟩ := q; ⟨ns, e, z1, fun m a b => h _ (z2 m a b)⟩ | exact q.elim)
  (fun {b S H v d Q P} al h q k => by
    cases d <;> first | exact q.elim | skip
    · obtain ⟨ns, rfl, q1, q2⟩ := q
      obtain ⟨p, vs, rfl, e, g⟩ := h.list
      rw [g.ints_inv] at e
      exact .inl ⟨p, ns, rfl, .inl (.inl e), q1, fun m a b => k _ _ _ (q2 m a b) (Evl.Ex.refl _) (.int _)⟩
    · obtain ⟨ns, rfl, q1, q2⟩ := q
      obtain ⟨p, vs, rfl, e, g⟩ := h.tuple
      rw [g.ints_inv] at e
      exact .inr ⟨p, ns, rfl, e, q1, fun m a b => k _ _ _ (q2 m a b) (Evl.Ex.refl _) (.int _)⟩)
end Dv
namespace Dv
open PySem PySem.Spec PyProof.Rows L2 Xg
open Classical
section
variable {K : PySem.W.Frag} {md : Bool} {ta : TE} {ca : Nat} {fa : FE}
/-! isinstance(x, (list, tuple)) -/
theorem kitLT {t : String} {b c : Bool} (h1 : kitB t "list" = some b) (h2 : kitB t "tuple" = some c) : PySem.W.kitAny K (.type t) [.type "list", .type "tuple"] = some (b || c) := by
  refine kitAny_cons (kit_ty h1) (fun e => ?_) (fun e => by rw [e]; rfl)
  subst e
  refine kitAny_cons (kit_ty h2) (fun e => ?_) (fun e => by rw [e]; rfl)
  subst e
  exact kitAny_nil
abbrev eIsiLT (fa : FE) : FE := fun ρ Q => fa ρ fun d => Q (.bool (isD .list d || isD .tuple d))
theorem snd_isiLT (a : Snd md K ta ca fa) : Snd true K (tCB (rIsiT K) (tCons ta (tCons (tTup (tCons (tC (.ty "list")) (tCons (tC (.ty "tuple")) tNil))) tNil))) ca (eIsiLT fa) := mk_snd
  (fun ρ P P' h q => a.mono _ _ _ (fun d => h _) q)
  (fun E hm hf k => a.go E hm hf fun d v H1 p st bx vd => ⟨by show 2 ≤ sizeLine; decide, fun t nt =>
    ⟨v, t, _, _, _, isD .list d || isD .tuple d, rfl, upd_same, .cons (.ty _) (.cons (.ty _) .nil), ty_of ((vd.vw.step (H' := upd H1 t (.tup [.ty "list", .ty "tuple"])) (Stp.ex (Evl.Ex.new nt)) E.bs).dp), kitLT (kit_is .list d) (kit_is .tuple d),
      k _ _ _ p (st.trans (Stp.ex (Evl.Ex.new nt))) (bx.ex (Evl.Ex.new nt)) (.bl _)⟩⟩)
end
/-! all tuples made lists, at any depth -/
mutual
def lsD : PyData → PyData
  | .list ds => .list (lsL ds)
  | .tuple ds => .list (lsL ds)
  | .none => .none
  | .bool b => .bool b
  | .int i => .int i
  | .str x => .str x
  | .dict kvs => .dict kvs
def lsL : List PyData → List PyData
  | [] => []
  | d :: ds => lsD d :: lsL ds
end
def F_ls (n : Nat) : FF := fun as Q => match as with
  | [.dt d] => shal n d = true ∧ Q (lsD d)
  | _ => False
theorem m_ls (n : Nat) : MonoF (F_ls n) := fun as P P' h q => by
  unfold F_ls at q ⊢
  split at q
  · exact ⟨q.1, h _ q.2⟩
  · exact q.elim
/-- by so many calls, one in another -/
def F_lq : Nat → FF
  | 0 => fun _ _ => False
  | n + 1 => F_ls n
theorem m_lq : ∀ n : Nat, MonoF (F_lq n)
  | 0 => fun _ _ _ _ q => q
  | n + 1 => m_ls n
abbrev b_ls (n : Nat) : FS := (sRet (eIf (fTest (eIsiLT (eVar 0))) (eL (fComp 1000000 (fIt (eVar 0)) [1] (gN 1) fYes (eCall (F_lq n) (aCons (eVar 1) aNil)))) (eVar 0)))
def t_ls (K : PySem.W.Frag) (n : Nat) : TS := (tRet (tIf (tB (tCB (rIsiT K) (tCons (tVar 0) (tCons (tTup (tCons (tC (.ty "list")) (tCons (tC (.ty "tuple")) tNil))) tNil)))) (tLc (Pw.iSeq K (tVar 0)) (gName 1) tYes (tCallG (spD K 0 (F_lq n)) (tCons (tVar 1) tNil)) [1]) (tVar 0)))
theorem s_ls (K : PySem.W.Frag) (n : Nat) : SndS K (t_ls K n) 0 (b_ls n) := (snds_ret (snd_if (sndt_B (snd_isiLT snd_var)) (SndL.d (sndl_comp (N := 1000000) (by decide) (sndi_seq (Snd.v snd_var)) (sndg_name (by decide)) sndt_yes (snd_call (m_lq n) (snda_cons snd_var snda_nil)))) snd_var))
theorem comp_ls {n : Nat} {ρ : List Sl} {Q : List PyData → Prop} (h1 : 1 < ρ.length) : ∀ (ds acc : List PyData), ds.all (shal n) = true → Q (acc ++ lsL ds) → compD (gN 1) fYes (eCall (F_lq (n + 1)) (aCons (eVar 1) aNil)) ρ ds acc Q
  | [], acc, _, q => by
    rw [lsL, List.append_nil] at q
    exact q
  | d :: ds, acc, h, q => by
    rw [List.all_cons, Bool.and_eq_true] at h
    have g1 : (ρ.set 1 (.dt d))[1]? = some (.dt d) := List.getElem?_set_self h1
    show eVar 1 (ρ.set 1 (.dt d)) _
    unfold eVar
    rw [g1]
    refine ⟨h.1, ?_⟩
    refine comp_ls h1 ds (acc ++ [lsD d]) h.2 ?_
    rw [lsL] at q
    rw [List.append_assoc]
    exact q
theorem ls_imp {n : Nat} {as : List Sl} {P : PyData → Prop} (h : F_ls n as P) : mkF 1 2 (b_ls n) as P := by
  unfold F_ls at h
  split at h
  · rename_i d
    obtain ⟨sh, q⟩ := h
    refine ⟨rfl, ?_⟩
    cases d with
    | list ds =>
      cases n with
      | zero => exact absurd sh (by simp [shal])
      | succ n =>
      rw [shal, Bool.and_eq_true, decide_eq_true_eq] at sh
      refine ⟨by omega, comp_ls (by show 1 < 2; decide) ds [] sh.2 ?_⟩
      rw [lsD] at q
      exact q
    | tuple ds =>
      cases n with
      | zero => exact absurd sh (by simp [shal])
      | succ n =>
      rw [shal, Bool.and_eq_true, decide_eq_true_eq] at sh
      refine ⟨by omega, comp_ls (by show 1 < 2; decide) ds [] sh.2 ?_⟩
      rw [lsD] at q
      exact q
    | none =>
      rw [lsD] at q
      exact q
    | bool b =>
      rw [lsD] at q
      exact q
    | int i =>
      rw [lsD] at q
      exact q
    | str x =>
      rw [lsD] at q
      exact q
    | dict kvs => exact absurd sh (by cases n <;> simp [shal])
  · exact h.elim
end Dv
namespace Dv
open PySem PySem.Spec PyProof.Rows L2 Xg
open Classical
section
variable {K : PySem.W.Frag} {tt : TT} {ft : FT} {ct ca cb c : Nat} {ta tb : TE} {fa fb : FD}
/-! x = [..] if t else [..], to be made on -/
abbrev fIf (t : FT) (f g : FD) : FD := fun ρ Q => t ρ fun k => if k = true then f ρ Q else g ρ Q
theorem sndl_if (t : SndT K tt ct ft) (a : SndL K ta ca fa) (b : SndL K tb cb fb) : SndL K (tIf tt ta tb) (ct + (ca + cb)) (fIf ft fa fb) := ⟨
  (fun ρ P P' h q => t.mono _ _ _ (fun k z => by
      cases k with
      | true => exact a.mono _ _ _ h z
      | false => exact b.mono _ _ _ h z) q),
  (fun E hm hf k => t.go E (by omega) hf fun q H1 p s1 b1 => by
    cases q with
    | true => exact a.go (E.step s1 b1) (by omega) p fun ds vs p1 H2 h2 np s2 b2 e g => k ds vs p1 H2 h2 (back s1 b1 np) (s1.trans s2) (b2.le (by omega)) e g
    | false => exact b.go (E.step s1 b1) (by omega) p fun ds vs p1 H2 h2 np s2 b2 e g => k ds vs p1 H2 h2 (back s1 b1 np) (s1.trans s2) (b2.le (by omega)) e g)⟩
/-! return f(box(script, k), n, m): a box of its own -/
abbrev sRetBox (i : Nat) (k n m : Int) (F : FF) : FS := fun ρ E => match ρ[i]? with
  | some (.scr _) => (0 ≤ k ∧ k ≤ 1000) ∧ F [.box, .dt (.int n), .dt (.int m)] fun d => flat d = true ∧ E.rt d
  | _ => False
theorem snds_retBox {i : Nat} {k n m' : Int} {F : FF} (mF : MonoF F) : SndS K (tRet (tCallG (spD K c F) (tCons (tCallG (spBx K) (tCons (tVar i) (tCons (tC (.int k)) tNil))) (tCons (tC (.int n)) (tCons (tC (.int m')) tNil))))) c (sRetBox i k n m' F) :=
  ⟨fun ρ E E' h q => by
    unfold sRetBox at q ⊢
    split at q
    · exact ⟨q.1, mF _ _ _ (fun d z => ⟨z.1, h.rt _ z.2⟩) q.2⟩
    · exact q.elim,
  fun {G H0 b0 b os m H σ ρ D E} ok hm hf kk => by
    unfold sRetBox at hf
    split at hf
    · rename_i ns e
      obtain ⟨⟨k0, k1⟩, hf⟩ := hf
      obtain ⟨p, e1, hs⟩ := ok.env.sl i _ e
      refine ⟨.ref p, e1, p, ns, k.toNat, ?_, Evl.ex_l rm_le hs, by omega, fun q x y nq x0 y0 y1 => ?_⟩
      · rw [Int.toNat_of_nonneg k0]
      have ex := Evl.Ex.new (o := .lst [.int x, .int y, .int 0]) nq
      have n0 : H0 q = none := back ok.old ok.obx nq
      refine ⟨some q, fun a => a = q, 0, [.box, .dt (.int n), .dt (.int m')], .cons ⟨q, rfl, rfl⟩ (.cons (.int n) (.cons (.int m') .nil)), ⟨x, y, 0, x0, y0, y1, by omega, by omega, upd_same⟩, fun p' e => by cases e; rfl, fun a h => by rw [h, upd_same]; simp, by omega,
        mF _ _ _ (fun d z v H' st bx hd => kk.rt d v H' z.2 ⟨?_, ?_⟩ (Da.flat hd z.1)) hf⟩
      · exact fun a o n1 h => st a o (fun w => by cases w; rw [n0] at h; cases h) (ex a o (ok.old a o n1 h))
      · have ob := ok.obx
        cases b0 with
        | none => trivial
        | some p0 =>
          obtain ⟨x1, y2, z1, g1, g2, g3, g4, g5, g6⟩ := ob
          exact ⟨x1, y2, z1, g1, g2, g3, g4, by omega, st p0 _ (fun w => by cases w; rw [nq] at g6; cases g6) (ex p0 _ g6)⟩
    · exact hf.elim⟩
end
end Dv
namespace Dv
open PySem PySem.Spec PyProof.Rows L2 Xg
open Classical
/-! x = [new list, new list, ..]; tests; then those lists are changed, and x is no longer looked at -/
abbrev FN := List Sl → (List (List PyData) → Prop) → Prop
structure SndN (K : PySem.W.Frag) (t : TA) (n c : Nat) (f : FN) : Prop where
  mono : ∀ (ρ : List Sl) (P P' : List (List PyData) → Prop), (∀ d, P d → P' d) → f ρ P → f ρ P'
  go : ∀ {b : Option Addr} {S : Addr → Prop} {m : Nat} {σ : L2.St} {H : Hp} {ρ : List Sl} {Q : List V → Hp → Prop} {P : List (List PyData) → Prop}, DEnv K b S m H σ ρ → m + c ≤ LIM → f ρ P →
    (∀ (dss : List (List PyData)) (ps : List Addr) (H' : Hp), P dss → ps.length = n → Stp b H H' → BxO b H' (m + c) → (∀ q ∈ ps, H q = none) → ps.Nodup → DaL K (rm H' S) (ps.map V.ref) (dss.map PyData.list) → Q (ps.map V.ref) H') → t σ H Q
abbrev nNil : FN := fun _ Q => Q []
abbrev nCons (f : FD) (g : FN) : FN := fun ρ Q => f ρ fun ds => g ρ fun dss => Q (ds :: dss)
section
variable {K : PySem.W.Frag} {ta : TE} {tr : TA} {ca cr n c : Nat} {fa : FD} {fr : FN}
theorem sndn_nil : SndN K tNil 0 0 nNil := ⟨fun ρ P P' h g => h _ g, fun E hm hf k => k [] [] _ hf rfl Stp.refl E.bx (fun q h => nomatch h) .nil .nil⟩
theorem sndn_cons (a : SndL K ta ca fa) (r : SndN K tr n cr fr) : SndN K (tCons ta tr) (n + 1) (ca + cr) (nCons fa fr) :=
  ⟨fun ρ P P' h g => a.mono _ _ _ (fun d => r.mono _ _ _ fun ds => h _) g, fun {b S m σ H ρ Q P} E hm hf k => a.go E (by omega) hf fun ds vs p H1 h1 np s1 b1 e g =>
    r.go (E.step s1 b1) (by omega) h1 fun dss ps H2 h2 l s2 b2 fr nd d2 => by
      have bp : b ≠ some p := fun z => E.al p (E.bs p z) np
      refine k (ds :: dss) (p :: ps) H2 h2 (by rw [List.length_cons, l]) (s1.trans s2) (b2.le (by omega)) (fun q hq => ?_) (List.nodup_cons.mpr ⟨fun z => ?_, nd⟩) (.cons (.lst (xs := vs) ?_ ?_) d2)
      · rcases List.mem_cons.mp hq with rfl | hq
        · exact np
        · exact back s1 b1 (fr q hq)
      · rw [fr p z] at e
        cases e
      · rw [rm_out (E.al.new np)]
        exact s2 p _ bp e
      · exact (g.mono (rm_sub fun a z => .inl z)).mono (s2.rm E.bs)⟩
/-- constants, maybe in a tuple -/
def Cn (t : TE) : Prop := ∀ σ H Q, (∀ v H', Evl.Ex H H' → Q v H') → t σ H Q
def CnA (t : TA) (n : Nat) : Prop := ∀ σ H Q, (∀ vs H', vs.length = n → Evl.Ex H H' → Q vs H') → t σ H Q
theorem cn_c {v : V} : Cn (tC v) := fun σ H Q k => k v H (Evl.Ex.refl _)
theorem cna_nil : CnA tNil 0 := fun σ H Q k => k [] H rfl (Evl.Ex.refl _)
theorem cna_cons {k : Nat} (a : Cn ta) (r : CnA tr k) : CnA (tCons ta tr) (k + 1) := fun σ H Q h => a σ H _ fun v H1 e1 => r σ H1 _ fun vs H2 l e2 => h _ _ (by rw [List.length_cons, l]) (e1.trans e2)
theorem cn_tup {k : Nat} (a : CnA tr k) (hk : k ≤ sizeLine) : Cn (tTup tr) := fun σ H Q h => a σ H _ fun vs H1 l e1 => ⟨by rw [l]; exact hk, fun p np => h _ _ (e1.trans (Evl.Ex.new np))⟩
/-- a list q is changed, nothing else -/
def Ch (H : Hp) (q : Addr) (B : Nat) (H' : Hp) : Prop := (∀ a o, a ≠ q → H a = some o → H' a = some o) ∧ ∃ ws, H' q = some (.lst ws) ∧ ws.length ≤ B
/-- statements that change the list that their target tells -/
structure Wm (k : Nat) (t : TE → TS) : Prop where
  go : ∀ {to : TE} {D : Ends} {σ : L2.St} {H : Hp} {q : Addr} {ws : List V} {B : Nat}, (∀ (H1 : Hp) (Q : VK), (∀ a o, a ≠ q → H a = some o → H1 a = some o) → Q (.ref q) H1 → to σ H1 Q) → H q = some (.lst ws) → ws.length ≤ B → B + k < sizeLine → (∀ H', Ch H q (B + k) H' → D.nx σ H') → t to D σ H
theorem wm_app (a : Cn ta) : Wm 1 fun to => tDrop (tBM K "list" rAppend to (tCons ta tNil)) := ⟨fun {to D σ H q ws B} ht hq hl hB k => by
  refine ht H _ (fun _ _ _ h => h) ⟨.inl ⟨rfl, ws, .inl (.inl hq)⟩, a σ H _ fun v H1 e1 => ⟨q, ws, v, rfl, rfl, e1 _ _ hq, by omega, k _ ⟨fun a o n h => ?_, _, upd_same, ?_⟩⟩⟩
  · rw [upd_ne n]
    exact e1 _ _ h
  · rw [List.length_append, List.length_singleton]
    omega⟩
theorem wm_rev : Wm 0 fun to => tDrop (tBM0 K "list" rReverse to) := ⟨fun {to D σ H q ws B} ht hq hl hB k => by
  refine ht H _ (fun _ _ _ h => h) ⟨.inl ⟨rfl, ws, .inl (.inl hq)⟩, q, ws, rfl, rfl, hq, k _ ⟨fun a o n h => ?_, _, upd_same, ?_⟩⟩
  · rw [upd_ne n]
    exact h
  · rw [List.length_reverse]
    omega⟩
theorem wm_clear : Wm 0 fun to => tDrop (tBM0 K "list" rClear to) := ⟨fun {to D σ H q ws B} ht hq hl hB k => by
  refine ht H _ (fun _ _ _ h => h) ⟨.inl ⟨rfl, ws, .inl (.inl hq)⟩, q, ws, rfl, rfl, hq, k _ ⟨fun a o n h => ?_, _, upd_same, by simp⟩⟩
  rw [upd_ne n]
  exact h⟩
theorem wm_seq {k l : Nat} {t u : TE → TS} (a : Wm k t) (r : Wm l u) : Wm (k + l) fun to => tSeq (t to) (u to) := ⟨fun {to D σ H q ws B} ht hq hl hB kk => by
  refine a.go (D := { nx := u to D, rt := D.rt, bk := D.bk, ct := D.ct }) ht hq hl (by omega) fun H1 h1 => ?_
  obtain ⟨e1, ws1, q1, l1⟩ := h1
  refine r.go (B := B + k) (fun H3 Q h3 => ht H3 Q fun a o n h => h3 a o n (e1 a o n h)) q1 l1 (by omega) fun H2 h2 => kk _ ⟨fun a o n h => h2.1 a o n (e1 a o n h), ?_⟩
  obtain ⟨ws2, q2, l2⟩ := h2.2
  exact ⟨ws2, q2, by omega⟩⟩
/-- the lists of slot i are changed, and the slots of vs -/
structure Wr (i n : Nat) (vs : List Nat) (k : Nat) (t : TS) : Prop where
  go : ∀ {D : Ends} {σ : L2.St} {H : Hp} {p : Addr} {ps : List Addr} {B : Nat}, (∀ x ∈ vs, x < σ.length) → σ[i]? = some (some (.ref p)) → H p = some (.lst (ps.map V.ref)) → ps.length = n → ps.Nodup → p ∉ ps → (∀ q ∈ ps, ∃ ws, H q = some (.lst ws) ∧ ws.length ≤ B) → B + k < sizeLine →
    (∀ σ' H', σ'.length = σ.length → (∀ x, x ∉ vs → σ'[x]? = σ[x]?) → (∀ a o, a ∉ ps → H a = some o → H' a = some o) → (∀ q ∈ ps, ∃ ws, H' q = some (.lst ws) ∧ ws.length ≤ B + k) → D.nx σ' H') → t D σ H
theorem wr_seq {i : Nat} {vs us : List Nat} {k l : Nat} {t u : TS} (hi : i ∉ vs) (a : Wr i n vs k t) (r : Wr i n us l u) : Wr i n (vs ++ us) (k + l) (tSeq t u) := ⟨fun {D σ H p ps B} hv hs hp hn nd np hq hB kk => by
  refine a.go (D := { nx := u D, rt := D.rt, bk := D.bk, ct := D.ct }) (fun x h => hv x (List.mem_append_left _ h)) hs hp hn nd np hq (by omega) fun σ1 H1 l1 s1 e1 q1 => ?_
  refine r.go (B := B + k) (fun x h => by rw [l1]; exact hv x (List.mem_append_right _ h)) (by rw [s1 i hi]; exact hs) (e1 _ _ np hp) hn nd np q1 (by omega) fun σ2 H2 l2 s2 e2 q2 => kk σ2 H2 (l2.trans l1) (fun x hx => ?_) (fun a o h g => e2 _ _ h (e1 _ _ h g)) fun q h => ?_
  · rw [List.mem_append, not_or] at hx
    rw [s2 x hx.2, s1 x hx.1]
  · obtain ⟨ws, w1, w2⟩ := q2 q h
    exact ⟨ws, w1, by omega⟩⟩
theorem wr_at {i j k : Nat} {t : TE → TS} (w : Wm k t) (hj : j < n) : Wr i n [] k (t (tOp (rIx K) (tVar i) (tC (.int ((j : Nat) : Int))))) := ⟨fun {D σ H p ps B} hv hs hp hn nd np hq hB kk => by
  have lj : j < ps.length := by rw [hn]; exact hj
  obtain ⟨ws, w1, w2⟩ := hq ps[j] (List.getElem_mem lj)
  refine w.go (q := ps[j]) (ws := ws) (B := B) (fun H1 Q h1 q => ?_) w1 w2 hB fun H' h' => kk σ H' rfl (fun _ _ => rfl) (fun a o h g => h'.1 a o (fun z => h (by rw [z]; exact List.getElem_mem lj)) g) fun q h => ?_
  · exact ⟨.ref p, hs, .inl ⟨p, ps.map V.ref, _, _, rfl, rfl, .inl (.inl (h1 _ _ (fun z => np (by rw [z]; exact List.getElem_mem lj)) hp)), (by unfold L2.atI; rw [Evl.ixN_nat (by rw [List.length_map]; exact lj)]; show (ps.map V.ref)[j]? = _; rw [List.getElem?_map, List.getElem?_eq_getElem lj]; rfl), q⟩⟩
  · by_cases z : q = ps[j]
    · subst z
      exact h'.2
    · obtain ⟨us, u1, u2⟩ := hq q h
      exact ⟨us, h'.1 _ _ z u1, by omega⟩⟩
theorem wr_for {i j k : Nat} {t : TE → TS} (w : Wm k t) (hij : i ≠ j) : Wr i n [j] k (tFor (Pw.iSeq K (tVar i)) (gName j) (t (tVar j))) := ⟨fun {D σ H p ps B} hv hs hp hn nd np hq hB kk => by
  refine ⟨.ref p, hs, p, rfl, .inl ⟨⟨_, .inl (.inl hp)⟩, fun x m σ2 H2 => m = ps.length - x ∧ x ≤ ps.length ∧ σ2.length = σ.length ∧ (∀ y, y ≠ j → σ2[y]? = σ[y]?) ∧ (∀ a o, a ∉ ps → H a = some o → H2 a = some o) ∧ (∀ q ∈ ps, ∃ ws, H2 q = some (.lst ws) ∧ ws.length ≤ B + k) ∧ (∀ q ∈ ps.drop x, ∃ ws, H2 q = some (.lst ws) ∧ ws.length ≤ B),
    ⟨_, rfl, Nat.zero_le _, rfl, fun _ _ => rfl, fun _ _ _ h => h, fun q h => ?_, fun q h => hq q (by rw [List.drop_zero] at h; exact h)⟩, fun x m σ2 H2 W => ?_⟩⟩
  · obtain ⟨ws, w1, w2⟩ := hq q h
    exact ⟨ws, w1, by omega⟩
  obtain ⟨hm, hx, l2, s2, e2, q2, r2⟩ := W
  have hp2 : SqL K H2 p (ps.map V.ref) := .inl (.inl (e2 _ _ np hp))
  by_cases z : x = ps.length
  · exact .inl ⟨⟨_, hp2, by rw [List.length_map]; omega⟩, kk σ2 H2 l2 (fun y hy => s2 y fun e => hy (by rw [e]; exact List.mem_singleton_self _)) e2 q2⟩
  have lx : x < ps.length := by omega
  have gx : (ps.map V.ref)[x]? = some (.ref ps[x]) := by
    rw [List.getElem?_map, List.getElem?_eq_getElem lx]
    rfl
  refine .inr ⟨⟨_, _, hp2, gx⟩, fun σ' H' => ∃ m', m' < m ∧ (m' = ps.length - (x + 1) ∧ x + 1 ≤ ps.length ∧ σ'.length = σ.length ∧ (∀ y, y ≠ j → σ'[y]? = σ[y]?) ∧ (∀ a o, a ∉ ps → H a = some o → H' a = some o) ∧ (∀ q ∈ ps, ∃ ws, H' q = some (.lst ws) ∧ ws.length ≤ B + k) ∧ (∀ q ∈ ps.drop (x + 1), ∃ ws, H' q = some (.lst ws) ∧ ws.length ≤ B)), fun _ _ h => h, fun v H3 y => ?_⟩
  obtain ⟨rfl, y⟩ := y
  have ev := y _ hp2
  rw [gx] at ev
  cases ev
  have dr : ps.drop x = ps[x] :: ps.drop (x + 1) := List.drop_eq_getElem_cons lx
  rw [dr] at r2
  obtain ⟨ws, w1, w2⟩ := r2 _ (List.mem_cons_self ..)
  have jl : j < σ2.length := by
    rw [l2]
    exact hv j (List.mem_singleton_self _)
  have mx : ps[x] ∈ ps := List.getElem_mem lx
  have nd2 : ps[x] ∉ ps.drop (x + 1) := by
    have z := nd.sublist (List.drop_sublist x ps)
    rw [dr] at z
    exact (List.nodup_cons.mp z).1
  refine w.go (q := ps[x]) (ws := ws) (B := B) (fun H1 Q _ q => ⟨.ref ps[x], by rw [List.getElem?_set_self jl], q⟩) w1 w2 hB fun H' h' => ⟨ps.length - (x + 1), by omega, rfl, by omega, by rw [List.length_set]; exact l2, fun y hy => ?_, fun a o na h => h'.1 a o (fun z => na (by rw [z]; exact mx)) (e2 a o na h), fun q h => ?_, fun q h => ?_⟩
  · rw [List.getElem?_set_ne (Ne.symm hy)]
    exact s2 y hy
  · by_cases z : q = ps[x]
    · rw [z]
      exact h'.2
    · obtain ⟨us, u1, u2⟩ := q2 q h
      exact ⟨us, h'.1 _ _ z u1, u2⟩
  · obtain ⟨us, u1, u2⟩ := r2 q (List.mem_cons_of_mem _ h)
    exact ⟨us, h'.1 _ _ (fun z => nd2 (by rw [← z]; exact h)) u1, u2⟩⟩
/-- tests, then changes -/
structure SndW (K : PySem.W.Frag) (i n : Nat) (vs : List Nat) (t : TS) (c : Nat) (f : FS) : Prop where
  mono : ∀ (ρ : List Sl) (E E' : DEnds), DLe E E' → f ρ E → f ρ E'
  go : ∀ {b : Option Addr} {S : Addr → Prop} {m : Nat} {σ : L2.St} {H : Hp} {ρ : List Sl} {D : Ends} {E : DEnds} {p : Addr} {ps : List Addr}, DEnv K b S m H σ ρ → m + c ≤ LIM → (∀ x ∈ vs, x < σ.length) → σ[i]? = some (some (.ref p)) → H p = some (.lst (ps.map V.ref)) → ps.length = n → ps.Nodup → p ∉ ps →
    b ≠ some p → (∀ q ∈ ps, b ≠ some q) → (∀ q ∈ ps, ∃ ws, H q = some (.lst ws) ∧ ws.length ≤ 1000000) → f ρ E →
    (∀ σ' H', E.nx ρ → σ'.length = σ.length → (∀ x, x ∉ vs → σ'[x]? = σ[x]?) → (∀ a o, a ∉ ps → b ≠ some a → H a = some o → H' a = some o) → BxO b H' (m + c) → D.nx σ' H') →
    (∀ H', E.rt (.bool false) → Stp b H H' → BxO b H' (m + c) → D.rt (.bl false) H') → t D σ H
theorem snw_wr {i : Nat} {vs : List Nat} {k : Nat} {t : TS} (w : Wr i n vs k t) (hk : k ≤ 1000) : SndW K i n vs t 0 sSkip :=
  ⟨fun ρ E E' h q => h.nx _ q, fun {b S m σ H ρ D E p ps} en hm hv hs hp hn nd np bp bq hq hf nx rt => w.go (B := 1000000) hv hs hp hn nd np hq (Nat.lt_of_le_of_lt (Nat.add_le_add_left hk _) (by decide)) fun σ' H' l s e q => nx σ' H' hf l s (fun a o n _ h => e a o n h) (by
    have bx := en.bx
    cases b with
    | none => trivial
    | some c =>
      obtain ⟨x, y, z, h1, h2, h3, h4, h5, h6⟩ := bx
      exact ⟨x, y, z, h1, h2, h3, h4, h5, e _ _ (fun m => bq c m rfl) h6⟩)⟩
theorem snw_if {i : Nat} {vs : List Nat} {t : TS} {f : FS} {tt : TT} {ft : FT} {ct : Nat} (a : SndT K tt ct ft) (r : SndW K i n vs t c f) : SndW K i n vs (tSeq (tIfS tt (tRet (tC (.bl false))) tNext) t) (ct + c) (sSeq (sIf ft (sRet (eC (.bool false))) sSkip) f) :=
  ⟨fun ρ E E' h q => a.mono _ _ _ (fun k z => by
      cases k with
      | true => exact h.rt _ z
      | false => exact r.mono _ _ _ h z) q,
   fun {b S m σ H ρ D E p ps} en hm hv hs hp hn nd np bp bq hq hf nx rt => a.go en (by omega) hf fun q H1 h1 st bx => by
    cases q with
    | true => exact rt H1 h1 st (bx.le (by omega))
    | false =>
      refine r.go (en.step st bx) (by omega) hv hs (st _ _ bp hp) hn nd np bp bq (fun q m => ?_) h1 (fun σ' H' e l s x bx2 => nx σ' H' e l s (fun a o na nb h => x a o na nb (st a o nb h)) (bx2.le (by omega))) fun H' e st2 bx2 => rt H' e (st.trans st2) (bx2.le (by omega))
      obtain ⟨ws, w1, w2⟩ := hq q m
      exact ⟨ws, st _ _ (bq q m) w1, w2⟩⟩
/-- these slots are looked at no more -/
def noS (ρ : List Sl) : List Nat → List Sl
  | [] => ρ
  | i :: is => (noS ρ is).set i .no
theorem noS_len {ρ : List Sl} : ∀ {is : List Nat}, (noS ρ is).length = ρ.length
  | [] => rfl
  | i :: is => by rw [noS, List.length_set, noS_len]
theorem noS_at {ρ : List Sl} : ∀ {is : List Nat} {x : Nat} {s : Sl}, (noS ρ is)[x]? = some s → s = .no ∨ (x ∉ is ∧ ρ[x]? = some s)
  | [], x, s, h => .inr ⟨List.not_mem_nil, h⟩
  | i :: is, x, s, h => by
    rw [noS, List.getElem?_set] at h
    split at h
    · split at h
      · cases h
        exact .inl rfl
      · cases h
    · rename_i ne
      rcases noS_at h with h | ⟨h1, h2⟩
      · exact .inl h
      · exact .inr ⟨fun z => (List.mem_cons.mp z).elim (fun e => ne e.symm) h1, h2⟩
abbrev sNst (i : Nat) (vs : List Nat) (fr : FN) (f : FS) : FS := fun ρ E => (∀ x ∈ i :: vs, x < ρ.length) ∧ fr ρ fun dss => (∀ ds ∈ dss, List.length ds < 1000000) ∧ f (ρ.set i (.dt (.list (dss.map PyData.list)))) { nx := fun _ => E.nx (noS ρ (i :: vs)), rt := E.rt, rl := E.rl, bk := E.bk, ct := E.ct }
theorem DaL.lens {S : Addr → Prop} {H : Hp} : ∀ {ps : List Addr} {dss : List (List PyData)}, DaL K (rm H S) (ps.map V.ref) (dss.map PyData.list) → (∀ ds ∈ dss, List.length ds < 1000000) → ∀ q ∈ ps, ∃ ws, H q = some (.lst ws) ∧ ws.length ≤ 1000000
  | [], _, _, _, q, h => nomatch h
  | p :: ps, [], h, _, q, _ => by cases h
  | p :: ps, ds :: dss, .cons h g, hl, q, hq => by
    rcases List.mem_cons.mp hq with rfl | hq
    · cases h with
      | lst e d => exact ⟨_, rm_le _ _ e, by rw [d.len]; exact Nat.le_of_lt (hl ds (List.mem_cons_self ..))⟩
    · exact DaL.lens g (fun x m => hl x (List.mem_cons_of_mem _ m)) q hq
theorem snds_nst {i : Nat} {vs : List Nat} {t : TS} {f : FS} (a : SndN K tr n cr fr) (w : SndW K i n vs t c f) (hn : n ≤ sizeLine) : SndS K (tSeq (tAsg (tLst tr) (gName i)) t) (cr + c) (sNst i vs fr f) :=
  ⟨fun ρ E E' h q => ⟨q.1, a.mono _ _ _ (fun dss z => ⟨z.1, w.mono _ { nx := fun _ => E.nx (noS ρ (i :: vs)), rt := E.rt, rl := E.rl, bk := E.bk, ct := E.ct } { nx := fun _ => E'.nx (noS ρ (i :: vs)), rt := E'.rt, rl := E'.rl, bk := E'.bk, ct := E'.ct } ⟨fun _ => h.nx _, h.rt, h.rl, h.bk, h.ct⟩ z.2⟩) q.2⟩,
   fun {G H0 b0 b os m H σ ρ D E} ok hm hf k => a.go ok.env (by omega) hf.2 fun dss ps H1 h1 l1 s1 b1 fr nd d1 => ⟨by rw [List.length_map, l1]; exact hn, fun p np => by
    obtain ⟨hl, h2⟩ := h1
    have lv : ∀ x ∈ i :: vs, x < σ.length := fun x h => by rw [ok.env.len]; exact hf.1 x h
    have E1 := ok.env.step s1 b1
    have ex := Evl.Ex.new (o := .lst (ps.map V.ref)) np
    have st2 : Stp b H1 (upd H1 p (.lst (ps.map V.ref))) := Stp.ex ex
    have bx2 := b1.ex ex
    have E2 := E1.step st2 bx2
    have dp : Da K (rm (upd H1 p (.lst (ps.map V.ref))) (SO G b os)) (.ref p) (.list (dss.map PyData.list)) := new_lst E1.al np d1
    have E3 := E2.set (i := i) (v := .ref p) (s := .dt (.list (dss.map PyData.list))) fun x e => ⟨_, e, dp⟩
    have nH : H p = none := back s1 b1 np
    have il : i < σ.length := lv i (List.mem_cons_self ..)
    have bne : ∀ q, H q = none → b ≠ some q := fun q h z => ok.env.al q (ok.env.bs q z) h
    have pn : p ∉ ps := fun z => by
      obtain ⟨ws, w1, _⟩ := d1.lens hl p z
      rw [np] at w1
      cases w1
    refine w.go (p := p) (ps := ps) E3 (by omega) (fun x h => by rw [List.length_set]; exact lv x (List.mem_cons_of_mem _ h)) (by rw [List.getElem?_set_self il]) upd_same l1 nd pn (bne p nH) (fun q h => bne q (fr q h)) (fun q h => ?_) h2 (fun σ' H' e l s x bx => ?_) fun H' e st bx => ?_
    · obtain ⟨ws, w1, w2⟩ := d1.lens hl q h
      exact ⟨ws, ex _ _ w1, w2⟩
    · have st : Stp b H H' := fun a o nb h => x a o (fun z => by rw [fr a z] at h; cases h) nb (st2 _ _ nb (s1 _ _ nb h))
      have ok2 := ok.step st bx (by omega)
      have sl : ∀ (y : Nat) (s : Sl), (noS ρ (i :: vs))[y]? = some s → s = .no ∨ (σ'[y]? = σ[y]? ∧ ρ[y]? = some s) := fun y s0 h => by
        rcases noS_at h with h | ⟨h3, h4⟩
        · exact .inl h
        · refine .inr ⟨?_, h4⟩
          rw [s y fun z => h3 (List.mem_cons_of_mem _ z), List.getElem?_set_ne fun z => h3 (by rw [z]; exact List.mem_cons_self ..)]
      refine k.nx b os σ' H' (noS ρ (i :: vs)) e (Ok.le ⟨⟨by rw [l, List.length_set, noS_len]; exact ok.env.len, fun y s0 h => ?_, ok2.env.bx, ok2.env.bs, ok2.env.al⟩, ok2.inj, ok2.new, ok2.old, ok2.bn, ok2.obx, ok2.bo, fun y ds h => ?_, ok2.al0, ok2.bG⟩ (by omega)) (Lk.step st ok.env.bs)
      · rcases sl y s0 h with rfl | ⟨h3, h4⟩
        · trivial
        · rw [h3]
          exact ok2.env.sl y s0 h4
      · rcases sl y _ h with h | ⟨h3, h4⟩
        · cases h
        · rw [h3]
          exact ok2.slo y ds h4
    · have stt := (s1.trans st2).trans st
      exact k.rt _ _ _ e (ok.step (n := m + (cr + c)) stt (bx.le (by omega)) (by omega)).out (.bl false)⟩⟩
/-! a new list, told by names -/
abbrev lKw (n : Nat) (F : FFL) (fr : FA) : FD := fun ρ Q => fr ρ fun as => as.length = n ∧ F as.reverse Q
theorem sndl_kw {fr : FA} {F : FFL} (mF : MonoL F) (r : SndA K tr cr fr) : SndL K (tKw n (spL K c F) List.reverse tr) (cr + c) (lKw n F fr) := ⟨
  (fun ρ P P' h g => r.mono _ _ _ (fun as z => ⟨z.1, mF _ _ _ h z.2⟩) g),
  (fun {b S m σ H ρ Q P} E hm hf k => r.go E (by omega) hf fun as vs H1 h1 s1 b1 d1 => ⟨by rw [d1.len, h1.1], b, S, m + cr, as.reverse, d1.rev, b1, E.bs, (E.step s1 b1).al, by omega,
    mF _ _ _ (fun d p vs q H' np s2 b2 e g => k _ _ _ _ p (back s1 b1 np) (s1.trans s2) (b2.le (by omega)) e g) h1.2⟩)⟩
end
end Dv
/-! xs[lo:hi] = another list, by any bounds, also such as are left out (the road is that of the library's setItem_slice, which takes both bounds as places) -/
namespace Sx
open PySem PySem.Spec PyProof.Rows L2
section
variable {prog : Program} {w : World} {A : Around} {E : Value → Shared → Prop} {s : Shared}
theorem bnds (lo hi : Option Int) (n : Nat) : sliceBounds lo hi none n = (((HT.sIx n 0 lo : Nat) : Int), ((HT.sIx n n hi : Nat) : Int), 1) := by
  obtain ⟨h1, h2, h3⟩ := slice_bounds lo hi n
  rw [← h1, ← h2, ← h3]
theorem put_cut {l r cut : Addr} {old new : Array Value} {n m : Nat} {vl vu : Value} {lo hi : Option Int} {Q : Unit → Shared → Prop}
    (eo : s.heap.get? l = some { cls := .type "list", data := .seq old n }) (en : s.heap.get? r = some { cls := .type "list", data := .seq new m }) (ne : l ≠ r)
    (hc : s.heap.IsSliceOf cut vl vu .none) (pl : IsPart vl lo) (pu : IsPart vu hi) (fit : old.size + (new.size + old.size) ≤ sizeLine)
    (k : Q () { s with heap := s.heap.update l (Obj.mapSeq fun xs => xs.extract 0 (HT.sIx old.size 0 lo) ++ new ++ xs.extract (max (HT.sIx old.size 0 lo) (HT.sIx old.size old.size hi)) xs.size) }) :
    wpAny (model prog w) A (setItem (.ref l) (.ref cut) (.ref r)) Q E s := by
  have lo' : s.heap.IsList l old := PySem.IsL.isList eo
  have ln' : s.heap.IsList r new := PySem.IsL.isList en
  obtain ⟨oc, g1, g2, g3⟩ := id hc
  have tc : s.TypeIs (.ref cut) "slice" := ⟨oc, g1, g2⟩
  have apart : Builtin.List.listSameRef (.ref l) (.ref r) = false := by
    unfold Builtin.List.listSameRef
    exact beq_eq_false_iff_ne.mpr ne
  have step : ¬ ((rawPart none == rawInt 0) = true) := Bool.false_ne_true
  have mx : (max ((HT.sIx old.size 0 lo : Nat) : Int) ((HT.sIx old.size old.size hi : Nat) : Int)).toNat = max (HT.sIx old.size 0 lo) (HT.sIx old.size old.size hi) := by omega
  have fit' : ((fun xs : Array Value => xs.extract 0 (HT.sIx old.size 0 lo) ++ new ++ xs.extract (max (HT.sIx old.size 0 lo) (HT.sIx old.size old.size hi)) xs.size) old).size ≤ sizeLine + 1 := by
    simp only [Array.size_append, Array.size_extract]
    omega
  have short : old.size + new.size ≤ sizeLine := by omega
  unfold setItem
  try with_reducible refine wpAny_holding ?_
  first | refine wpAny_bind (wpAny_pure ?_) | skip
  refine wpAny_bind (wpAny_sequenceKey lo'.typeIs (by decide) ?_)
  refine wpAny_bind (wpAny_callSpecial?_slot (name := Str.ofString "__setitem__") lo'.typeIs slot_list_setitem (wpAny_call_entry slot_list_setitem lo'.typeIs entry_list_setitem ?_ (args_list_setitem _ _ _)))
  show wpAny _ _ (Builtin.List.listSubscript? (.ref cut) >>= _) _ _ s
  refine wpAny_bind ?_
  unfold Builtin.List.listSubscript?
  refine wpAny_bind (wpAny_specialOf tc slice_no_index ?_)
  simp only [Option.isNone_none, if_true]
  refine wpAny_pure ?_
  show wpAny _ _ (typeOf (.ref cut) >>= _) _ _ s
  refine wpAny_bind (wpAny_typeOf tc ?_)
  first
    | rw [if_neg (by decide)]
    | refine PySem.W.KFB.if_not (by decide) ?_
  rw [listSliceParts_eq]
  refine wpAny_bind (wpAny_bind (wpAny_field g1 g3 (x := .none) rfl (wpAny_bind (wpAny_listPart .none ?_))))
  rw [if_neg step]
  refine wpAny_bind (wpAny_field g1 g3 (x := vl) rfl (wpAny_bind (wpAny_listPart pl ?_)))
  refine wpAny_bind (wpAny_field g1 g3 (x := vu) rfl (wpAny_bind (wpAny_listPart pu (wpAny_pure ?_))))
  first
    | simp only [apart, Bool.false_eq_true, if_false]
    | refine PySem.W.KFB.if_not apart ?_
    | (dsimp only
       rw [if_neg (by rw [apart]; exact Bool.false_ne_true)])
  refine wpAny_bind (m := Builtin.List.listAllItems (.ref r) "must assign iterable to extended slice") ?_
  unfold Builtin.List.listAllItems
  refine wpAny_bind (wpAny_typeOf ln'.typeIs ?_)
  first
    | refine PySem.W.KFB.if_so (by decide) ?_
    | rw [if_pos (by decide)]
    | simp only [beq_self_eq_true, Bool.true_or, if_true]
  unfold Builtin.List.listItems
  refine wpAny_bind (wpAny_seqItems en rfl (wpAny_pure ?_))
  refine wpAny_bind (wpAny_bind (wpAny_seqItems eo rfl (wpAny_pure ?_)))
  refine wpAny_bind (wpAny_of_eq ((sliceIndices_raw lo hi none old.size (by simp)).trans (congrArg (pure : Int × Int × Int → Sem (Int × Int × Int)) (bnds lo hi old.size))) ?_)
  show wpAny _ _ (if ((1 : Int) == 1) = true then _ else _) _ _ s
  rw [if_pos (by decide)]
  refine wpAny_bind (wpAny_rule ?_)
  first
    | simp only [notLongL short, Bool.false_eq_true, if_false]
    | refine PySem.W.KFB.if_not (notLongL short) ?_
  first | refine wpAny_bind (wpAny_pure ?_) | skip
  show wpAny _ _ (updateSeq l (fun xs => xs.extract 0 (((HT.sIx old.size 0 lo : Nat) : Int)).toNat ++ new ++ xs.extract (max ((HT.sIx old.size 0 lo : Nat) : Int) ((HT.sIx old.size old.size hi : Nat) : Int)).toNat xs.size) >>= _) _ _ s
  rw [mx, Int.toNat_natCast]
  refine wpAny_bind (wpAny_updateSeq (hz := Nat.le_trans (Nat.le_add_right _ _) fit) (_hz' := fit') eo rfl ?_)
  refine wpAny_bind (wpAny_letGo ?_)
  first
    | exact wpAny_bind (wpAny_pure (wpAny_pure ⟨.none, rfl, wpAny_pure k⟩))
    | exact wpAny_pure ⟨.none, rfl, wpAny_pure k⟩
end
section
variable {X : Cx}
def cutPut (xs ys : List V) (lo hi : Option Int) : List V := xs.take (HT.sIx xs.length 0 lo) ++ ys ++ xs.drop (max (HT.sIx xs.length 0 lo) (HT.sIx xs.length xs.length hi))
theorem put_val {pins : List (Addr × Obj)} {s : Shared} {σ : L2.St} {H : Hp} {l r cut : Addr} {xs ys : List V} {lo hi : Option Int} {vl vu : Value} {Q : Unit → Shared → Prop} (I : Inv X pins σ H s)
    (hH : H l = some (.lst xs)) (hB : H r = some (.lst ys)) (ne : l ≠ r) (hs : s.heap.IsSliceOf cut vl vu .none) (pl : IsPart vl lo) (pu : IsPart vu hi)
    (hz : xs.length + (ys.length + xs.length) ≤ sizeLine) (h : ∀ s', Inv X pins σ (upd H l (.lst (cutPut xs ys lo hi))) s' → Q () s') :
    wpAny (model X.prog X.w) X.A (setItem (.ref l) (.ref cut) (.ref r)) Q X.xe s := by
  obtain ⟨z, its, n, rv, hl, e⟩ := I.lstM hH
  obtain ⟨z2, its2, n2, rv2, hl2, e2⟩ := I.lstM hB
  refine put_cut e e2 ne hs pl pu (by rw [List.size_toArray, List.size_toArray]; omega) (h _ ?_)
  have es : its.toArray.size = xs.length := by rw [List.size_toArray]; omega
  rw [es]
  refine I.lset (its' := its.take (HT.sIx xs.length 0 lo) ++ its2 ++ its.drop (max (HT.sIx xs.length 0 lo) (HT.sIx xs.length xs.length hi))) (t' := s.toks) hH e ?_ (Vals.append (Vals.append (rv.take _) rv2) (rv.drop _)) ?_
  · exact splice_eq its its2 _ _
  · unfold cutPut
    rw [List.length_append, List.length_append, List.length_take, List.length_drop]
    omega
/-- o[lo:hi] = a list -/
def gCut (to : TE) (tl th : TO) : TG := fun v σ H Q => to σ H fun o H1 => tl σ H1 fun lo H2 => th σ H2 fun hi H3 => ∃ l r xs ys, o = .ref l ∧ v = .ref r ∧ H3 l = some (.lst xs) ∧ H3 r = some (.lst ys) ∧ l ≠ r ∧ xs.length + (ys.length + xs.length) ≤ sizeLine ∧ Q σ (upd H3 l (.lst (cutPut xs ys lo hi)))
theorem pg_cut {o : Expr} {lo hi : Option Expr} {to : TE} {tl th : TO} {pos p2 : Pos} (ho : PE X o to) (hl : PO X lo tl) (hu : PO X hi th)
    (ha : ∀ v, assign (.Subscript o (.Slice lo hi none p2) pos) X.env v = (do
      let ov ← holding [v] (eval o X.env)
      let iv ← holding [v, ov] (eval (.Slice lo hi none p2) X.env)
      standAt pos
      holding [v, ov, iv] (setItem ov iv v)
      release [iv, v, ov] []) := by intro _; rfl) : PG X (.Subscript o (.Slice lo hi none p2) pos) (gCut to tl th) := by
  refine ⟨fun pins s σ H v u Q I r h => ?_⟩
  rw [ha]
  refine wpAny_bind (wpAny_holding (thn (ho.run pins s σ H _ I h) fun ov s1 ⟨x, H1, I1, r1, q1⟩ => ?_))
  refine wpAny_bind (wpAny_holding (wpAny_Slice (thn (hl.run pins s1 σ H1 _ I1 q1) fun vl s2 ⟨l, H2, I2, pl, q2⟩ => thn (hu.run pins s2 σ H2 _ I2 q2) fun vu s3 ⟨c, H3, I3, pu, q3⟩ => ?_)))
  rw [evalPart_none]
  refine wpAny_pure ?_
  have I4 : L2.Inv X pins σ H3 { s3 with heap := s3.heap.push { cls := .type "slice", data := .fields #[vl, vu, .none] } } := I3.kept (t' := s3.toks) fun b ob q => Heap.get?_push_of_some _ q
  obtain ⟨a, b, xs, ys, rfl, rfl, g1, g2, g3, g4, g5⟩ := q3
  cases r1
  cases r
  refine wpAny_bind (wpAny_standAt (wpAny_bind (wpAny_holding (put_val I4 g1 g2 g3 (Heap.IsSliceOf.new ..) pl pu g4 fun s' I5 => ?_))))
  exact wpAny_release ⟨σ, _, I5, g5⟩
end
end Sx
namespace Dv
open PySem PySem.Spec PyProof.Rows L2 Xg
open Classical
section
variable {K : PySem.W.Frag} {ta tx : TE} {ca cx : Nat} {fa : FD} {fx : FE} {md : Bool}
/-! x[k:] = a new list, x a list that is being made -/
def cutP (ds es : List PyData) (k : Int) : List PyData := ds.take (HT.sIx ds.length 0 (some k)) ++ es
abbrev sCut (i : Nat) (fa : FD) (fx : FE) : FS := fun ρ E => fa ρ fun es => ownQ ρ i fun ds => fx ρ (asI fun k => (ds.length < 1000000 ∧ es.length < 1000000) ∧ E.nx (ρ.set i (.own (cutP ds es k))))
theorem snds_cut {i : Nat} (a : SndL K ta ca fa) (x : Snd md K tx cx fx) : SndS K (tAsg ta (Sx.gCut (tVar i) (tPart tx) tNoPart)) (ca + cx) (sCut i fa fx) :=
  ⟨fun ρ E E' h q => a.mono _ _ _ (fun es => ownQ_mono fun ds => x.mono _ _ _ (asI_mono fun n z => ⟨z.1, h.nx _ z.2⟩)) q, fun {G H0 b0 b os m H σ ρ D E} ok hm hf k => a.go ok.env (by omega) hf fun es vs p H1 q np st bx e g => by
    obtain ⟨ds, eo, hf⟩ := ownQ_of q
    have ok1 := ok.step st bx (by omega)
    obtain ⟨l, xs, e1, e2, e3, e4, e5⟩ := ok1.env.sl i _ eo
    have nS : ¬ SO G b os p := ok.env.al.new np
    have bp : b ≠ some p := fun z => nS (ok.env.bs p z)
    refine ⟨.ref l, e1, x.go ok1.env (by omega) hf fun dj vj H2 q2 st2 bx2 vd2 => ?_⟩
    obtain ⟨n, rfl, q3⟩ := asI_of q2 vd2
    have ok2 := ok1.step st2 bx2 (by omega)
    have dl : DaL K (rm H2 (SO G b os)) (xs.take (HT.sIx xs.length 0 (some n)) ++ vs) (cutP ds es n) := by
      unfold cutP
      rw [e5.len]
      exact ((e5.mono (st2.rm ok.env.bs)).take _).app ((g.mono (rm_sub fun a z => .inl z)).mono (st2.rm ok.env.bs))
    have ec : Sx.cutPut xs vs (some n) none = xs.take (HT.sIx xs.length 0 (some n)) ++ vs := by
      unfold Sx.cutPut
      rw [HT.sIx_none, List.drop_of_length_le (Nat.le_max_right _ _), List.append_nil]
    refine ⟨n, rfl, l, p, xs, vs, rfl, rfl, st2 _ _ e3 e4, st2 _ _ bp e, fun z => nS (by rw [← z]; exact e2), ?_, ?_⟩
    · rw [e5.len, g.len]
      have w : 1000000 + (1000000 + 1000000) ≤ sizeLine := by decide
      omega
    · rw [ec]
      obtain ⟨o, lk⟩ := ok2.mut eo e1 dl
      exact k.nx _ _ _ _ _ q3.2 (o.le (by omega)) (((Lk.step st ok.env.bs).trans (Lk.step st2 ok.env.bs)).trans lk)⟩
/-! divmod -/
abbrev dvD : PyData → PyData → (PyData → Prop) → Prop
  | .int i, .int j, Q => CDiv i j ∧ Q (.tuple [.int (i / j), .int (i % j)])
  | _, _, _ => False
theorem cs_divmod : CallSnd K (fun xs H Q => ∃ i j, xs = [.int i, .int j] ∧ CDiv i j ∧ ∀ p, H p = none → Q (.ref p) (upd H p (.tup [.int (i / j), .int (i % j)]))) (g2 dvD) := call2
  (fun x y P P' h q => by cases x <;> cases y <;> first | exact ⟨q.1, h _ q.2⟩ | exact q.elim)
  (fun {b S H v w d e Q P} al h h2 q k => by
    cases d <;> cases e <;> first | exact q.elim | skip
    rw [h.int, h2.int]
    exact ⟨_, _, rfl, q.1, fun p np => k _ _ _ q.2 (Evl.Ex.new np) (new_tup al np (.cons (.int _) (.cons (.int _) .nil)))⟩)
end
end Dv
/-! where a text or a number lies in a list -/
namespace Dv
open PySem PySem.Spec PyProof.Rows L2 Xg
theorem vals_strs : ∀ {ys : List Str} {is : List Value}, Vals (ys.map V.str) is → StrsAre is ys
  | [], is, h => by cases h; exact .nil
  | y :: ys, is, h => by
    cases h with
    | cons e r =>
      obtain ⟨t, rfl⟩ := e
      exact .cons y t (vals_strs r)
theorem vals_ints : ∀ {ys : List Int} {is : List Value}, Vals (ys.map V.int) is → IntsAre is ys
  | [], is, h => by cases h; exact .nil
  | y :: ys, is, h => by
    cases h with
    | cons e r =>
      obtain ⟨t, rfl⟩ := e
      exact .cons y t (vals_ints r)
def rIdxS : V → List V → Hp → VK → Prop := fun x vs H Q => ∃ (l : Addr) (ys : List Str) (k : Str), x = .ref l ∧ vs = [.str k] ∧ H l = some (.lst (ys.map V.str)) ∧ k ∈ ys ∧ ys.length ≤ sizeLine ∧ Q (.int (ys.idxOf k : Nat)) H
def rIdxI : V → List V → Hp → VK → Prop := fun x vs H Q => ∃ (l : Addr) (ys : List Int) (k : Int), x = .ref l ∧ vs = [.int k] ∧ H l = some (.lst (ys.map V.int)) ∧ k ∈ ys ∧ ys.length ≤ sizeLine ∧ Q (.int (ys.idxOf k : Nat)) H
section
variable {X : Cx}
theorem mt_idxS : MtR X "list.index" rIdxS := by
  intro pins s σ H x vs v us Q I rx rv h
  obtain ⟨l, ys, k, rfl, rfl, hH, hk, hz, q⟩ := h
  cases rx
  obtain ⟨u, rfl, ru⟩ := rv.one
  obtain ⟨t, rfl⟩ := ru
  obtain ⟨its, r, pl, _⟩ := I.list (.inl (.inl hH))
  exact SeqAt.list_index_strs pl.isList (vals_strs r) hz hk ⟨.int _, H, I.tok _, ⟨_, rfl⟩, q⟩
theorem mt_idxI : MtR X "list.index" rIdxI := by
  intro pins s σ H x vs v us Q I rx rv h
  obtain ⟨l, ys, k, rfl, rfl, hH, hk, hz, q⟩ := h
  cases rx
  obtain ⟨u, rfl, ru⟩ := rv.one
  obtain ⟨t, rfl⟩ := ru
  obtain ⟨its, r, pl, _⟩ := I.list (.inl (.inl hH))
  exact SeqAt.list_index_ints pl.isList (vals_ints r) hz hk ⟨.int _, H, I.tok _, ⟨_, rfl⟩, q⟩
end
abbrev rIdx : V → List V → Hp → VK → Prop := fun x xs H Q => rIdxS x xs H Q ∨ rIdxI x xs H Q
theorem mt_idx {X : Cx} : MtR X "list.index" rIdx := MtR.or mt_idxS mt_idxI
section
variable {K : PySem.W.Frag}
theorem DaL.strs {H : Hp} : ∀ {vs : List V} {ys : List Str}, DaL K H vs (ys.map PyData.str) → vs = ys.map V.str
  | [], [], _ => rfl
  | _, y :: ys, .cons h g => by cases h; rw [DaL.strs g]; rfl
theorem DaL.ints' {H : Hp} : ∀ {vs : List V} {ys : List Int}, DaL K H vs (ys.map PyData.int) → vs = ys.map V.int
  | [], [], _ => rfl
  | _, y :: ys, .cons h g => by cases h; rw [DaL.ints' g]; rfl
abbrev gIdx : GB
  | .list ds, .str k, Q => ∃ ys : List Str, ds = ys.map PyData.str ∧ k ∈ ys ∧ ds.length ≤ 1000000 ∧ Q (.int (ys.idxOf k : Nat))
  | .list ds, .int k, Q => ∃ ys : List Int, ds = ys.map PyData.int ∧ k ∈ ys ∧ ds.length ≤ 1000000 ∧ Q (.int (ys.idxOf k : Nat))
  | _, _, _ => False
theorem gIdx_mono : ∀ (x y : PyData) (P P' : PyData → Prop), (∀ d, P d → P' d) → gIdx x y P → gIdx x y P' := fun x y P P' h q => by
  cases x <;> cases y <;> first | exact q.elim | skip
  · obtain ⟨ys, a, b, c, d⟩ := q
    exact ⟨ys, a, b, c, h _ d⟩
  · obtain ⟨ys, a, b, c, d⟩ := q
    exact ⟨ys, a, b, c, h _ d⟩
def isL : PyData → Prop
  | .list _ => True
  | _ => False
abbrev eIdx (fa fb : FE) : FE := fun ρ Q => fa ρ fun x => isL x ∧ fb ρ fun y => gIdx x y Q
variable {ta tb : TE} {ca cb : Nat} {fa fb : FE} {md md2 : Bool}
theorem snd_idx (a : Snd md K ta ca fa) (b : Snd md2 K tb cb fb) : Snd true K (tBM K "list" rIdx ta (tCons tb tNil)) (ca + cb) (eIdx fa fb) := mk_snd
  (fun ρ P P' h q => a.mono _ _ _ (fun x z => ⟨z.1, b.mono _ _ _ (fun y => gIdx_mono x y _ _ h) z.2⟩) q)
  (fun {B S m σ H ρ Q P} E hm hf k => a.go E (by omega) hf fun x vx H1 h1 s1 b1 d1 => by
    obtain ⟨hL, h1⟩ := h1
    have key : ∃ p xs ds, x = .list ds ∧ vx = .ref p ∧ H1 p = some (.lst xs) := by
      cases x <;> first | exact hL.elim | skip
      rename_i ds
      obtain ⟨p, vs, rfl, e1, g⟩ := d1.vw.list
      exact ⟨p, vs, ds, rfl, rfl, e1⟩
    obtain ⟨p, xs, ds, rfl, rfl, e1⟩ := key
    refine ⟨.inl ⟨rfl, xs, .inl (.inl e1)⟩, b.go (E.step s1 b1) (by omega) h1 fun y vy H2 h2 s2 b2 d2 => ?_⟩
    have V1 := d1.vw.step s2 E.bs
    obtain ⟨p', vs, e, e3, g⟩ := V1.list
    cases e
    have kk : ∀ i : Int, P (.int i) → Q (.int i) H2 := fun i h => k _ _ _ h (s1.trans s2) (b2.le (by omega)) (.int i)
    cases y <;> first | exact h2.elim | skip
    · obtain ⟨ys, rfl, hk, hl, q⟩ := h2
      rw [d2.vw.int]
      rw [g.ints'] at e3
      rw [List.length_map] at hl
      exact .inr ⟨p, ys, _, rfl, rfl, e3, hk, Nat.le_trans hl (by decide), kk _ q⟩
    · obtain ⟨ys, rfl, hk, hl, q⟩ := h2
      rw [d2.vw.str]
      rw [g.strs] at e3
      rw [List.length_map] at hl
      exact .inl ⟨p, ys, _, rfl, rfl, e3, hk, Nat.le_trans hl (by decide), kk _ q⟩)
end
end Dv
namespace Dv
open PySem PySem.Spec PyProof.Rows L2 Xg
open Classical
/-! while, numbers drawn in it, at most so many turns -/
section
variable {K : PySem.W.Frag} {tt : TT} {ft : FT} {t : TS} {f : FS} {c : Nat}
def sWhileN (N : Nat) (ft : FT) (f : FS) : FS := fun ρ E => ∃ W : Nat → List Sl → Prop, (∃ n, n ≤ N ∧ W n ρ) ∧ ∀ n ρ, W n ρ → ft ρ fun k => if k = true then f ρ { E with nx := fun ρ' => ∃ n', n' < n ∧ W n' ρ', ct := fun ρ' => ∃ n', n' < n ∧ W n' ρ', bk := E.nx } else E.nx ρ
theorem snds_whileN {N : Nat} (x : SndT K tt 0 ft) (a : SndS K t c f) : SndS K (tWhile tt t) ((N + 1) * c) (sWhileN N ft f) :=
  ⟨fun ρ E E' h q => by
    obtain ⟨W, w0, turn⟩ := q
    refine ⟨W, w0, fun n ρ w => x.mono _ _ _ (fun k z => ?_) (turn n ρ w)⟩
    cases k with
    | true => exact a.mono ρ { E with nx := fun ρ' => ∃ n', n' < n ∧ W n' ρ', ct := fun ρ' => ∃ n', n' < n ∧ W n' ρ', bk := E.nx } { E' with nx := fun ρ' => ∃ n', n' < n ∧ W n' ρ', ct := fun ρ' => ∃ n', n' < n ∧ W n' ρ', bk := E'.nx } ⟨fun _ h => h, h.rt, h.rl, h.nx, fun _ h => h⟩ z
    | false => exact h.nx _ z,
  fun {G H0 b0 b os m H σ ρ D E} ok hm hf k => by
    obtain ⟨W, ⟨n0, l0, w0⟩, turn⟩ := hf
    have eN : (N + 1) * c = N * c + c := by rw [Nat.add_mul, Nat.one_mul]
    have sub : ∀ n, n ≤ N → (N - n) * c ≤ N * c := fun n h => Nat.mul_le_mul_right _ (by omega)
    have dn : ∀ n n', n' < n → n ≤ N → (N - n) * c + c ≤ (N - n') * c := fun n n' h g => by
      rw [← Nat.succ_mul]
      exact Nat.mul_le_mul_right _ (by omega)
    refine ⟨fun n σ2 H2 => n ≤ N ∧ ∃ b2 os2 ρ2, Ok K G H0 b0 b2 os2 (m + (N - n) * c) H2 σ2 ρ2 ∧ Lk (SO G b os) H (SO G b2 os2) H2 ∧ W n ρ2, ⟨n0, l0, b, os, ρ, ok.le (by omega), Lk.refl, w0⟩, fun n σ2 H2 pe => ?_⟩
    obtain ⟨ln, b2, os2, ρ2, o2, l2, w2⟩ := pe
    have sn := sub n ln
    refine x.go o2.env (by omega) (turn n ρ2 w2) fun q H3 p st bx => ?_
    have o3 := o2.step st bx (Nat.le_refl _)
    have l3 := l2.trans (Lk.step st o2.env.bs)
    cases q with
    | true =>
      rw [if_pos rfl] at p ⊢
      refine ⟨fun σ5 H5 => ∃ b5 os5 ρ5, Ok K G H0 b0 b5 os5 (m + (N - n) * c + c) H5 σ5 ρ5 ∧ Lk (SO G b os) H (SO G b5 os5) H5 ∧ ∃ n', n' < n ∧ W n' ρ5, fun σ5 H5 z => ?_, a.go o3 (by omega) p ⟨fun b5 os5 σ5 H5 ρ5 q o l => ⟨b5, os5, ρ5, o.le (by omega), l3.trans l, q⟩, fun d v H5 q o => k.rt d v H5 q ⟨o.old, o.obx.le (by omega)⟩, fun ds vs p H5 q o => k.rl ds vs p H5 q ⟨o.old, o.obx.le (by omega)⟩,
        fun b5 os5 σ5 H5 ρ5 q o l => k.nx b5 os5 σ5 H5 ρ5 q (o.le (by omega)) (l3.trans l), fun b5 os5 σ5 H5 ρ5 q o l => ⟨b5, os5, ρ5, o.le (by omega), l3.trans l, q⟩⟩⟩
      obtain ⟨b5, os5, ρ5, o5, l5, n', lt, w5⟩ := z
      have := dn n n' lt ln
      exact ⟨n', lt, by omega, b5, os5, ρ5, o5.le (by omega), l5, w5⟩
    | false =>
      rw [if_neg Bool.false_ne_true] at p ⊢
      exact k.nx _ _ _ _ _ p (o3.le (by omega)) l3⟩
end
/-! x = [new lists]; tests, names given; y = [new lists]; tests; for z in x + y: z is changed -/
section
variable {K : PySem.W.Frag} {ta : TE} {tr : TA} {ca cr n l c : Nat} {fr : FN} {fa : FE}
/-- the loop over a new list that some expression tells -/
theorem for_wreck {te : TE} {j k : Nat} {t : TE → TS} (w : Wm k t) {D : Ends} {σ : L2.St} {H0 : Hp} {ps : List Addr} {B : Nat} (hte : ∀ Q : VK, (∀ p, H0 p = none → Q (.ref p) (upd H0 p (.lst (ps.map V.ref)))) → te σ H0 Q) (hj : j < σ.length) (nd : ps.Nodup) (hq0 : ∀ q ∈ ps, ∃ ws, H0 q = some (.lst ws) ∧ ws.length ≤ B) (hB : B + k < sizeLine)
    (kk : ∀ σ' H', σ'.length = σ.length → (∀ x, x ≠ j → σ'[x]? = σ[x]?) → (∀ a o, a ∉ ps → H0 a = some o → H' a = some o) → D.nx σ' H') : tFor (Pw.iSeq K te) (gName j) (t (tVar j)) D σ H0 := by
  refine hte _ fun p np0 => ?_
  have ex := Evl.Ex.new (o := .lst (ps.map V.ref)) np0
  have hp : upd H0 p (.lst (ps.map V.ref)) p = some (.lst (ps.map V.ref)) := upd_same
  have np : p ∉ ps := fun z => by
    obtain ⟨ws, w1, _⟩ := hq0 p z
    rw [np0] at w1
    cases w1
  have hq : ∀ q ∈ ps, ∃ ws, upd H0 p (.lst (ps.map V.ref)) q = some (.lst ws) ∧ ws.length ≤ B := fun q m => by
    obtain ⟨ws, w1, w2⟩ := hq0 q m
    exact ⟨ws, ex _ _ w1, w2⟩
  generalize hH : upd H0 p (.lst (ps.map V.ref)) = H at *
  refine ⟨p, rfl, .inl ⟨⟨_, .inl (.inl hp)⟩, fun x m σ2 H2 => m = ps.length - x ∧ x ≤ ps.length ∧ σ2.length = σ.length ∧ (∀ y, y ≠ j → σ2[y]? = σ[y]?) ∧ (∀ a o, a ∉ ps → H a = some o → H2 a = some o) ∧ (∀ q ∈ ps, ∃ ws, H2 q = some (.lst ws) ∧ ws.length ≤ B + k) ∧ (∀ q ∈ ps.drop x, ∃ ws, H2 q = some (.lst ws) ∧ ws.length ≤ B),
    ⟨_, rfl, Nat.zero_le _, rfl, fun _ _ => rfl, fun _ _ _ h => h, fun q h => ?_, fun q h => hq q (by rw [List.drop_zero] at h; exact h)⟩, fun x m σ2 H2 W => ?_⟩⟩
  · obtain ⟨ws, w1, w2⟩ := hq q h
    exact ⟨ws, w1, by omega⟩
  obtain ⟨hm, hx, l2, s2, e2, q2, r2⟩ := W
  have hp2 : SqL K H2 p (ps.map V.ref) := .inl (.inl (e2 _ _ np hp))
  by_cases z : x = ps.length
  · exact .inl ⟨⟨_, hp2, by rw [List.length_map]; omega⟩, kk σ2 H2 l2 s2 (fun a o na h => e2 a o na (ex _ _ h))⟩
  have lx : x < ps.length := by omega
  have gx : (ps.map V.ref)[x]? = some (.ref ps[x]) := by
    rw [List.getElem?_map, List.getElem?_eq_getElem lx]
    rfl
  refine .inr ⟨⟨_, _, hp2, gx⟩, fun σ' H' => ∃ m', m' < m ∧ (m' = ps.length - (x + 1) ∧ x + 1 ≤ ps.length ∧ σ'.length = σ.length ∧ (∀ y, y ≠ j → σ'[y]? = σ[y]?) ∧ (∀ a o, a ∉ ps → H a = some o → H' a = some o) ∧ (∀ q ∈ ps, ∃ ws, H' q = some (.lst ws) ∧ ws.length ≤ B + k) ∧ (∀ q ∈ ps.drop (x + 1), ∃ ws, H' q = some (.lst ws) ∧ ws.length ≤ B)), fun _ _ h => h, fun v H3 y => ?_⟩
  obtain ⟨rfl, y⟩ := y
  have ev := y _ hp2
  rw [gx] at ev
  cases ev
  have dr : ps.drop x = ps[x] :: ps.drop (x + 1) := List.drop_eq_getElem_cons lx
  rw [dr] at r2
  obtain ⟨ws, w1, w2⟩ := r2 _ (List.mem_cons_self ..)
  have jl : j < σ2.length := by
    rw [l2]
    exact hj
  have mx : ps[x] ∈ ps := List.getElem_mem lx
  have nd2 : ps[x] ∉ ps.drop (x + 1) := by
    have z := nd.sublist (List.drop_sublist x ps)
    rw [dr] at z
    exact (List.nodup_cons.mp z).1
  refine w.go (q := ps[x]) (ws := ws) (B := B) (fun H1 Q _ q => ⟨.ref ps[x], by rw [List.getElem?_set_self jl], q⟩) w1 w2 hB fun H' h' => ⟨ps.length - (x + 1), by omega, rfl, by omega, by rw [List.length_set]; exact l2, fun y hy => ?_, fun a o na h => h'.1 a o (fun z => na (by rw [z]; exact mx)) (e2 a o na h), fun q h => ?_, fun q h => ?_⟩
  · rw [List.getElem?_set_ne (Ne.symm hy)]
    exact s2 y hy
  · by_cases z : q = ps[x]
    · rw [z]
      exact h'.2
    · obtain ⟨us, u1, u2⟩ := q2 q h
      exact ⟨us, h'.1 _ _ z u1, u2⟩
  · obtain ⟨us, u1, u2⟩ := r2 q (List.mem_cons_of_mem _ h)
    exact ⟨us, h'.1 _ _ (fun z => nd2 (by rw [← z]; exact h)) u1, u2⟩
/-- two lists of new lists are there -/
structure Two (b : Option Addr) (σ : L2.St) (H : Hp) (i j n l : Nat) (p r : Addr) (ps rs : List Addr) : Prop where
  si : σ[i]? = some (some (.ref p))
  sj : σ[j]? = some (some (.ref r))
  hp : H p = some (.lst (ps.map V.ref))
  hr : H r = some (.lst (rs.map V.ref))
  ln : ps.length = n
  ll : rs.length = l
  nd : (ps ++ rs).Nodup
  np : p ∉ ps ++ rs
  nr : r ∉ ps ++ rs
  bp : b ≠ some p
  br : b ≠ some r
  bq : ∀ q ∈ ps ++ rs, b ≠ some q
  hq : ∀ q ∈ ps ++ rs, ∃ ws, H q = some (.lst ws) ∧ ws.length ≤ 1000000
theorem Two.step {b : Option Addr} {σ : L2.St} {H H' : Hp} {i j n l : Nat} {p r : Addr} {ps rs : List Addr} (T : Two b σ H i j n l p r ps rs) (st : Stp b H H') : Two b σ H' i j n l p r ps rs :=
  ⟨T.si, T.sj, st _ _ T.bp T.hp, st _ _ T.br T.hr, T.ln, T.ll, T.nd, T.np, T.nr, T.bp, T.br, T.bq, fun q m => by
    obtain ⟨ws, w1, w2⟩ := T.hq q m
    exact ⟨ws, st _ _ (T.bq q m) w1, w2⟩⟩
structure SndY (K : PySem.W.Frag) (i n j l : Nat) (vs : List Nat) (t : TS) (c : Nat) (f : FS) : Prop where
  mono : ∀ (ρ : List Sl) (E E' : DEnds), DLe E E' → f ρ E → f ρ E'
  go : ∀ {b : Option Addr} {S : Addr → Prop} {m : Nat} {σ : L2.St} {H : Hp} {ρ : List Sl} {D : Ends} {E : DEnds} {p r : Addr} {ps rs : List Addr}, DEnv K b S m H σ ρ → m + c ≤ LIM → (∀ x ∈ vs, x < σ.length) → Two b σ H i j n l p r ps rs → f ρ E →
    (∀ σ' H' ρ', E.nx ρ' → σ'.length = σ.length → (∀ x, x ∉ vs → σ'[x]? = σ[x]?) → (∀ a o, a ∉ ps ++ rs → b ≠ some a → H a = some o → H' a = some o) → BxO b H' (m + c) → D.nx σ' H') →
    (∀ H', E.rt (.bool false) → Stp b H H' → BxO b H' (m + c) → D.rt (.bl false) H') → t D σ H
theorem sndy_for {i j z k : Nat} {t : TE → TS} (w : Wm k t) (hk : k ≤ 1000) (hn : n + l ≤ 1000) : SndY K i n j l [z] (tFor (Pw.iSeq K (tOp (rAdd K) (tVar i) (tVar j))) (gName z) (t (tVar z))) 0 sSkip :=
  ⟨fun ρ E E' h q => h.nx _ q, fun {b S m σ H ρ D E p r ps rs} en hm hv T hf nx rt => by
    have hte : ∀ Q : VK, (∀ a, H a = none → Q (.ref a) (upd H a (.lst ((ps ++ rs).map V.ref)))) → tOp (rAdd K) (tVar i) (tVar j) σ H Q := fun Q q => ⟨.ref p, T.si, .ref r, T.sj, .inr (.inl ⟨_, _, _, _, rfl, rfl, T.hp, T.hr, by rw [List.length_map, List.length_map, T.ln, T.ll]; exact Nat.le_trans hn (by decide), fun a na => by rw [← List.map_append]; exact q a na⟩)⟩
    refine for_wreck w (B := 1000000) hte (hv z (List.mem_singleton_self _)) T.nd T.hq (Nat.lt_of_le_of_lt (Nat.add_le_add_left hk _) (by decide)) fun σ' H' e s x => nx σ' H' ρ hf e (fun y hy => s y fun e => hy (by rw [e]; exact List.mem_singleton_self _)) (fun a o na _ h => x a o na h) ?_
    have bx := en.bx
    cases b with
    | none => trivial
    | some c =>
      obtain ⟨x1, y1, z1, h1, h2, h3, h4, h5, h6⟩ := bx
      exact ⟨x1, y1, z1, h1, h2, h3, h4, h5, x _ _ (fun m => T.bq c m rfl) h6⟩⟩
theorem sndy_if {i j : Nat} {vs : List Nat} {t : TS} {f : FS} {tt : TT} {ft : FT} {ct : Nat} (a : SndT K tt ct ft) (r : SndY K i n j l vs t c f) : SndY K i n j l vs (tSeq (tIfS tt (tRet (tC (.bl false))) tNext) t) (ct + c) (sSeq (sIf ft (sRet (eC (.bool false))) sSkip) f) :=
  ⟨fun ρ E E' h q => a.mono _ _ _ (fun k z => by
      cases k with
      | true => exact h.rt _ z
      | false => exact r.mono _ _ _ h z) q,
   fun {b S m σ H ρ D E p r' ps rs} en hm hv T hf nx rt => a.go en (by omega) hf fun q H1 h1 st bx => by
    cases q with
    | true => exact rt H1 h1 st (bx.le (by omega))
    | false => exact r.go (en.step st bx) (by omega) hv (T.step st) h1 (fun σ' H' ρ' e l s x bx2 => nx σ' H' ρ' e l s (fun a o na nb h => x a o na nb (st a o nb h)) (bx2.le (by omega))) fun H' e st2 bx2 => rt H' e (st.trans st2) (bx2.le (by omega))⟩
/-- one list of new lists is there -/
structure One (b : Option Addr) (σ : L2.St) (H : Hp) (i n : Nat) (p : Addr) (ps : List Addr) : Prop where
  si : σ[i]? = some (some (.ref p))
  hp : H p = some (.lst (ps.map V.ref))
  ln : ps.length = n
  nd : ps.Nodup
  np : p ∉ ps
  bp : b ≠ some p
  bq : ∀ q ∈ ps, b ≠ some q
  hq : ∀ q ∈ ps, ∃ ws, H q = some (.lst ws) ∧ ws.length ≤ 1000000
theorem One.step {b : Option Addr} {σ : L2.St} {H H' : Hp} {i n : Nat} {p : Addr} {ps : List Addr} (T : One b σ H i n p ps) (st : Stp b H H') : One b σ H' i n p ps :=
  ⟨T.si, st _ _ T.bp T.hp, T.ln, T.nd, T.np, T.bp, T.bq, fun q m => by
    obtain ⟨ws, w1, w2⟩ := T.hq q m
    exact ⟨ws, st _ _ (T.bq q m) w1, w2⟩⟩
structure SndX (K : PySem.W.Frag) (i n : Nat) (vs : List Nat) (t : TS) (c : Nat) (f : FS) : Prop where
  mono : ∀ (ρ : List Sl) (E E' : DEnds), DLe E E' → f ρ E → f ρ E'
  go : ∀ {b : Option Addr} {S : Addr → Prop} {m : Nat} {σ : L2.St} {H : Hp} {ρ : List Sl} {D : Ends} {E : DEnds} {p : Addr} {ps : List Addr}, DEnv K b S m H σ ρ → m + c ≤ LIM → (∀ x ∈ vs, x < σ.length) → One b σ H i n p ps → f ρ E →
    (∀ σ' H' ρ', E.nx ρ' → σ'.length = σ.length → (∀ x, x ∉ vs → σ'[x]? = σ[x]?) → (∀ a o, a ∉ ps → b ≠ some a → H a = some o → H' a = some o) → BxO b H' (m + c) → D.nx σ' H') →
    (∀ H', E.rt (.bool false) → Stp b H H' → BxO b H' (m + c) → D.rt (.bl false) H') → t D σ H
theorem sndx_if {i : Nat} {vs : List Nat} {t : TS} {f : FS} {tt : TT} {ft : FT} {ct : Nat} (a : SndT K tt ct ft) (r : SndX K i n vs t c f) : SndX K i n vs (tSeq (tIfS tt (tRet (tC (.bl false))) tNext) t) (ct + c) (sSeq (sIf ft (sRet (eC (.bool false))) sSkip) f) :=
  ⟨fun ρ E E' h q => a.mono _ _ _ (fun k z => by
      cases k with
      | true => exact h.rt _ z
      | false => exact r.mono _ _ _ h z) q,
   fun {b S m σ H ρ D E p ps} en hm hv T hf nx rt => a.go en (by omega) hf fun q H1 h1 st bx => by
    cases q with
    | true => exact rt H1 h1 st (bx.le (by omega))
    | false => exact r.go (en.step st bx) (by omega) hv (T.step st) h1 (fun σ' H' ρ' e l s x bx2 => nx σ' H' ρ' e l s (fun a o na nb h => x a o na nb (st a o nb h)) (bx2.le (by omega))) fun H' e st2 bx2 => rt H' e (st.trans st2) (bx2.le (by omega))⟩
abbrev sNam (s : Nat) (fa : FE) (f : FS) : FS := fun ρ E => fa ρ fun d => f (ρ.set s (.dt d)) E
theorem sndx_asg {i s : Nat} {vs : List Nat} {t : TS} {f : FS} (hs : s ∈ vs) (hi : i ≠ s) (a : Snd true K ta ca fa) (r : SndX K i n vs t c f) : SndX K i n vs (tSeq (tAsg ta (gName s)) t) (ca + c) (sNam s fa f) :=
  ⟨fun ρ E E' h q => a.mono _ _ _ (fun d z => r.mono _ _ _ h z) q,
   fun {b S m σ H ρ D E p ps} en hm hv T hf nx rt => a.go en (by omega) hf fun d v H1 h1 st bx vd => by
    have E1 := (en.step st bx).set (i := s) (v := v) (s := .dt d) fun x e => ⟨_, e, vd⟩
    have T1 := T.step st
    have T2 : One b (σ.set s (some v)) H1 i n p ps := ⟨by rw [List.getElem?_set_ne (Ne.symm hi)]; exact T1.si, T1.hp, T1.ln, T1.nd, T1.np, T1.bp, T1.bq, T1.hq⟩
    exact r.go E1 (by omega) (fun x h => by rw [List.length_set]; exact hv x h) T2 h1 (fun σ' H' ρ' e l s' x bx2 => nx σ' H' ρ' e (by rw [l, List.length_set]) (fun y hy => by rw [s' y hy, List.getElem?_set_ne fun z => hy (by rw [← z]; exact hs)]) (fun a o na nb h => x a o na nb (st a o nb h)) (bx2.le (by omega))) fun H' e st2 bx2 => rt H' e (st.trans st2) (bx2.le (by omega))⟩
abbrev sInn (j : Nat) (fr : FN) (f : FS) : FS := fun ρ E => fr ρ fun dss => (∀ ds ∈ dss, List.length ds < 1000000) ∧ f (ρ.set j (.dt (.list (dss.map PyData.list)))) E
theorem sndx_in {i j : Nat} {vs us : List Nat} {t : TS} {f : FS} (hj : j ∈ vs) (hu : ∀ x ∈ us, x ∈ vs) (hi : i ≠ j) (a : SndN K tr l cr fr) (r : SndY K i n j l us t c f) (hl : l ≤ sizeLine) : SndX K i n vs (tSeq (tAsg (tLst tr) (gName j)) t) (cr + c) (sInn j fr f) :=
  ⟨fun ρ E E' h q => a.mono _ _ _ (fun dss z => ⟨z.1, r.mono _ _ _ h z.2⟩) q,
   fun {b S m σ H ρ D E p ps} en hm hv T hf nx rt => a.go en (by omega) hf fun dss rs H1 h1 l1 s1 b1 fr nd d1 => ⟨by rw [List.length_map, l1]; exact hl, fun q nq => by
    obtain ⟨hl, h2⟩ := h1
    have E1 := en.step s1 b1
    have ex := Evl.Ex.new (o := .lst (rs.map V.ref)) nq
    have st2 : Stp b H1 (upd H1 q (.lst (rs.map V.ref))) := Stp.ex ex
    have bx2 := b1.ex ex
    have E2 := E1.step st2 bx2
    have dp : Da K (rm (upd H1 q (.lst (rs.map V.ref))) S) (.ref q) (.list (dss.map PyData.list)) := new_lst E1.al nq d1
    have E3 := E2.set (i := j) (v := .ref q) (s := .dt (.list (dss.map PyData.list))) fun x e => ⟨_, e, dp⟩
    have nH : H q = none := back s1 b1 nq
    have jl : j < σ.length := hv j hj
    have bne : ∀ q, H q = none → b ≠ some q := fun q h z => en.al q (en.bs q z) h
    have T1 := (T.step s1).step st2
    have hr1 := d1.lens hl
    have qn : q ∉ rs := fun z => by
      obtain ⟨ws, w1, _⟩ := hr1 q z
      rw [nq] at w1
      cases w1
    have old : ∀ x, x ∈ ps → H x ≠ none := fun x h z => by
      obtain ⟨ws, w1, _⟩ := T.hq x h
      rw [z] at w1
      cases w1
    have hpn : H p ≠ none := fun z => by
      have := T.hp
      rw [z] at this
      cases this
    have T2 : Two b (σ.set j (some (.ref q))) (upd H1 q (.lst (rs.map V.ref))) i j n l p q ps rs := by
      refine ⟨by rw [List.getElem?_set_ne (Ne.symm hi)]; exact T1.si, by rw [List.getElem?_set_self jl], T1.hp, upd_same, T1.ln, l1, List.nodup_append.mpr ⟨T1.nd, nd, fun x hx y hy e => old x hx (by rw [e]; exact fr y hy)⟩, fun z => ?_, fun z => ?_, T1.bp, bne q nH, fun x hx => ?_, fun x hx => ?_⟩
      · rcases List.mem_append.mp z with z | z
        · exact T1.np z
        · exact hpn (fr p z)
      · rcases List.mem_append.mp z with z | z
        · exact old q z nH
        · exact qn z
      · rcases List.mem_append.mp hx with z | z
        · exact T1.bq x z
        · exact bne x (fr x z)
      · rcases List.mem_append.mp hx with z | z
        · exact T1.hq x z
        · obtain ⟨ws, w1, w2⟩ := hr1 x z
          exact ⟨ws, ex _ _ w1, w2⟩
    refine r.go E3 (by omega) (fun x h => by rw [List.length_set]; exact hv x (hu x h)) T2 h2 (fun σ' H' ρ' e l s' x bx3 => nx σ' H' ρ' e (by rw [l, List.length_set]) (fun y hy => by rw [s' y fun z => hy (hu y z), List.getElem?_set_ne fun z => hy (by rw [← z]; exact hj)]) (fun a o na nb h => x a o (fun z => ?_) nb (st2 _ _ nb (s1 a o nb h))) (bx3.le (by omega))) fun H' e st3 bx3 => rt H' e ((s1.trans st2).trans st3) (bx3.le (by omega))
    rcases List.mem_append.mp z with z | z
    · exact na z
    · rw [fr a z] at h
      cases h⟩⟩
theorem snds_nst2 {i : Nat} {vs : List Nat} {t : TS} {f : FS} (a : SndN K tr n cr fr) (w : SndX K i n vs t c f) (hn : n ≤ sizeLine) : SndS K (tSeq (tAsg (tLst tr) (gName i)) t) (cr + c) (sNst i vs fr f) :=
  ⟨fun ρ E E' h q => ⟨q.1, a.mono _ _ _ (fun dss z => ⟨z.1, w.mono _ { nx := fun _ => E.nx (noS ρ (i :: vs)), rt := E.rt, rl := E.rl, bk := E.bk, ct := E.ct } { nx := fun _ => E'.nx (noS ρ (i :: vs)), rt := E'.rt, rl := E'.rl, bk := E'.bk, ct := E'.ct } ⟨fun _ => h.nx _, h.rt, h.rl, h.bk, h.ct⟩ z.2⟩) q.2⟩,
   fun {G H0 b0 b os m H σ ρ D E} ok hm hf k => a.go ok.env (by omega) hf.2 fun dss ps H1 h1 l1 s1 b1 fr nd d1 => ⟨by rw [List.length_map, l1]; exact hn, fun p np => by
    obtain ⟨hl, h2⟩ := h1
    have lv : ∀ x ∈ i :: vs, x < σ.length := fun x h => by rw [ok.env.len]; exact hf.1 x h
    have E1 := ok.env.step s1 b1
    have ex := Evl.Ex.new (o := .lst (ps.map V.ref)) np
    have st2 : Stp b H1 (upd H1 p (.lst (ps.map V.ref))) := Stp.ex ex
    have bx2 := b1.ex ex
    have E2 := E1.step st2 bx2
    have dp : Da K (rm (upd H1 p (.lst (ps.map V.ref))) (SO G b os)) (.ref p) (.list (dss.map PyData.list)) := new_lst E1.al np d1
    have E3 := E2.set (i := i) (v := .ref p) (s := .dt (.list (dss.map PyData.list))) fun x e => ⟨_, e, dp⟩
    have nH : H p = none := back s1 b1 np
    have il : i < σ.length := lv i (List.mem_cons_self ..)
    have bne : ∀ q, H q = none → b ≠ some q := fun q h z => ok.env.al q (ok.env.bs q z) h
    have pn : p ∉ ps := fun z => by
      obtain ⟨ws, w1, _⟩ := d1.lens hl p z
      rw [np] at w1
      cases w1
    refine w.go (p := p) (ps := ps) E3 (by omega) (fun x h => by rw [List.length_set]; exact lv x (List.mem_cons_of_mem _ h)) ⟨by rw [List.getElem?_set_self il], upd_same, l1, nd, pn, bne p nH, fun q h => bne q (fr q h), fun q h => ?_⟩ h2 (fun σ' H' _ e l s x bx => ?_) fun H' e st bx => ?_
    · obtain ⟨ws, w1, w2⟩ := d1.lens hl q h
      exact ⟨ws, ex _ _ w1, w2⟩
    · have st : Stp b H H' := fun a o nb h => x a o (fun z => by rw [fr a z] at h; cases h) nb (st2 _ _ nb (s1 _ _ nb h))
      have ok2 := ok.step st bx (by omega)
      have sl : ∀ (y : Nat) (s : Sl), (noS ρ (i :: vs))[y]? = some s → s = .no ∨ (σ'[y]? = σ[y]? ∧ ρ[y]? = some s) := fun y s0 h => by
        rcases noS_at h with h | ⟨h3, h4⟩
        · exact .inl h
        · refine .inr ⟨?_, h4⟩
          rw [s y fun z => h3 (List.mem_cons_of_mem _ z), List.getElem?_set_ne fun z => h3 (by rw [z]; exact List.mem_cons_self ..)]
      refine k.nx b os σ' H' (noS ρ (i :: vs)) e (Ok.le ⟨⟨by rw [l, List.length_set, noS_len]; exact ok.env.len, fun y s0 h => ?_, ok2.env.bx, ok2.env.bs, ok2.env.al⟩, ok2.inj, ok2.new, ok2.old, ok2.bn, ok2.obx, ok2.bo, fun y ds h => ?_, ok2.al0, ok2.bG⟩ (by omega)) (Lk.step st ok.env.bs)
      · rcases sl y s0 h with rfl | ⟨h3, h4⟩
        · trivial
        · rw [h3]
          exact ok2.env.sl y s0 h4
      · rcases sl y _ h with h | ⟨h3, h4⟩
        · cases h
        · rw [h3]
          exact ok2.slo y ds h4
    · have stt := (s1.trans st2).trans st
      exact k.rt _ _ _ e (ok.step (n := m + (cr + c)) stt (bx.le (by omega)) (by omega)).out (.bl false)⟩⟩
end
end Dv
/-! zip of three tuples -/
namespace Zq
open PySem PySem.Spec PyProof.Rows L2
def It3 (K : PySem.W.Frag) (a b c : Addr) : It where
  go i H := ∃ (xs ys zs : List V) (x y w : V), (SqT K H a xs ∧ xs[i]? = some x) ∧ (SqT K H b ys ∧ ys[i]? = some y) ∧ (SqT K H c zs ∧ zs[i]? = some w)
  yld i H v H' := ∃ W x y w, v = .ref W ∧ H W = none ∧ H' = upd H W (.tup [x, y, w]) ∧ (∀ l, SqT K H a l → l[i]? = some x) ∧ (∀ l, SqT K H b l → l[i]? = some y) ∧ (∀ l, SqT K H c l → l[i]? = some w)
  stop i H := ∃ xs ys zs : List V, SqT K H a xs ∧ SqT K H b ys ∧ SqT K H c zs ∧ i = min (min xs.length ys.length) zs.length
def tn3 (z S T p1 p2 p3 a b c : Addr) (i : Nat) (g : Heap) : Prop := IsZip g z S T .none ∧ IsTupOf3 g S (.ref p1) (.ref p2) (.ref p3) ∧ (∃ x y w, IsTupOf3 g T x y w) ∧ itK true g p1 a i ∧ itK true g p2 b i ∧ itK true g p3 c i
theorem six {z S T p1 p2 p3 c : Addr} {M : Prop} (h : c ∈ [z, S, T, p1, p2, p3]) (m1 : c = z → M) (m2 : c = S → M) (m3 : c = T → M) (m4 : c = p1 → M) (m5 : c = p2 → M) (m6 : c = p3 → M) : M := by
  simp only [List.mem_cons, List.not_mem_nil, or_false] at h
  exact h.elim m1 fun h => h.elim m2 fun h => h.elim m3 fun h => h.elim m4 fun h => h.elim m5 m6
theorem tn3_obj {z S T p1 p2 p3 a b e : Addr} {i : Nat} {g : Heap} (st : tn3 z S T p1 p2 p3 a b e i g) {c : Addr} (hc : c ∈ [z, S, T, p1, p2, p3]) : ∃ o, g.get? c = some o ∧ ∀ v, o.data ≠ .cell v := by
  obtain ⟨z0, S0, ⟨x, y, w, T0⟩, f1, f2, f3⟩ := st
  obtain ⟨o1, g1, d1⟩ := it_obj f1
  obtain ⟨o2, g2, d2⟩ := it_obj f2
  obtain ⟨o3, g3, d3⟩ := it_obj f3
  refine six hc (fun e => ?_) (fun e => ?_) (fun e => ?_) (fun e => ?_) (fun e => ?_) (fun e => ?_) <;> rw [e]
  · exact ⟨_, z0, fun _ k => nomatch k⟩
  · exact ⟨_, S0, fun _ k => nomatch k⟩
  · exact ⟨_, T0, fun _ k => nomatch k⟩
  · exact ⟨o1, g1, fun _ k => by cases d1.symm.trans k⟩
  · exact ⟨o2, g2, fun _ k => by cases d2.symm.trans k⟩
  · exact ⟨o3, g3, fun _ k => by cases d3.symm.trans k⟩
/-- the six lie apart, and the three tuples apart from them -/
structure Ap3 (z S T p1 p2 p3 a b c : Addr) : Prop where
  sep : ZipSep3 z S T p1 p2 p3 [p1, a] [p2, b] [p3, c]
  a1 : a ≠ p1
  b2 : b ≠ p2
  c3 : c ≠ p3
theorem ap3 {N a b c : Addr} (la : a < N) (lb : b < N) (lc : c < N) : Ap3 (N + 5) (N + 3) (N + 4) N (N + 1) (N + 2) a b c := by
  refine ⟨zip_sep3 (fun x hx => ?_) (fun x hx => ?_) (fun x hx => ?_), Nat.ne_of_lt la, Nat.ne_of_lt (Nat.lt_of_lt_of_le lb (Nat.le_add_right _ 1)), Nat.ne_of_lt (Nat.lt_of_lt_of_le lc (Nat.le_add_right _ 2))⟩
  · rw [List.mem_singleton.mp hx]; exact la
  · rw [List.mem_singleton.mp hx]; exact lb
  · rw [List.mem_singleton.mp hx]; exact lc
theorem turn_3 {P : Program} {w : World} {K : PySem.W.Frag} {es : List Expr} {kk : Nat} {tp : Pos} {a b c z S T p1 p2 p3 : Addr} (D : Ap3 z S T p1 p2 p3 a b c) :
    Turn P w K (.Tuple es kk tp) (It3 K a b c) [z, S, T, p1, p2, p3] z (tn3 z S T p1 p2 p3 a b c) where
  mem := List.mem_cons_self
  obj := fun i g st c hc => tn3_obj st hc
  keep := fun i g g' ⟨z0, S0, ⟨x, y, w, T0⟩, f1, f2, f3⟩ k => ⟨k z (by simp) _ z0, k S (by simp) _ S0, ⟨x, y, w, k T (by simp) _ T0⟩, it_at f1 (k p1 (by simp)), it_at f2 (k p2 (by simp)), it_at f3 (k p3 (by simp))⟩
  item := by
    rintro X rfl rfl rfl hc i pins s σ H E I hf st ⟨xs, ys, zs, x, y, w, ⟨qx, ex⟩, ⟨qy, ey⟩, qz, ez⟩
    have lts : ∀ c ∈ [z, S, T, p1, p2, p3], c < s.heap.objs.size := fun c hm => let ⟨_, e, _⟩ := tn3_obj st hm; Heap.lt_size e
    obtain ⟨z0, S0, ⟨x0, y0, w0, T0⟩, f1, f2, f3⟩ := st
    obtain ⟨us, r1, m1, _⟩ := I.tuple qx
    obtain ⟨vs, r2, m2, _⟩ := I.tuple qy
    obtain ⟨ws, r3, m3, _⟩ := I.tuple qz
    obtain ⟨u, eu, ru⟩ := r1.get ex
    obtain ⟨v, ev, rv⟩ := r2.get ey
    obtain ⟨t, et, rt⟩ := r3.get ez
    have hh := I.ok.hd hc
    have lt1 : i < us.toArray.size := by rw [List.size_toArray]; exact (List.getElem?_eq_some_iff.mp eu).1
    have lt2 : i < vs.toArray.size := by rw [List.size_toArray]; exact (List.getElem?_eq_some_iff.mp ev).1
    have lt3 : i < ws.toArray.size := by rw [List.size_toArray]; exact (List.getElem?_eq_some_iff.mp et).1
    refine wpAny_pyNext_zipD3_item D.sep (Draws.tuple (A := X.A.in1) hh p1 a D.a1 us.toArray) (Draws.tuple (A := X.A.in1) hh p2 b D.b2 vs.toArray) (Draws.tuple (A := X.A.in1) hh p3 c D.c3 ws.toArray) z0 S0 T0 ⟨f1, m1⟩ ⟨f2, m2⟩ ⟨f3, m3⟩ lt1 lt2 lt3 fun u' v' t' g tk hu hv ht z1 T1 s1 s2 s3 W1 n1 st => ⟨_, rfl, ?_⟩
    have hu : us.toArray[i]? = some u' := hu
    have hv : vs.toArray[i]? = some v' := hv
    have ht : ws.toArray[i]? = some t' := ht
    rw [List.getElem?_toArray, eu] at hu
    rw [List.getElem?_toArray, ev] at hv
    rw [List.getElem?_toArray, et] at ht
    cases hu
    cases hv
    cases ht
    have f1' : itK true g p1 a (i + 1) := s1.1
    have f2' : itK true g p2 b (i + 1) := s2.1
    have f3' : itK true g p3 c (i + 1) := s3.1
    refine wpAny_letOwnedTupleGo_zip (s := { s with heap := g, toks := tk }) z1 fun g' z2 sb => ?_
    have out : ∀ c o, c ∉ [z, S, T, p1, p2, p3] → s.heap.get? c = some o → g'.get? c = some o := fun c o hb e => by
      simp only [List.mem_cons, List.not_mem_nil, or_false, not_or] at hb
      exact (sb.2 c hb.1).trans (st c o hb.1 hb.2.2.1 hb.2.2.2.1 hb.2.2.2.2.1 hb.2.2.2.2.2 e)
    have W2 : g'.get? s.heap.objs.size = some { cls := .type "tuple", data := .seq #[u, v, t] } := (sb.2 _ (Nat.ne_of_gt (lts z List.mem_cons_self))).trans W1
    have okW : ObjOk X.prog X.w (upd H s.heap.objs.size (.tup [x, y, w])) g' s.heap.objs.size (.tup [x, y, w]) := ⟨(by decide : 3 ≤ sizeLine), [u, v, t], .cons ru (.cons rv (.cons rt .nil)), ⟨_, W2, rfl, _, rfl⟩⟩
    have I' : Inv X pins σ (upd H s.heap.objs.size (.tup [x, y, w])) { s with heap := g', toks := tk } := I.turnedNew (t' := tk) (ch := [z, S, T, p1, p2, p3]) out hf (Nat.le_refl _) okW
    refine ⟨.ref s.heap.objs.size, _, I', rfl, ⟨_, x, y, w, rfl, I.hok.fresh (Nat.le_refl _), rfl, fun l hl => I.tuple_inj hl qx ▸ ex, fun l hl => I.tuple_inj hl qy ▸ ey, fun l hl => I.tuple_inj hl qz ▸ ez⟩, ⟨z2, ?_, ⟨u, v, t, ?_⟩, it_at f1' fun o e => (sb.2 _ D.sep.zi1.symm).trans e, it_at f2' fun o e => (sb.2 _ D.sep.zi2.symm).trans e, it_at f3' fun o e => (sb.2 _ D.sep.zi3.symm).trans e⟩, fun c hm => ?_⟩
    · exact (sb.2 _ D.sep.TIz).trans (st _ _ D.sep.TIz D.sep.TITO D.sep.TIi1 D.sep.TIi2 D.sep.TIi3 S0)
    · exact (sb.2 _ D.sep.TOz).trans T1
    · exact (upd_ne (Nat.ne_of_lt (lts c hm))).trans (hf c hm).1
  done := by
    rintro X rfl rfl rfl hc i pins s σ H E I hf ⟨z0, S0, ⟨x0, y0, w0, T0⟩, f1, f2, f3⟩ ⟨xs, ys, zs, qx, qy, qz, he⟩
    obtain ⟨us, r1, m1, _⟩ := I.tuple qx
    obtain ⟨vs, r2, m2, _⟩ := I.tuple qy
    obtain ⟨ws, r3, m3, _⟩ := I.tuple qz
    have n1 := r1.length
    have n2 := r2.length
    have n3 := r3.length
    have hh := I.ok.hd hc
    refine wpAny_pyNext_zipD3_end D.sep (Draws.tuple (A := X.A.in1) hh p1 a D.a1 us.toArray) (Draws.tuple (A := X.A.in1) hh p2 b D.b2 vs.toArray) (Draws.tuple (A := X.A.in1) hh p3 c D.c3 ws.toArray) z0 S0 T0 ⟨f1, m1⟩ ⟨f2, m2⟩ ⟨f3, m3⟩ (by rw [List.size_toArray]; omega) (by rw [List.size_toArray]; omega) (by rw [List.size_toArray]; omega) (by rw [List.size_toArray, List.size_toArray, List.size_toArray]; omega) fun g tk st => ⟨rfl, I.turnedL (t' := tk) (ch := [z, S, T, p1, p2, p3]) (fun c o hb e => ?_) hf⟩
    simp only [List.mem_cons, List.not_mem_nil, or_false, not_or] at hb
    exact st c o hb.1 hb.2.2.1 hb.2.2.2.1 hb.2.2.2.2.1 hb.2.2.2.2.2 e
  self := fun A i s Q E st q => wpAny_pyIter_zip st.1 q
/-- triple by triple -/
def YTri (f g k : Nat → Option V) (i : Nat) (H : Hp) (v : V) (H' : Hp) : Prop := ∃ W x y w, v = .ref W ∧ H W = none ∧ H' = upd H W (.tup [x, y, w]) ∧ f i = some x ∧ g i = some y ∧ k i = some w
theorem walk_zip3 {K : PySem.W.Frag} {a b c : Addr} {xs ys zs : List V} {n : Nat} (hn : n = min (min xs.length ys.length) zs.length) : Walk (It3 K a b c) n (fun H => SqT K H a xs ∧ SqT K H b ys ∧ SqT K H c zs) (YTri (fun i => xs[i]?) (fun i => ys[i]?) (fun i => zs[i]?)) := by
  subst hn
  refine ⟨fun i _ hi q => ?_, fun _ q => ⟨xs, ys, zs, q.1, q.2.1, q.2.2, rfl⟩, fun i H v H' _ q ⟨W, x, y, w, g1, g2, g3, g4, g5, g6⟩ => ⟨W, x, y, w, g1, g2, g3, g4 xs q.1, g5 ys q.2.1, g6 zs q.2.2⟩⟩
  exact ⟨xs, ys, zs, xs[i]'(by omega), ys[i]'(by omega), zs[i]'(by omega), ⟨q.1, List.getElem?_eq_getElem _⟩, ⟨q.2.1, List.getElem?_eq_getElem _⟩, q.2.2, List.getElem?_eq_getElem _⟩
def iZip3 (K : PySem.W.Frag) (ta : TA) : TI := fun σ H R => ta σ H fun vs H1 => ∃ a b c xs ys zs, vs = [.ref a, .ref b, .ref c] ∧ SqT K H1 a xs ∧ SqT K H1 b ys ∧ SqT K H1 c zs ∧ R (It3 K a b c) H1
theorem pi_zip3 {X : Cx} {e e' e'' : Expr} {ta : TA} {p pos tp : Pos} {es : List Expr} {kk : Nat} (hg : Gl X "zip") (hm : X.mg "zip" = none) (ha : PA X [e, e', e''] ta)
    (hs : starEach [e, e', e''] X.env = (false, eval e X.env) :: starEach [e', e''] X.env := by rfl) (hp : (backTo pos (starEach [e', e''] X.env)).any (·.1) = false := by rfl) : PI X (.Tuple es kk tp) (.Call (.Name "zip" p) [e, e', e''] [] pos) (iZip3 X.K ta) := by
  refine ⟨fun pins s σ H R I h => Call_ (ld_blt I hg hm PyProof.Rows.boot_zip (PyProof.Rows.callWith_type1 (thn (ha.run pos pins s σ H _ I h) fun us s1 ⟨vs, H1, I1, r1, a, b, c, xs, ys, zs, ex, qx, qy, qz, q⟩ => ?_) hs hp))⟩
  subst ex
  cases r1 with
  | cons ra rr =>
  cases rr with
  | cons rb rr =>
  cases rr with
  | cons rc rr =>
  cases rr
  cases ra
  cases rb
  cases rc
  obtain ⟨is, _, m1, _⟩ := I1.tuple qx
  obtain ⟨js, _, m2, _⟩ := I1.tuple qy
  obtain ⟨ks, _, m3, _⟩ := I1.tuple qz
  have la : a < s1.heap.objs.size := let ⟨_, e, _⟩ := id m1; Heap.lt_size e
  have lb : b < s1.heap.objs.size := let ⟨_, e, _⟩ := id m2; Heap.lt_size e
  have lc : c < s1.heap.objs.size := let ⟨_, e, _⟩ := id m3; Heap.lt_size e
  refine zip_begins3 (begins_tuple a is.toArray) (begins_tuple b js.toArray) (begins_tuple c ks.toArray) (show s1.heap.IsTuple a is.toArray from m1) (show s1.heap.IsTuple b js.toArray from m2) (show s1.heap.IsTuple c ks.toArray from m3) fun g z0 S0 T0 f1 f2 f3 _ k => wpAny_pyIter_zip z0 ?_
  refine ⟨s1.heap.objs.size + 5, _, _, _, H1, rfl, I1.kept (t' := s1.toks) k, turn_3 (ap3 la lb lc), ⟨z0, S0, ⟨_, _, _, T0⟩, ⟨_, f1, rfl, rfl⟩, ⟨_, f2, rfl, rfl⟩, ⟨_, f3, rfl, rfl⟩⟩, fun c hm => ?_, q⟩
  have le : s1.heap.objs.size ≤ c := six hm (fun e => by rw [e]; exact Nat.le_add_right _ 5) (fun e => by rw [e]; exact Nat.le_add_right _ 3) (fun e => by rw [e]; exact Nat.le_add_right _ 4) (fun e => by rw [e]; exact Nat.le_refl _) (fun e => by rw [e]; exact Nat.le_add_right _ 1) (fun e => by rw [e]; exact Nat.le_add_right _ 2)
  exact I1.fpOk le (I1.hok.fresh le)
end Zq
namespace Dv
open PySem PySem.Spec PyProof.Rows L2 Xg
open Classical
section
variable {K : PySem.W.Frag} {md : Bool} {ta tb tc : TE} {ca cb cc : Nat} {fa fb fc : FE}
/-! zip(x, y, z), three tuples -/
def zipD3 : List PyData → List PyData → List PyData → List PyData
  | x :: xs, y :: ys, z :: zs => .tuple [x, y, z] :: zipD3 xs ys zs
  | _, _, _ => []
theorem zipD3_len : ∀ {xs ys zs : List PyData}, (zipD3 xs ys zs).length = min (min xs.length ys.length) zs.length
  | [], _, _ => by simp [zipD3]
  | _ :: _, [], _ => by simp [zipD3]
  | _ :: _, _ :: _, [] => by simp [zipD3]
  | _ :: xs, _ :: ys, _ :: zs => by
    show (zipD3 xs ys zs).length + 1 = _
    rw [zipD3_len]
    simp only [List.length_cons]
    omega
theorem zipD3_at : ∀ {xs ys zs : List PyData} {i : Nat} {x y z : PyData}, xs[i]? = some x → ys[i]? = some y → zs[i]? = some z → (zipD3 xs ys zs)[i]? = some (.tuple [x, y, z])
  | [], _, _, _, _, _, _, h, _, _ => by simp at h
  | _ :: _, [], _, _, _, _, _, _, h, _ => by simp at h
  | _ :: _, _ :: _, [], _, _, _, _, _, _, h => by simp at h
  | _ :: xs, _ :: ys, _ :: zs, 0, x, y, z, h1, h2, h3 => by
    simp at h1 h2 h3
    subst h1 h2 h3
    rfl
  | _ :: xs, _ :: ys, _ :: zs, i + 1, x, y, z, h1, h2, h3 => by
    show (zipD3 xs ys zs)[i]? = _
    exact zipD3_at (by simpa using h1) (by simpa using h2) (by simpa using h3)
abbrev zip3Q (Q : List PyData → Prop) : PyData → PyData → PyData → Prop
  | .tuple a, .tuple b, .tuple c => Q (zipD3 a b c)
  | _, _, _ => False
theorem zip3Q_mono {P P' : List PyData → Prop} (h : ∀ k, P k → P' k) : ∀ x y z, zip3Q P x y z → zip3Q P' x y z := fun x y z g => by
  cases x <;> cases y <;> cases z <;> first | exact h _ g | exact g.elim
abbrev fZip3 (f g k : FE) : FD := fun ρ Q => f ρ fun x => g ρ fun y => k ρ fun z => zip3Q Q x y z
theorem sndi_zip3 (a : Snd md K ta ca fa) (a2 : Snd md K tb cb fb) (a3 : Snd md K tc cc fc) : SndI md K (Zq.iZip3 K (tCons ta (tCons tb (tCons tc tNil)))) (ca + (cb + cc)) (fZip3 fa fb fc) := ⟨fun ρ P P' h g => a.mono _ _ _ (fun x => a2.mono _ _ _ fun y => a3.mono _ _ _ fun z => zip3Q_mono h x y z) g,
  fun {b S m σ H ρ R P} E hm hf k => a.go E (by omega) hf fun dx v H1 p st bx vd => a2.go (E.step st bx) (by omega) p fun dy v2 H2 p2 st2 bx2 vd2 => a3.go ((E.step st bx).step st2 bx2) (by omega) p2 fun dz v3 H3 p3 st3 bx3 vd3 => by
    have vd := (vd.step st2 E.bs).step st3 E.bs
    have vd2 := vd2.step st3 E.bs
    have sx : sq (fun _ => True) dx := by
      cases dx <;> cases dy <;> cases dz <;> first | trivial | exact p3.elim
    have sy : sq (fun _ => True) dy := by
      cases dx <;> cases dy <;> cases dz <;> first | trivial | exact p3.elim
    have sz : sq (fun _ => True) dz := by
      cases dx <;> cases dy <;> cases dz <;> first | trivial | exact p3.elim
    obtain ⟨p1, xs, ds, rfl, _, g, hh⟩ := vd.seq sx E.bs
    obtain ⟨q1, ys, es, rfl, _, g2, hh2⟩ := vd2.seq sy E.bs
    obtain ⟨r1, zs, us, rfl, _, g3, hh3⟩ := vd3.seq sz E.bs
    have turn : ∀ (i : Nat) (H : Hp) (x : V) (H' : Hp), Zq.YTri (fun i => xs[i]?) (fun i => ys[i]?) (fun i => zs[i]?) i H x H' → ∀ T, Evl.Ex (rm H3 S) (rm H T) → Al T H → Evl.Ex H H' ∧ ∃ d, (zipD3 ds es us)[i]? = some d ∧ Da K (rm H' T) x d := fun i H x H' y T hT al => by
      obtain ⟨T, u, w, t, rfl, nT, rfl, eu, ew, et⟩ := y
      obtain ⟨d, e1, e2⟩ := at_of g hT eu
      obtain ⟨e, f1, f2⟩ := at_of g2 hT ew
      obtain ⟨f, h1, h2⟩ := at_of g3 hT et
      exact ⟨Evl.Ex.new nT, _, zipD3_at e1 f1 h1, new_tup al nT (.cons e2 (.cons f2 (.cons h2 .nil)))⟩
    have ln : min (min xs.length ys.length) zs.length = (zipD3 ds es us).length := by
      rw [zipD3_len, g.len, g2.len, g3.len]
    have stt := (st.trans st2).trans st3
    have bxx : BxO b H3 (m + (ca + (cb + cc))) := bx3.le (by omega)
    rcases hh with ⟨rfl, hL⟩ | ⟨rfl, hL⟩ <;> rcases hh2 with ⟨rfl, hL2⟩ | ⟨rfl, hL2⟩ <;> rcases hh3 with ⟨rfl, hL3⟩ | ⟨rfl, hL3⟩ <;> first | exact p3.elim | skip
    exact ⟨p1, q1, r1, xs, ys, zs, rfl, hL _ KG.refl, hL2 _ KG.refl, hL3 _ KG.refl, k _ _ H3 p3 stt bxx (wk_of (Zq.walk_zip3 (xs := xs) (ys := ys) (zs := zs) rfl) ln (fun H4 kg => ⟨hL H4 kg, hL2 H4 kg, hL3 H4 kg⟩) fun i H x H' hi => turn i H x H')⟩⟩
/-! range(a, b, -1) -/
def downD (lo : Int) (n : Nat) : List PyData := (List.range n).map fun i => .int (lo - (i : Nat))
abbrev fDown (f g : FE) : FD := fun ρ Q => f ρ (asI fun lo => g ρ (asI fun n => (-(2 ^ 62) ≤ lo ∧ lo < 2 ^ 62 ∧ -(2 ^ 62) ≤ n ∧ n < 2 ^ 62) ∧ Q (downD lo (lo - n).toNat)))
theorem sndi_down (a : Snd md K ta ca fa) (a2 : Snd md K tb cb fb) {md2 : Bool} : SndI md2 K (iRng3 (tCons ta (tCons tb (tCons (tUn (rU fun i => .int (-i)) (tC (.int 1))) tNil)))) (ca + cb) (fDown fa fb) := ⟨fun ρ P P' h g => a.mono _ _ _ (asI_mono fun lo => a2.mono _ _ _ (asI_mono fun n z => ⟨z.1, h _ z.2⟩)) g,
  fun {b S m σ H ρ R P} E hm hf k => a.go E (by omega) hf fun d v H1 p st bx vd => by
    obtain ⟨lo, rfl, h1⟩ := asI_of p vd
    refine a2.go (E.step st bx) (by omega) h1 fun d v H2 p st2 bx2 vd2 => ?_
    obtain ⟨n, rfl, h1, h2⟩ := asI_of p vd2
    refine ⟨1, rfl, lo, n, -1, (lo - n).toNat, rfl, RgC.neg h1.1 h1.2.1 h1.2.2.1 h1.2.2.2, k _ _ _ h2 (st.trans st2) (bx2.le (by omega)) (wk_of (walk_rangeC (lo := lo) (c := -1) (n := (lo - n).toNat)) (by unfold downD; rw [List.length_map, List.length_range]) (fun _ _ => trivial) fun i H x H' hi y T hT al => ?_)⟩
    obtain ⟨rfl, rfl⟩ := y
    refine ⟨Evl.Ex.refl _, .int (lo - (i : Nat)), ?_, ?_⟩
    · unfold downD
      rw [List.getElem?_map, List.getElem?_range hi]
      rfl
    · show Da K (rm H' T) (.int (lo + (i : Nat) * (-1))) _
      rw [show lo + (i : Nat) * (-1) = lo - (i : Nat) by omega]
      exact .int _⟩
end
end Dv
/-! zip(*rows), rows of lists, the tuple told held by a name -/
namespace Zn
open PySem PySem.Spec PyProof.Rows L2
structure Cell where
  p : Addr
  l : Addr
  xs : Array Value
  x : Value
def IsZ (g : Heap) (z S T : Addr) (f0 : Value) (f1 : Bool) : Prop := g.get? z = some { cls := .type "zip", data := .fields #[f0, .bool f1, .bool false, .ref S, .ref T] }
def IsT (g : Heap) (a : Addr) (vs : Array Value) : Prop := g.get? a = some { cls := .type "tuple", data := .seq vs }
structure Ap (z S T : Addr) (L : List Cell) : Prop where
  Sz : S ≠ z
  Tz : T ≠ z
  ST : S ≠ T
  pz : ∀ c ∈ L, c.p ≠ z
  pT : ∀ c ∈ L, c.p ≠ T
  pS : ∀ c ∈ L, c.p ≠ S
  lz : ∀ c ∈ L, c.l ≠ z
  lT : ∀ c ∈ L, c.l ≠ T
  lp : ∀ c ∈ L, ∀ d ∈ L, c.l ≠ d.p
  nd : (L.map Cell.p).Nodup
/-- all but these stay -/
def Stay (g g' : Heap) (z T : Addr) (ps : List Addr) : Prop := ∀ c o, c ≠ z → c ≠ T → c ∉ ps → g.get? c = some o → g'.get? c = some o
section
variable {prog : Program} {w : World} {A : Around} {E : Value → Shared → Prop} {s : Shared} {z S T : Addr} {f0 : Value} {f1 : Bool} {L : List Cell} {i : Nat} {kept : Array Value}
theorem alive {a : Addr} {Q : Option Obj → Shared → Prop} (h : Q (s.heap.get? a) s) : wpAny (model prog w) A (loadIfAlive a) Q E s := fun Γ p hΓ => by
  unfold loadIfAlive
  rw [Sem.wp_loadIfAlive]
  exact h
/-- k of them have been drawn -/
structure Mid (g0 g : Heap) (z S T : Addr) (L : List Cell) (i : Nat) (D R : List Cell) : Prop where
  split : L = D ++ R
  sz : g.objs.size = g0.objs.size
  don : ∀ c ∈ D, g.IsListIter c.p c.l (i + 1)
  todo : ∀ c ∈ R, g.IsListIter c.p c.l i
  stay : Stay g0 g z T (L.map Cell.p)
theorem iter_ext {g g' : Heap} {p l b : Addr} {i : Nat} (x : g.IsListIter p l i) (k : Heap.SameBut b g g') (n : p ≠ b) : g'.IsListIter p l i := x.extBut k.extBut n
theorem Mid.step {g0 g g' : Heap} {c : Cell} {D R : List Cell} (M : Mid g0 g z S T L i D (c :: R)) (Ap : Ap z S T L) (k : Heap.SameBut c.p g g') (hc : g'.IsListIter c.p c.l (i + 1)) : Mid g0 g' z S T L i (D ++ [c]) R := by
  have mc : c ∈ L := by rw [M.split]; simp
  have nd := Ap.nd
  rw [M.split, List.map_append, List.map_cons] at nd
  have n2 := List.nodup_append.mp nd
  have n3 := List.nodup_cons.mp n2.2.1
  refine ⟨by rw [M.split]; simp, by rw [k.1, M.sz], fun d hd => ?_, fun d hd => ?_, fun b o h1 h2 h3 e => ?_⟩
  · rcases List.mem_append.mp hd with hd | hd
    · exact iter_ext (M.don d hd) k fun e => n2.2.2 d.p (List.mem_map_of_mem hd) c.p (List.mem_cons_self ..) e
    · rw [List.mem_singleton.mp hd]
      exact hc
  · exact iter_ext (M.todo d (List.mem_cons_of_mem _ hd)) k fun e => n3.1 (by rw [← e]; exact List.mem_map_of_mem hd)
  · exact k.extBut _ _ (fun e => h3 (by rw [e]; exact List.mem_map_of_mem mc)) (M.stay b o h1 h2 h3 e)
theorem Mid.touch {g0 g g' : Heap} {a : Addr} {D R : List Cell} (M : Mid g0 g z S T L i D R) (Ap : Ap z S T L) (k : Heap.SameBut a g g') (ha : a = z ∨ a = T) : Mid g0 g' z S T L i D R := by
  have pa : ∀ c ∈ L, c.p ≠ a := fun c hc e => by
    rcases ha with h | h
    · exact Ap.pz c hc (e.trans h)
    · exact Ap.pT c hc (e.trans h)
  refine ⟨M.split, by rw [k.1, M.sz], fun d hd => iter_ext (M.don d hd) k (pa d (by rw [M.split]; exact List.mem_append_left _ hd)), fun d hd => iter_ext (M.todo d hd) k (pa d (by rw [M.split]; exact List.mem_append_right _ hd)), fun b o h1 h2 h3 e => k.extBut _ _ (fun x => ?_) (M.stay b o h1 h2 h3 e)⟩
  rcases ha with h | h
  · exact h1 (x.trans h)
  · exact h2 (x.trans h)
theorem Mid.list {g0 g : Heap} {D R : List Cell} (M : Mid g0 g z S T L i D R) (Ap : Ap z S T L) {c : Cell} (hc : c ∈ L) (hm : g0.IsList c.l c.xs) : g.IsList c.l c.xs := by
  refine hm.at fun o e => M.stay c.l o (Ap.lz c hc) (Ap.lT c hc) (fun h => ?_) e
  obtain ⟨d, hd, e2⟩ := List.mem_map.mp h
  exact Ap.lp c hc d hd e2.symm
theorem free_or {K : Bool → Shared → Prop} (z0 : IsZ s.heap z S T f0 f1) (hf : f0 = .none ∨ ∃ a : Addr, f0 = rawInt (a : Nat)) (h1 : K true s) (h2 : ∀ g f1', IsZ g z S T f0 f1' → Heap.SameBut z s.heap g → (∃ a : Addr, f0 = rawInt (a : Nat)) → K false { s with heap := g }) :
    wpAny (model prog w) A (Builtin.SmallTypes.ownedTupleIsFree (.ref z)) K E s := by
  unfold Builtin.SmallTypes.ownedTupleIsFree
  refine wpAny_bind (wpAny_field z0 rfl (x := f0) rfl ?_)
  rcases hf with rfl | ⟨a, rfl⟩
  · exact wpAny_pure h1
  · dsimp only [rawInt]
    refine wpAny_bind (alive ?_)
    cases e : s.heap.get? (Int.toNat (a : Nat)) with
    | none =>
      simp only [Option.isNone_none, if_true]
      exact wpAny_pure h1
    | some o =>
      simp only [Option.isNone_some, Bool.false_eq_true, if_false]
      refine wpAny_bind (wpAny_field z0 rfl (x := .bool f1) rfl ?_)
      cases f1 with
      | true =>
        simp only [bne_self_eq_false, Bool.false_eq_true, if_false]
        exact wpAny_pure (h2 s.heap true z0 (Heap.SameBut.refl ..) ⟨a, rfl⟩)
      | false =>
        have hb : (Value.bool false != Value.bool true) = true := by decide
        rw [hb]
        simp only [if_true]
        refine wpAny_bind (wpAny_setField_rec z0 (by simp) fun g z1 k1 => ?_)
        exact wpAny_pure (h2 g true z1 k1 ⟨a, rfl⟩)
theorem upT {a : Addr} {vs : Array Value} {x : Value} {k : Nat} {Q : Unit → Shared → Prop} (hT : IsT s.heap a vs) (hz : vs.size ≤ 1000) (h : ∀ g, IsT g a (vs.setIfInBounds k x) → Heap.SameBut a s.heap g → Q () { s with heap := g }) :
    wpAny (model prog w) A (updateSeq a fun ys => ys.setIfInBounds k x) Q E s := by
  refine wpAny_updateSeq hT rfl (h _ ?_ (Heap.SameBut.update ..)) ?_ ?_
  · show (s.heap.update a _).get? a = _
    rw [Heap.get?_update_self _ hT rfl]
    simp [Obj.mapSeq]
  · exact Nat.le_trans hz (by decide)
  · rw [Array.size_setIfInBounds]
    exact Nat.le_trans hz (by decide)
theorem next_item {Q : Value → Shared → Prop} (D : Ap z S T L) (ne : L ≠ []) (z0 : IsZ s.heap z S T f0 f1) (hf : f0 = .none ∨ ∃ a : Addr, f0 = rawInt (a : Nat)) (S0 : IsT s.heap S (L.map fun c => Value.ref c.p).toArray) (T0 : IsT s.heap T kept) (hk : kept.size = L.length) (hl : L.length ≤ 1000)
    (hi : ∀ c ∈ L, s.heap.IsListIter c.p c.l i) (hm : ∀ c ∈ L, s.heap.IsList c.l c.xs) (hx : ∀ c ∈ L, c.xs[i]? = some c.x)
    (q : ∀ g (a : Addr) f1', IsZ g z S T (rawInt (a : Nat)) f1' → (∃ k : Array Value, IsT g T k ∧ k.size = L.length) → (∀ c ∈ L, g.IsListIter c.p c.l (i + 1)) → IsT g s.heap.objs.size (L.map Cell.x).toArray → g.objs.size = s.heap.objs.size + 1 → Stay s.heap g z T (L.map Cell.p) →
      Q (.ref s.heap.objs.size) { s with heap := g }) : wpAny (model prog w) A (Builtin.«zip.__next__» ⟨[.ref z], []⟩) (fun r s' => ∃ v, r = .done (.ret v) ∧ Q v s') E s := by
  have emp : ((L.map fun c => Value.ref c.p).toArray.isEmpty) = false := by
    cases L with
    | nil => exact absurd rfl ne
    | cons a r => rfl
  have M0 : Mid s.heap s.heap z S T L i [] L := ⟨rfl, rfl, fun _ h => (nomatch h), hi, fun _ _ _ _ _ e => e⟩
  have ltz : z < s.heap.objs.size := Heap.lt_size z0
  have ltT : T < s.heap.objs.size := Heap.lt_size T0
  show wpAny _ _ (field (.ref z) 2 >>= fun _ => _) _ _ _
  refine wpAny_bind (wpAny_field z0 rfl (x := .bool false) rfl ?_)
  show wpAny _ _ (field (.ref z) 3 >>= fun _ => _) _ _ _
  refine wpAny_bind (wpAny_field z0 rfl (x := .ref S) rfl (wpAny_bind (wpAny_seqItems S0 rfl ?_)))
  dsimp only
  rw [emp]
  simp only [Bool.false_eq_true, if_false]
  refine wpAny_bind (free_or z0 hf ?_ fun g1 f1' z1 k1 ha => ?_)
  · simp only [if_true]
    refine wpAny_bind (wpAny_rule (wpAny_bind (wpAny_field z0 rfl (x := .ref T) rfl ?_)))
    dsimp only
    refine wpAny_bind (wpAny_setField_rec z0 (by simp) fun g1 z1 k1 => ?_)
    replace z1 : IsZ g1 z S T .ellipsis f1 := z1
    refine wpAny_bind (wpAny_forIn_list _ (fun rest b s' => b = (none, ()) ∧ ∃ (D' R : List Cell) (g : Heap) (kp : Array Value), rest = (R.map fun c => Value.ref c.p).zipIdx D'.length ∧ s' = { s with heap := g } ∧ Mid s.heap g z S T L i D' R ∧ IsZ g z S T .ellipsis f1 ∧ IsT g T kp ∧ kp.size = L.length ∧ ∀ k, k < D'.length → kp[k]? = (D'.map Cell.x)[k]?) _ ?_ ?_ _ _ ⟨rfl, [], L, g1, kept, rfl, rfl, M0.touch D k1 (.inl rfl), z1, k1.extBut _ _ D.Tz T0, hk, fun k h => absurd h (Nat.not_lt_zero _)⟩)
    · rintro ⟨it, k⟩ rest b s' ⟨rfl, D', R', g, kp, er, rfl, M, zg, Tg, hk', hkp⟩
      cases R' with
      | nil => cases er
      | cons c R =>
        rw [List.map_cons, List.zipIdx_cons] at er
        obtain ⟨e1, rfl⟩ := List.cons.inj er
        obtain ⟨rfl, rfl⟩ := Prod.mk.inj e1
        have mc : c ∈ L := by rw [M.split]; simp
        have hlt : D'.length < L.length := by rw [M.split]; simp
        dsimp only
        refine wpAny_bind (wpAny_onRaise ?_)
        show wpAny _ _ (Builtin.SmallTypes.nextOf (.ref c.p) >>= fun _ => _) _ _ _
        refine wpAny_bind (wpAny_nextOf_list_item (s := { s with heap := g }) (M.todo c (by simp)) (M.list D mc (hm c mc)) (hx c mc) fun g2 ci k2 => wpAny_pure ?_)
        replace k2 : Heap.SameBut c.p g g2 := k2
        have M2 := M.step D k2 ci
        have zg2 : IsZ g2 z S T .ellipsis f1 := k2.extBut _ _ (D.pz c mc).symm zg
        have Tg2 : IsT g2 T kp := k2.extBut _ _ (D.pT c mc).symm Tg
        dsimp only
        refine wpAny_bind (wpAny_seqItems (s := { s with heap := g2 }) Tg2 rfl ?_)
        dsimp only
        refine wpAny_bind (upT (s := { s with heap := g2 }) Tg2 (by omega) fun g3 Tg3 k3 => ?_)
        replace k3 : Heap.SameBut T g2 g3 := k3
        refine wpAny_bind (wpAny_letGo (wpAny_pure ?_))
        refine ⟨rfl, D' ++ [c], R, g3, _, by rw [List.length_append]; rfl, rfl, M2.touch D k3 (.inr rfl), k3.extBut _ _ D.Tz.symm zg2, Tg3, by rw [Array.size_setIfInBounds]; exact hk', fun k h => ?_⟩
        rw [List.length_append, List.length_singleton] at h
        rw [Array.getElem?_setIfInBounds, List.map_append]
        by_cases ek : D'.length = k
        · subst ek
          rw [if_pos rfl, if_pos (by omega), List.getElem?_append_right (by rw [List.length_map]; exact Nat.le_refl _), List.length_map, Nat.sub_self]
          rfl
        · rw [if_neg ek, List.getElem?_append_left (by rw [List.length_map]; omega)]
          exact hkp k (by omega)
    · rintro b s' ⟨rfl, D', R', g, kp, er, rfl, M, zg, Tg, hk', hkp⟩
      cases R' with
      | cons c R => cases er
      | nil =>
        have eD : D' = L := by rw [M.split, List.append_nil]
        subst eD
        have ekp : kp = (D'.map Cell.x).toArray := by
          apply Array.toList_inj.mp
          apply List.ext_getElem?
          intro k
          have e : kp.toList[k]? = kp[k]? := by simp
          rw [e]
          show kp[k]? = (D'.map Cell.x)[k]?
          by_cases h : k < D'.length
          · exact hkp k h
          · rw [Array.getElem?_eq_none (by omega), List.getElem?_eq_none (by rw [List.length_map]; omega)]
        subst ekp
        dsimp only
        refine wpAny_bind (wpAny_seqItems (s := { s with heap := g }) Tg rfl ?_)
        dsimp only
        refine wpAny_bind (wpAny_newTuple ?_ (by rw [List.length_map]; exact Nat.le_trans hl (by decide)))
        refine wpAny_bind ?_
        unfold Builtin.SmallTypes.ownedTupleHandOut
        dsimp only
        have z6 : IsZ (g.push { cls := .type "tuple", data := .seq (D'.map Cell.x).toArray }) z S T .ellipsis f1 := Heap.get?_push_of_some _ zg
        refine wpAny_bind (wpAny_setField_rec (s := { s with heap := _ }) z6 (by simp) fun g7 z7 k7 => ?_)
        replace z7 : IsZ g7 z S T (rawInt g.objs.size) f1 := z7
        refine wpAny_setField_rec (s := { s with heap := g7 }) z7 (by simp) fun g8 z8 k8 => ?_
        replace z8 : IsZ g8 z S T (rawInt g.objs.size) false := z8
        replace k7 : Heap.SameBut z (g.push { cls := .type "tuple", data := .seq (D'.map Cell.x).toArray }) g7 := k7
        replace k8 : Heap.SameBut z g7 g8 := k8
        have on : ∀ c o, c ≠ z → g.get? c = some o → g8.get? c = some o := fun c o c1 e => k8.extBut _ _ c1 (k7.extBut _ _ c1 (Heap.get?_push_of_some _ e))
        have nz' : g.objs.size ≠ z := by rw [M.sz]; exact Nat.ne_of_gt ltz
        have W8 : IsT g8 g.objs.size (D'.map Cell.x).toArray := k8.extBut _ _ nz' (k7.extBut _ _ nz' (Heap.get?_push_size _ rfl))
        have n8 : g8.objs.size = g.objs.size + 1 := by rw [k8.1, k7.1, Heap.size_push]
        refine wpAny_pure ⟨.ref g.objs.size, rfl, ?_⟩
        rw [M.sz] at z8 W8 n8
        rw [M.sz]
        exact q g8 _ false z8 ⟨_, on _ _ D.Tz Tg, by rw [List.size_toArray, List.length_map]⟩ (fun c hc => (M.don c hc).at fun o e => on _ o (D.pz c hc) e) W8 n8 fun c o c1 c2 c3 e => on c o c1 (M.stay c o c1 c2 c3 e)
  · obtain ⟨a, rfl⟩ := ha
    simp only [Bool.false_eq_true, if_false]
    replace k1 : Heap.SameBut z s.heap g1 := k1
    refine wpAny_bind (wpAny_forIn_array' _ (fun rest b s' => ∃ (D' R : List Cell) (g : Heap), b = (none, (D'.map Cell.x).toArray) ∧ rest = (R.map fun c => Value.ref c.p) ∧ s' = { s with heap := g } ∧ Mid s.heap g z S T L i D' R ∧ IsZ g z S T (rawInt (a : Nat)) f1' ∧ IsT g T kept) _ ?_ ?_ _ _ ⟨[], L, g1, rfl, by simp, rfl, M0.touch D k1 (.inl rfl), z1, k1.extBut _ _ D.Tz T0⟩)
    · rintro it rest b s' ⟨D', R', g, rfl, er, rfl, M, zg, Tg⟩
      cases R' with
      | nil => cases er
      | cons c R =>
        rw [List.map_cons] at er
        obtain ⟨rfl, rfl⟩ := List.cons.inj er
        have mc : c ∈ L := by rw [M.split]; simp
        dsimp only
        refine wpAny_bind (wpAny_holding ?_)
        show wpAny _ _ (Builtin.SmallTypes.nextOf (.ref c.p) >>= fun _ => _) _ _ _
        refine wpAny_bind (wpAny_nextOf_list_item (s := { s with heap := g }) (M.todo c (by simp)) (M.list D mc (hm c mc)) (hx c mc) fun g2 ci k2 => wpAny_pure ?_)
        replace k2 : Heap.SameBut c.p g g2 := k2
        dsimp only
        refine wpAny_pure ⟨D' ++ [c], R, g2, by simp, rfl, rfl, M.step D k2 ci, k2.extBut _ _ (D.pz c mc).symm zg, k2.extBut _ _ (D.pT c mc).symm Tg⟩
    · rintro b s' ⟨D', R', g, rfl, er, rfl, M, zg, Tg⟩
      cases R' with
      | cons c R => cases er
      | nil =>
        have eD : D' = L := by rw [M.split, List.append_nil]
        subst eD
        dsimp only
        refine wpAny_bind (wpAny_newTuple ?_ (by rw [List.length_map]; exact Nat.le_trans hl (by decide)))
        have on : ∀ c o, g.get? c = some o → (g.push { cls := .type "tuple", data := .seq (D'.map Cell.x).toArray }).get? c = some o := fun c o e => Heap.get?_push_of_some _ e
        have W8 : IsT (g.push { cls := .type "tuple", data := .seq (D'.map Cell.x).toArray }) g.objs.size (D'.map Cell.x).toArray := Heap.get?_push_size _ rfl
        have n8 : (g.push { cls := .type "tuple", data := .seq (D'.map Cell.x).toArray }).objs.size = g.objs.size + 1 := Heap.size_push ..
        refine wpAny_pure ⟨.ref g.objs.size, rfl, ?_⟩
        rw [M.sz] at W8 n8
        show Q (.ref g.objs.size) _
        rw [M.sz]
        exact q _ a f1' (on _ _ zg) ⟨_, on _ _ Tg, hk⟩ (fun c hc => (M.don c hc).at fun o e => on _ o e) W8 n8 fun c o c1 c2 c3 e => on c o (M.stay c o c1 c2 c3 e)
theorem next_end {Q : Fin → Shared → Prop} {c : Cell} {R : List Cell} (hh : A.handled = none) (D : Ap z S T (c :: R)) (z0 : IsZ s.heap z S T f0 f1) (hf : f0 = .none ∨ ∃ a : Addr, f0 = rawInt (a : Nat)) (S0 : IsT s.heap S ((c :: R).map fun c => Value.ref c.p).toArray) (T0 : IsT s.heap T kept)
    (hi : s.heap.IsListIter c.p c.l i) (hm : s.heap.IsList c.l c.xs) (hx : c.xs[i]? = none)
    (q : ∀ g e, Stay s.heap g z T ((c :: R).map Cell.p) → (∃ o, g.get? e = some o ∧ o.cls = .type "StopIteration") → E (.ref e) { s with heap := g }) : wpAny (model prog w) A (Builtin.«zip.__next__» ⟨[.ref z], []⟩) Q E s := by
  have mc : c ∈ c :: R := by simp
  have mp : c.p ∈ (c :: R).map Cell.p := by simp
  show wpAny _ _ (field (.ref z) 2 >>= fun _ => _) _ _ _
  refine wpAny_bind (wpAny_field z0 rfl (x := .bool false) rfl ?_)
  show wpAny _ _ (field (.ref z) 3 >>= fun _ => _) _ _ _
  refine wpAny_bind (wpAny_field z0 rfl (x := .ref S) rfl (wpAny_bind (wpAny_seqItems S0 rfl ?_)))
  dsimp only
  rw [show (((c :: R).map fun c => Value.ref c.p).toArray.isEmpty) = false from rfl]
  simp only [Bool.false_eq_true, if_false]
  refine wpAny_bind (free_or z0 hf ?_ fun g1 f1' z1 k1 ha => ?_)
  · simp only [if_true]
    refine wpAny_bind (wpAny_rule (wpAny_bind (wpAny_field z0 rfl (x := .ref T) rfl ?_)))
    dsimp only
    refine wpAny_bind (wpAny_setField_rec z0 (by simp) fun g1 z1 k1 => ?_)
    replace z1 : IsZ g1 z S T .ellipsis f1 := z1
    replace k1 : Heap.SameBut z s.heap g1 := k1
    simp only [List.map_cons, List.zipIdx_cons, List.forIn_cons]
    refine wpAny_bind (wpAny_bind (wpAny_bind (wpAny_onRaise ?_)))
    show wpAny _ _ (Builtin.SmallTypes.nextOf (.ref c.p) >>= fun _ => _) _ _ _
    refine wpAny_bind (wpAny_nextOf_list_end (s := { s with heap := g1 }) hh (iter_ext hi k1 (D.pz c mc)) (hm.extBut k1.extBut (D.lz c mc)) hx fun g2 e k2 ⟨o, eo, ec⟩ => ?_)
    replace k2 : Heap.ExtBut c.p g1 g2 := k2
    have z2 : IsZ g2 z S T .ellipsis f1 := k2 _ _ (D.pz c mc).symm z1
    have nez : e ≠ z := fun x => by
      have eo : g2.get? e = some o := eo
      rw [x, z2] at eo
      cases eo
      simp at ec
    exact wpAny_setField_rec (s := { s with heap := g2 }) z2 (by simp) fun g3 _ k3 => q g3 e (fun b o h1 h2 h3 v => k3.extBut _ _ h1 (k2 _ _ (fun x => h3 (by rw [x]; exact mp)) (k1.extBut _ _ h1 v))) ⟨o, k3.extBut _ _ nez eo, ec⟩
  · simp only [Bool.false_eq_true, if_false]
    replace k1 : Heap.SameBut z s.heap g1 := k1
    rw [← Array.forIn_toList]
    simp only [List.map_cons, List.forIn_cons]
    refine wpAny_bind (wpAny_bind (wpAny_bind (wpAny_holding ?_)))
    show wpAny _ _ (Builtin.SmallTypes.nextOf (.ref c.p) >>= fun _ => _) _ _ _
    refine wpAny_bind (wpAny_nextOf_list_end (s := { s with heap := g1 }) hh (iter_ext hi k1 (D.pz c mc)) (hm.extBut k1.extBut (D.lz c mc)) hx fun g2 e k2 ⟨o, eo, ec⟩ => ?_)
    replace k2 : Heap.ExtBut c.p g1 g2 := k2
    exact q g2 e (fun b o h1 h2 h3 v => k2 _ _ (fun x => h3 (by rw [x]; exact mp)) (k1.extBut _ _ h1 v)) ⟨o, eo, ec⟩
/-- iterators of all of them -/
theorem iter_all {ls : List Addr} {Q : List Value → Shared → Prop} (hm : ∀ l ∈ ls, ∃ xs, s.heap.IsList l xs)
    (q : ∀ g, g.objs.size = s.heap.objs.size + ls.length → (∀ k l, ls[k]? = some l → g.IsListIter (s.heap.objs.size + k) l 0) → (∀ b o, s.heap.get? b = some o → g.get? b = some o) → Q ((List.range ls.length).map fun k => Value.ref (s.heap.objs.size + k)) { s with heap := g }) :
    wpAny (model prog w) A (Builtin.SmallTypes.iterAll (ls.map Value.ref)) Q E s := by
  unfold Builtin.SmallTypes.iterAll
  refine wpAny_bind (wpAny_forIn_list _ (fun rest b s' => ∃ (D R : List Addr) (g : Heap), ls = D ++ R ∧ rest = R.map Value.ref ∧ b = ((List.range D.length).map fun k => Value.ref (s.heap.objs.size + k)).toArray ∧ s' = { s with heap := g } ∧ g.objs.size = s.heap.objs.size + D.length ∧ (∀ k l, D[k]? = some l → g.IsListIter (s.heap.objs.size + k) l 0) ∧ (∀ b o, s.heap.get? b = some o → g.get? b = some o)) _ ?_ ?_ _ _ ⟨[], ls, s.heap, rfl, rfl, rfl, rfl, rfl, fun k l h => (by simp at h), fun _ _ e => e⟩)
  · rintro it rest b s' ⟨D, R', g, el, er, rfl, rfl, sz, hi, st⟩
    cases R' with
    | nil => cases er
    | cons l R =>
      rw [List.map_cons] at er
      obtain ⟨rfl, rfl⟩ := List.cons.inj er
      obtain ⟨xs, hx⟩ := hm l (by rw [el]; simp)
      have hx2 : g.IsList l xs := hx.at fun o e => st l o e
      refine wpAny_bind (wpAny_holding (wpAny_pyIter_list (s := { s with heap := g }) hx2 ?_))
      refine wpAny_pure ⟨D ++ [l], R, g.push { cls := .type "list_iterator", data := .fields #[.ref l, .int 0 0] }, by rw [el]; simp, rfl, ?_, rfl, ?_, fun k l' h => ?_, fun b o e => Heap.get?_push_of_some _ (st b o e)⟩
      · show (((List.range D.length).map fun k => Value.ref (s.heap.objs.size + k)).toArray).push (Value.ref g.objs.size) = _
        rw [sz, List.length_append, List.length_singleton, List.range_succ, List.map_append]
        simp
      · rw [Heap.size_push, sz, List.length_append, List.length_singleton]
        rfl
      · by_cases hk : k < D.length
        · rw [List.getElem?_append_left hk] at h
          exact (hi k l' h).at fun o e => Heap.get?_push_of_some _ e
        · have h2 : k = D.length := by
            have := (List.getElem?_eq_some_iff.mp h).1
            rw [List.length_append, List.length_singleton] at this
            exact Nat.le_antisymm (Nat.le_of_lt_succ this) (Nat.le_of_not_lt hk)
          subst h2
          rw [List.getElem?_append_right (Nat.le_refl _), Nat.sub_self] at h
          cases h
          have e := Heap.get?_push_size g (o := { cls := .type "list_iterator", data := .fields #[.ref l, .int 0 0] }) rfl
          rw [sz] at e
          exact ⟨_, e, rfl, rfl⟩
  · rintro b s' ⟨D, R', g, el, er, rfl, rfl, sz, hi, st⟩
    cases R' with
    | cons => cases er
    | nil =>
      rw [List.append_nil] at el
      subst el
      exact wpAny_pure (q g sz hi st)
end
end Zn
namespace Zn
open PySem PySem.Spec PyProof.Rows L2
/-- what zip(*rows) lays -/
structure Laid (g0 g : Heap) (ls : List Addr) : Prop where
  Z : IsZ g (g0.objs.size + ls.length + 2) (g0.objs.size + ls.length) (g0.objs.size + ls.length + 1) .none false
  S : IsT g (g0.objs.size + ls.length) ((List.range ls.length).map fun k => Value.ref (g0.objs.size + k)).toArray
  T : ∃ k : Array Value, IsT g (g0.objs.size + ls.length + 1) k ∧ k.size = ls.length
  I : ∀ k l, ls[k]? = some l → g.IsListIter (g0.objs.size + k) l 0
  st : ∀ b o, g0.get? b = some o → g.get? b = some o
theorem made (ls : List Addr) (hl : ls.length ≤ 1000) : Meets (Builtin.«zip.__new__» ⟨.type "zip" :: ls.map Value.ref, []⟩) (fun _ R s => (∀ l ∈ ls, ∃ xs, s.heap.IsList l xs) ∧ ∀ g, Laid s.heap g ls → R (.ok (.ret (.ref (s.heap.objs.size + ls.length + 2)))) { s with heap := g }) :=
  .of_wp fun prog w A R s h => by
    obtain ⟨hp, gg, d, tk, os⟩ := s
    obtain ⟨hm, h⟩ := h
    have hsub := sub_zip
    have hm : ∀ l ∈ ls, ∃ xs, hp.IsList l xs := hm
    have q : ∀ {E : Value → Shared → Prop} {Q : List Value → Shared → Prop}, (∀ g : Heap, g.objs.size = hp.objs.size + ls.length → (∀ k l, ls[k]? = some l → g.IsListIter (hp.objs.size + k) l 0) → (∀ b o, hp.get? b = some o → g.get? b = some o) → Q ((List.range ls.length).map fun k => Value.ref (hp.objs.size + k)) ⟨g, gg, d, tk, os⟩) → wpAny (model prog w) A.in1 (Builtin.SmallTypes.iterAll (ls.map Value.ref)) Q E ⟨hp, gg, d, tk, os⟩ := fun h => iter_all (s := ⟨hp, gg, d, tk, os⟩) hm h
    wp_walk using q
    intro g sz hi st
    have z1 : (g.push { cls := .type "tuple", data := .seq ((List.range ls.length).map fun k => Value.ref (hp.objs.size + k)).toArray }).objs.size = hp.objs.size + ls.length + 1 := by rw [Heap.size_push, sz]
    have z2 : ((g.push { cls := .type "tuple", data := .seq ((List.range ls.length).map fun k => Value.ref (hp.objs.size + k)).toArray }).push { cls := .type "tuple", data := .seq (((List.range ls.length).map fun k => Value.ref (hp.objs.size + k)).map fun _ => Value.none).toArray }).objs.size = hp.objs.size + ls.length + 2 := by rw [Heap.size_push, z1]
    refine wpAny_bind (wpAny_newTuple ?_ (by rw [List.length_map, List.length_range]; exact Nat.le_trans hl (by decide)))
    refine wpAny_bind (wpAny_newTuple ?_ (by rw [List.length_map, List.length_map, List.length_range]; exact Nat.le_trans hl (by decide)))
    wp_walk
    refine ⟨_, rfl, ?_⟩
    have a1 := Heap.get?_push_size g (o := { cls := .type "tuple", data := .seq ((List.range ls.length).map fun k => Value.ref (hp.objs.size + k)).toArray }) rfl
    have a2 := Heap.get?_push_size (g.push { cls := .type "tuple", data := .seq ((List.range ls.length).map fun k => Value.ref (hp.objs.size + k)).toArray }) (o := { cls := .type "tuple", data := .seq (((List.range ls.length).map fun k => Value.ref (hp.objs.size + k)).map fun _ => Value.none).toArray }) rfl
    have a3 := Heap.get?_push_size ((g.push { cls := .type "tuple", data := .seq ((List.range ls.length).map fun k => Value.ref (hp.objs.size + k)).toArray }).push { cls := .type "tuple", data := .seq (((List.range ls.length).map fun k => Value.ref (hp.objs.size + k)).map fun _ => Value.none).toArray }) (o := { cls := .type "zip", data := .fields #[.none, .bool false, .bool false, .ref g.objs.size, .ref (g.push { cls := .type "tuple", data := .seq ((List.range ls.length).map fun k => Value.ref (hp.objs.size + k)).toArray }).objs.size] }) rfl
    rw [sz] at a1
    rw [z1] at a2
    rw [z2, sz, z1] at a3
    show R (.ok (.ret (.ref ((g.push _).push _).objs.size))) _
    rw [z2]
    refine h _ ⟨?_, Heap.get?_push_of_some _ (Heap.get?_push_of_some _ a1), ⟨_, Heap.get?_push_of_some _ a2, by simp⟩, fun k l e => (hi k l e).at fun o x => Heap.get?_push_of_some _ (Heap.get?_push_of_some _ (Heap.get?_push_of_some _ x)), fun b o e => Heap.get?_push_of_some _ (Heap.get?_push_of_some _ (Heap.get?_push_of_some _ (st b o e)))⟩
    rw [sz, z1]
    exact a3
theorem tz (as : List Value) : checkTypeCall "zip" ⟨as, []⟩ = pure () := by kernel_rfl
theorem ti (obj : Value) (as : List Value) : argsOk "object.__init__" ⟨obj :: as, []⟩ := by unfold argsOk; kernel_rfl
theorem tn : ∀ (as : List Value), as.length ≤ 9 → checkBuiltinCall "zip.__new__" ⟨.type "zip" :: as, []⟩ = pure ()
  | [], _ => by kernel_rfl
  | [_], _ => by kernel_rfl
  | [_, _], _ => by kernel_rfl
  | [_, _, _], _ => by kernel_rfl
  | [_, _, _, _], _ => by kernel_rfl
  | [_, _, _, _, _], _ => by kernel_rfl
  | [_, _, _, _, _, _], _ => by kernel_rfl
  | [_, _, _, _, _, _, _], _ => by kernel_rfl
  | [_, _, _, _, _, _, _, _], _ => by kernel_rfl
  | [_, _, _, _, _, _, _, _, _], _ => by kernel_rfl
  | _ :: _ :: _ :: _ :: _ :: _ :: _ :: _ :: _ :: _ :: _, h => absurd h (by simp)
section
variable {prog : Program} {w : World} {A : Around} {E : Value → Shared → Prop} {s : Shared}
theorem call_zip {ls : List Addr} {Q : Value → Shared → Prop} (hl : ls.length ≤ 9) (hm : ∀ l ∈ ls, ∃ xs, s.heap.IsList l xs) (q : ∀ g, Laid s.heap g ls → Q (.ref (s.heap.objs.size + ls.length + 2)) { s with heap := g }) :
    wpAny (model prog w) A (call (.type "zip") (ls.map Value.ref)) Q E s := by
  refine callType_new F.called_zip (by decide) (tz _) (tn _ (by rw [List.length_map]; exact hl)) (fun obj => ti obj _) F.entry_zip_new (made ls (by omega)) ⟨hm, fun g La => ?_⟩
  exact ⟨⟨_, La.Z, rfl⟩, q g La⟩
end
end Zn
namespace Zn
open PySem PySem.Spec PyProof.Rows L2
section
variable {M : Model} {A : Around} {E : Value → Shared → Prop} {s : Shared}
theorem callWith_typeS {pos : Pos} {T : String} {args : List (Bool × Sem Value)} {Q : Value → Shared → Prop} (hst : args.any (·.1) = true)
    (h : wpAny M A (evalArgs (.type T) true args []) (fun a s₁ => wpAny M A (call (.type T) a.pos a.kw) Q E s₁) E s) :
    wpAny M A (callWith pos (.type T) [] args []) Q E s := by
  unfold callWith
  refine wpAny_bind (wpAny_holding (wpAny_mono h (fun a s₁ h₁ => wpAny_bind (wpAny_standAt ?_)) fun _ _ x => x))
  simp only [hst, Bool.true_or]
  refine wpAny_bind (wpAny_pure ?_)
  exact wpAny_bind (wpAny_mono (wpAny_operating h₁) (fun r s₂ hr => wpAny_bind (wpAny_holding (wpAny_point (wpAny_pure hr)))) fun _ _ x => x)
end
section
variable {prog : Program} {w : World} {A : Around} {E : Value → Shared → Prop} {s : Shared} {z S T : Addr} {f0 : Value} {f1 : Bool} {L : List Cell} {i : Nat} {kept : Array Value}
theorem pyn_item {Q : Option Value → Shared → Prop} (D : Ap z S T L) (ne : L ≠ []) (z0 : IsZ s.heap z S T f0 f1) (hf : f0 = .none ∨ ∃ a : Addr, f0 = rawInt (a : Nat)) (S0 : IsT s.heap S (L.map fun c => Value.ref c.p).toArray) (T0 : IsT s.heap T kept) (hk : kept.size = L.length) (hl : L.length ≤ 1000)
    (hi : ∀ c ∈ L, s.heap.IsListIter c.p c.l i) (hm : ∀ c ∈ L, s.heap.IsList c.l c.xs) (hx : ∀ c ∈ L, c.xs[i]? = some c.x)
    (q : ∀ g (a : Addr) f1', IsZ g z S T (rawInt (a : Nat)) f1' → (∃ k : Array Value, IsT g T k ∧ k.size = L.length) → (∀ c ∈ L, g.IsListIter c.p c.l (i + 1)) → IsT g s.heap.objs.size (L.map Cell.x).toArray → g.objs.size = s.heap.objs.size + 1 → Stay s.heap g z T (L.map Cell.p) →
      Q (some (.ref s.heap.objs.size)) { s with heap := g }) : wpAny (model prog w) A (pyNext (.ref z)) Q E s := by
  have ty : s.TypeIs (.ref z) "zip" := ⟨_, z0, rfl⟩
  unfold pyNext
  exact wpAny_bind (wpAny_attempt (wpAny_callSpecial?_slot (name := Str.ofString "__next__") ty F.slot_zip_next (wpAny_call_entry F.slot_zip_next ty F.entry_zip_next (next_item D ne z0 hf S0 T0 hk hl hi hm hx fun g a f a1 a2 a3 a4 a5 a6 => wpAny_pure (q g a f a1 a2 a3 a4 a5 a6)) (F.args_zip_next_1 _))))
theorem pyn_end {Q : Option Value → Shared → Prop} {c : Cell} {R : List Cell} (hh : A.handled = none) (D : Ap z S T (c :: R)) (z0 : IsZ s.heap z S T f0 f1) (hf : f0 = .none ∨ ∃ a : Addr, f0 = rawInt (a : Nat)) (S0 : IsT s.heap S ((c :: R).map fun c => Value.ref c.p).toArray) (T0 : IsT s.heap T kept)
    (hi : s.heap.IsListIter c.p c.l i) (hm : s.heap.IsList c.l c.xs) (hx : c.xs[i]? = none)
    (q : ∀ g, Stay s.heap g z T ((c :: R).map Cell.p) → Q none { s with heap := g }) : wpAny (model prog w) A (pyNext (.ref z)) Q E s := by
  have ty : s.TypeIs (.ref z) "zip" := ⟨_, z0, rfl⟩
  unfold pyNext
  refine wpAny_bind (wpAny_attempt (wpAny_callSpecial?_slot (name := Str.ofString "__next__") ty F.slot_zip_next (wpAny_call_entry F.slot_zip_next ty F.entry_zip_next (next_end hh D z0 hf S0 T0 hi hm hx fun g e st ⟨o, eo, ec⟩ => ?_) (F.args_zip_next_1 _))))
  exact wpAny_bind (wpAny_isInstance (T := "StopIteration") (b := true) ⟨o, eo, ec⟩ isSubtype_stop (wpAny_pure (q _ st)))
theorem iter_self {Q : Value → Shared → Prop} (z0 : IsZ s.heap z S T f0 f1) (q : Q (.ref z) s) : wpAny (model prog w) A (pyIter (.ref z)) Q E s := by
  have hT : s.TypeIs (.ref z) "zip" := ⟨_, z0, rfl⟩
  refine wpAny_pyIter_slot hT F.slot_zip_iter (wpAny_call_entry F.slot_zip_iter hT F.entry_zip_iter ?_ (F.args_zip_iter_1 _))
  show wpAny _ _ (ret (.ref z)) _ _ s
  exact wpAny_pure ⟨_, rfl, "zip", _, hT, F.slot_zip_next.lookup, q⟩
end
/-- rows of lists, column by column -/
def ItN (K : PySem.W.Frag) (as : List Addr) : It where
  go i H := ∀ a ∈ as, ∃ (r : List V) (x : V), SqL K H a r ∧ r[i]? = some x
  yld i H v H' := ∃ W xs, v = .ref W ∧ H W = none ∧ H' = upd H W (.tup xs) ∧ xs.length = as.length ∧ ∀ (k : Nat) a l, as[k]? = some a → SqL K H a l → l[i]? = xs[k]?
  stop i H := ∃ a r, as.head? = some a ∧ SqL K H a r ∧ r.length ≤ i
def tnN (z S T : Addr) (ps as : List Addr) (i : Nat) (g : Heap) : Prop := (∃ f0 f1, IsZ g z S T f0 f1 ∧ (f0 = .none ∨ ∃ a : Addr, f0 = rawInt (a : Nat))) ∧ IsT g S (ps.map Value.ref).toArray ∧ (∃ k : Array Value, IsT g T k ∧ k.size = as.length) ∧ ∀ (k : Nat) p a, ps[k]? = some p → as[k]? = some a → g.IsListIter p a i
/-- the cells lie apart, and the lists apart from them -/
structure ApA (z S T : Addr) (ps as : List Addr) : Prop where
  Sz : S ≠ z
  Tz : T ≠ z
  ST : S ≠ T
  zp : z ∉ ps
  Tp : T ∉ ps
  Sp : S ∉ ps
  az : ∀ a ∈ as, a ≠ z
  aT : ∀ a ∈ as, a ≠ T
  ap : ∀ a ∈ as, a ∉ ps
  nd : ps.Nodup
  len : ps.length = as.length
  ne : as ≠ []
  le : as.length ≤ 1000
theorem ApA.cells {z S T : Addr} {ps as : List Addr} {L : List Cell} (D : ApA z S T ps as) (hp : L.map Cell.p = ps) (hl : L.map Cell.l = as) : Ap z S T L := by
  subst hp
  subst hl
  exact ⟨D.Sz, D.Tz, D.ST, fun c h e => D.zp (by rw [← e]; exact List.mem_map_of_mem h), fun c h e => D.Tp (by rw [← e]; exact List.mem_map_of_mem h), fun c h e => D.Sp (by rw [← e]; exact List.mem_map_of_mem h), fun c h => D.az _ (List.mem_map_of_mem h), fun c h => D.aT _ (List.mem_map_of_mem h), fun c h d g e => D.ap _ (List.mem_map_of_mem h) (by rw [e]; exact List.mem_map_of_mem g), D.nd⟩
theorem build {X : Cx} {pins : List (Addr × Obj)} {σ : L2.St} {H : Hp} {s : Shared} (I : Inv X pins σ H s) {i : Nat} : ∀ {as ps : List Addr}, ps.length = as.length → (∀ a ∈ as, ∃ (r : List V) (x : V), SqL X.K H a r ∧ r[i]? = some x) → (∀ (k : Nat) p a, ps[k]? = some p → as[k]? = some a → s.heap.IsListIter p a i) →
    ∃ (L : List Cell) (vs : List V), L.map Cell.p = ps ∧ L.map Cell.l = as ∧ (∀ c ∈ L, s.heap.IsListIter c.p c.l i) ∧ (∀ c ∈ L, s.heap.IsList c.l c.xs) ∧ (∀ c ∈ L, c.xs[i]? = some c.x) ∧ Vals vs (L.map Cell.x) ∧ ∀ (k : Nat) a l, as[k]? = some a → SqL X.K H a l → l[i]? = vs[k]?
  | [], [], _, _, _ => ⟨[], [], rfl, rfl, fun c h => (nomatch h), fun c h => (nomatch h), fun c h => (nomatch h), .nil, fun k a l h => (by simp at h)⟩
  | [], _ :: _, h, _, _ => by cases h
  | _ :: _, [], h, _, _ => by cases h
  | a :: as, p :: ps, hl, hg, hi => by
    obtain ⟨L, vs, e1, e2, e3, e4, e5, e6, e7⟩ := build I (as := as) (ps := ps) (by simpa using hl) (fun b hb => hg b (List.mem_cons_of_mem _ hb)) fun k p' a' h1 h2 => hi (k + 1) p' a' h1 h2
    obtain ⟨r, x, q, ex⟩ := hg a (List.mem_cons_self ..)
    obtain ⟨us, rv, m, _⟩ := I.list q
    obtain ⟨u, eu, ru⟩ := rv.get ex
    have i0 := hi 0 p a rfl rfl
    refine ⟨⟨p, a, us.toArray, u⟩ :: L, x :: vs, by rw [List.map_cons, e1], by rw [List.map_cons, e2], fun c h => ?_, fun c h => ?_, fun c h => ?_, .cons ru e6, fun k b l h1 h2 => ?_⟩
    · rcases List.mem_cons.mp h with rfl | h
      · exact i0
      · exact e3 c h
    · rcases List.mem_cons.mp h with rfl | h
      · exact m.isList
      · exact e4 c h
    · rcases List.mem_cons.mp h with rfl | h
      · show us.toArray[i]? = some u
        rw [List.getElem?_toArray]
        exact eu
      · exact e5 c h
    · cases k with
      | zero =>
        cases h1
        rw [I.list_inj h2 q]
        exact ex
      | succ k => exact e7 k b l h1 h2
theorem tnN_obj {z S T : Addr} {ps as : List Addr} {i : Nat} {g : Heap} (hl : ps.length = as.length) (st : tnN z S T ps as i g) {c : Addr} (hc : c ∈ z :: S :: T :: ps) : ∃ o, g.get? c = some o ∧ ∀ v, o.data ≠ .cell v := by
  obtain ⟨⟨f0, f1, z0, _⟩, S0, ⟨k, T0, _⟩, hi⟩ := st
  rcases List.mem_cons.mp hc with rfl | hc
  · exact ⟨_, z0, fun _ k => nomatch k⟩
  · rcases List.mem_cons.mp hc with rfl | hc
    · exact ⟨_, S0, fun _ k => nomatch k⟩
    · rcases List.mem_cons.mp hc with rfl | hc
      · exact ⟨_, T0, fun _ k => nomatch k⟩
      · obtain ⟨j, hj, e⟩ := List.getElem_of_mem hc
        obtain ⟨o, eo, _, d⟩ := hi j c (as[j]'(by omega)) (by rw [List.getElem?_eq_getElem hj, e]) (List.getElem?_eq_getElem _)
        exact ⟨o, eo, fun _ k => by cases d.symm.trans k⟩
theorem turn_N {P : Program} {w : World} {K : PySem.W.Frag} {nm : Str} {np : Pos} {z S T : Addr} {ps as : List Addr} (D : ApA z S T ps as) :
    Turn P w K (.Name nm np) (ItN K as) (z :: S :: T :: ps) z (tnN z S T ps as) where
  mem := List.mem_cons_self
  obj := fun i g st c hc => tnN_obj D.len st hc
  keep := fun i g g' ⟨⟨f0, f1, z0, hf⟩, S0, ⟨kk, T0, hk⟩, hi⟩ k => ⟨⟨f0, f1, k z (by simp) _ z0, hf⟩, k S (by simp) _ S0, ⟨kk, k T (by simp) _ T0, hk⟩, fun j p a h1 h2 => (hi j p a h1 h2).at fun o e => k p (by simp [List.mem_of_getElem? h1]) o e⟩
  item := by
    rintro X rfl rfl rfl hc i pins s σ H E I hf st hg
    have lts : ∀ c ∈ z :: S :: T :: ps, c < s.heap.objs.size := fun c hm => let ⟨_, e, _⟩ := tnN_obj D.len st hm; Heap.lt_size e
    obtain ⟨⟨f0, f1, z0, hf0⟩, S0, ⟨kept, T0, hk⟩, hi⟩ := st
    obtain ⟨L, vs, e1, e2, e3, e4, e5, e6, e7⟩ := build I D.len hg hi
    have ll : L.length = as.length := by rw [← e2, List.length_map]
    have AP := D.cells e1 e2
    have lv : vs.length = as.length := by
      have := e6.length
      rw [List.length_map] at this
      omega
    have eS : (ps.map Value.ref) = L.map fun c => Value.ref c.p := by rw [← e1, List.map_map]; rfl
    rw [eS] at S0
    refine pyn_item AP (fun e => D.ne (by rw [← e2, e]; rfl)) z0 hf0 S0 T0 (by omega) (by have := D.le; omega) e3 e4 e5 fun g a f1' z1 T1 i1 W1 n1 st => ⟨_, rfl, ?_⟩
    show wpAny _ _ (pure ()) _ _ _
    refine wpAny_pure ?_
    rw [e1] at st
    have out : ∀ c o, c ∉ z :: S :: T :: ps → s.heap.get? c = some o → g.get? c = some o := fun c o hb e => by
      simp only [List.mem_cons, not_or] at hb
      exact st c o hb.1 hb.2.2.1 hb.2.2.2 e
    have okW : ObjOk X.prog X.w (upd H s.heap.objs.size (.tup vs)) g s.heap.objs.size (.tup vs) := ⟨by rw [lv]; exact Nat.le_trans D.le (by decide), L.map Cell.x, e6, ⟨_, W1, rfl, _, rfl⟩⟩
    have I' : Inv X pins σ (upd H s.heap.objs.size (.tup vs)) { s with heap := g } := I.turnedNew (t' := s.toks) (ch := z :: S :: T :: ps) out hf (Nat.le_refl _) okW
    refine ⟨.ref s.heap.objs.size, _, I', rfl, ⟨_, vs, rfl, I.hok.fresh (Nat.le_refl _), rfl, lv, e7⟩, ⟨⟨_, f1', z1, .inr ⟨a, rfl⟩⟩, ?_, ?_, fun j p b h1 h2 => ?_⟩, fun c hm => ?_⟩
    · rw [eS]
      exact st _ _ D.Sz D.ST D.Sp S0
    · obtain ⟨k, t1, t2⟩ := T1
      exact ⟨k, t1, by omega⟩
    · rw [← e1, List.getElem?_map] at h1
      rw [← e2, List.getElem?_map] at h2
      cases ej : L[j]? with
      | none => rw [ej] at h1; cases h1
      | some c =>
        rw [ej] at h1 h2
        cases h1
        cases h2
        exact i1 c (List.mem_of_getElem? ej)
    · exact (upd_ne (Nat.ne_of_lt (lts c hm))).trans (hf c hm).1
  done := by
    rintro X rfl rfl rfl hc i pins s σ H E I hf ⟨⟨f0, f1, z0, hf0⟩, S0, ⟨kept, T0, hk⟩, hi⟩ ⟨a, r, ha, qa, le⟩
    match as, ps, D, ha, hi, S0 with
    | a' :: as, p :: ps, D, ha, hi, S0 =>
      cases ha
      obtain ⟨us, rv, m, _⟩ := I.list qa
      have n1 := rv.length
      have key : ∀ (as ps : List Addr), ps.length = as.length → ∃ R : List Cell, R.map Cell.p = ps ∧ R.map Cell.l = as := by
        intro as
        induction as with
        | nil => intro ps h; cases ps with
          | nil => exact ⟨[], rfl, rfl⟩
          | cons => cases h
        | cons b as ih => intro ps h; cases ps with
          | nil => cases h
          | cons p ps =>
            obtain ⟨R, r1, r2⟩ := ih ps (by simpa using h)
            exact ⟨⟨p, b, #[], .none⟩ :: R, by rw [List.map_cons, r1], by rw [List.map_cons, r2]⟩
      obtain ⟨R, r1, r2⟩ := key as ps (by simpa using D.len)
      have eR : (ps.map Value.ref) = R.map fun c => Value.ref c.p := by rw [← r1, List.map_map]; rfl
      have AP := D.cells (L := ⟨p, a, us.toArray, .none⟩ :: R) (by rw [List.map_cons, r1]) (by rw [List.map_cons, r2])
      rw [List.map_cons, eR] at S0
      refine pyn_end (c := ⟨p, a, us.toArray, .none⟩) (R := R) (I.ok.hd hc) AP z0 hf0 S0 T0 (hi 0 p a rfl rfl) m.isList (by show us.toArray[i]? = none; rw [List.getElem?_toArray]; exact List.getElem?_eq_none (by omega)) fun g st => ⟨rfl, I.turnedL (t' := s.toks) (ch := z :: S :: T :: p :: ps) (fun c o hb e => ?_) hf⟩
      simp only [List.mem_cons, not_or] at hb
      refine st c o hb.1 hb.2.2.1 (fun h => ?_) e
      rw [List.map_cons, r1] at h
      rcases List.mem_cons.mp h with h | h
      · exact hb.2.2.2.1 h
      · exact hb.2.2.2.2 h
    | [], _, D, ha, _, _ => cases ha
  self := fun A i s Q E st q => let ⟨⟨_, _, z0, _⟩, _⟩ := st; iter_self z0 q
theorem apN {N : Addr} {as : List Addr} (h : ∀ a ∈ as, a < N) (ne : as ≠ []) (le : as.length ≤ 1000) : ApA (N + as.length + 2) (N + as.length) (N + as.length + 1) ((List.range as.length).map fun k => N + k) as := by
  have lt : ∀ x ∈ (List.range as.length).map fun k => N + k, N ≤ x ∧ x < N + as.length := fun x hx => by
    obtain ⟨k, hk, rfl⟩ := List.mem_map.mp hx
    have := List.mem_range.mp hk
    exact ⟨Nat.le_add_right _ _, Nat.add_lt_add_left this _⟩
  have b : ∀ a ∈ as, (a : Nat) < N := h
  refine ⟨Nat.ne_of_lt (Nat.lt_succ_of_lt (Nat.lt_succ_self _)), Nat.ne_of_lt (Nat.lt_succ_self _), Nat.ne_of_lt (Nat.lt_succ_self _), fun m => ?_, fun m => ?_, fun m => ?_, fun a ha => ?_, fun a ha => ?_, fun a ha m => ?_, ?_, by rw [List.length_map, List.length_range], ne, le⟩
  · exact absurd (lt _ m).2 (Nat.not_lt.mpr (Nat.le_add_right _ 2))
  · exact absurd (lt _ m).2 (Nat.not_lt.mpr (Nat.le_add_right _ 1))
  · exact absurd (lt _ m).2 (Nat.lt_irrefl _)
  · exact Nat.ne_of_lt (Nat.lt_of_lt_of_le (b a ha) (Nat.le_trans (Nat.le_add_right _ as.length) (Nat.le_add_right _ 2)))
  · exact Nat.ne_of_lt (Nat.lt_of_lt_of_le (b a ha) (Nat.le_trans (Nat.le_add_right _ as.length) (Nat.le_add_right _ 1)))
  · exact absurd (b a ha) (Nat.not_lt.mpr (lt a m).1)
  · rw [List.nodup_iff_pairwise_ne, List.pairwise_map]
    exact List.Pairwise.imp (fun h e => h (Nat.add_left_cancel e)) (List.nodup_iff_pairwise_ne.mp (List.nodup_range))
end Zn
namespace Zn
open PySem PySem.Spec PyProof.Rows L2
def iZipN (K : PySem.W.Frag) (te : TE) : TI := fun σ H R => te σ H fun y H1 => ∃ p as, y = .ref p ∧ SqL K H1 p (as.map V.ref) ∧ as ≠ [] ∧ as.length ≤ 9 ∧ (∀ a ∈ as, ∃ r, SqL K H1 a r) ∧ R (ItN K as) H1
theorem vals_refs : ∀ {as : List Addr} {us : List Value}, Vals (as.map V.ref) us → us = as.map Value.ref
  | [], us, h => by cases h; rfl
  | a :: as, us, h => by
    cases h with
    | cons e r =>
      cases e
      rw [vals_refs r]
      rfl
theorem pi_zipN {X : Cx} {e : Expr} {te : TE} {p pos sp np : Pos} {nm : Str} (hg : Gl X "zip") (hm : X.mg "zip" = none) (he : PE X e te)
    (hs : starEach [.Starred e sp] X.env = [(true, eval e X.env)] := by rfl) : PI X (.Name nm np) (.Call (.Name "zip" p) [.Starred e sp] [] pos) (iZipN X.K te) := by
  refine ⟨fun pins s σ H R I h => Call_ (ld_blt I hg hm PyProof.Rows.boot_zip ?_)⟩
  rw [hs]
  refine callWith_typeS rfl (PySem.W.ks_lone (thn (he.run pins s σ H _ I h) fun v s1 ⟨y, H1, I1, ry, l, as, ey, hx, ne, le, hr, q⟩ => ?_))
  subst ey
  cases ry
  refine StX.star_any I1 (.inr hx) fun us s2 I2 rv => ?_
  rw [vals_refs rv]
  have hml : ∀ a ∈ as, ∃ xs, s2.heap.IsList a xs := fun a ha => by
    obtain ⟨r, qr⟩ := hr a ha
    obtain ⟨us, _, m, _⟩ := I2.list qr
    exact ⟨_, m.isList⟩
  have lta : ∀ a ∈ as, a < s2.heap.objs.size := fun a ha => by
    obtain ⟨r, qr⟩ := hr a ha
    obtain ⟨us, _, m, _⟩ := I2.list qr
    exact m.lt
  refine call_zip le hml fun g La => iter_self La.Z ?_
  have D := apN lta ne (by omega)
  refine ⟨_, _, _, _, H1, rfl, I2.kept (t' := s2.toks) La.st, turn_N D, ⟨⟨_, _, La.Z, .inl rfl⟩, ?_, La.T, fun k p a h1 h2 => ?_⟩, fun c hm => ?_, q⟩
  · rw [List.map_map]
    exact La.S
  · rw [List.getElem?_map] at h1
    have hk := (List.getElem?_eq_some_iff.mp h2).1
    rw [List.getElem?_range hk] at h1
    cases h1
    exact La.I k a h2
  · have le : s2.heap.objs.size ≤ c := by
      rcases List.mem_cons.mp hm with rfl | hm
      · exact Nat.le_trans (Nat.le_add_right _ as.length) (Nat.le_add_right _ 2)
      · rcases List.mem_cons.mp hm with rfl | hm
        · exact Nat.le_add_right _ _
        · rcases List.mem_cons.mp hm with rfl | hm
          · exact Nat.le_trans (Nat.le_add_right _ as.length) (Nat.le_add_right _ 1)
          · obtain ⟨k, _, rfl⟩ := List.mem_map.mp hm
            exact Nat.le_add_right _ _
    exact I2.fpOk le (I2.hok.fresh le)
end Zn
namespace Dv
open PySem PySem.Spec PyProof.Rows L2 Xg
open Classical
section
variable {K : PySem.W.Frag} {md : Bool} {ta tb tc : TE} {ca cb cc : Nat} {fa fb fc : FE}
/-! zip(*rows) -/
def colD (rs : List (List PyData)) (n : Nat) : List PyData := (List.range n).map fun j => .tuple (rs.map fun r => r.getD j .none)
abbrev zipNQ (Q : List PyData → Prop) : PyData → Prop
  | .list ds => ∃ (rs : List (List PyData)) (n : Nat), ds = rs.map PyData.list ∧ rs ≠ [] ∧ rs.length ≤ 9 ∧ (∀ r ∈ rs, r.length = n) ∧ Q (colD rs n)
  | _ => False
theorem zipNQ_mono {P P' : List PyData → Prop} (h : ∀ k, P k → P' k) : ∀ x, zipNQ P x → zipNQ P' x := fun x g => by
  cases x <;> first | exact g.elim | skip
  obtain ⟨rs, n, a, b, c, d, e⟩ := g
  exact ⟨rs, n, a, b, c, d, h _ e⟩
abbrev fZipN (f : FE) : FD := fun ρ Q => f ρ (zipNQ Q)
/-- lists in a list -/
theorem DaL.rows {H : Hp} : ∀ {rs : List (List PyData)} {xs : List V}, DaL K H xs (rs.map PyData.list) → ∃ (as : List Addr) (vss : List (List V)), xs = as.map V.ref ∧ as.length = rs.length ∧ vss.length = rs.length ∧ ∀ (k : Nat) a, as[k]? = some a → ∃ vs r, vss[k]? = some vs ∧ rs[k]? = some r ∧ H a = some (.lst vs) ∧ DaL K H vs r
  | [], xs, h => by
    cases h
    exact ⟨[], [], rfl, rfl, rfl, fun k a h => (by simp at h)⟩
  | r :: rs, xs, h => by
    cases h with
    | cons h g =>
      cases h with
      | lst e d =>
        rename_i a vs
        obtain ⟨as, vss, e1, e2, e3, e4⟩ := DaL.rows g
        refine ⟨a :: as, vs :: vss, by rw [e1]; rfl, by rw [List.length_cons, List.length_cons, e2], by rw [List.length_cons, List.length_cons, e3], fun k b hb => ?_⟩
        cases k with
        | zero =>
          cases hb
          exact ⟨vs, r, rfl, rfl, e, d⟩
        | succ k => exact e4 k b hb
theorem sndi_zipN (a : Snd md K ta ca fa) : SndI md K (Zn.iZipN K ta) ca (fZipN fa) := ⟨fun ρ P P' h g => a.mono _ _ _ (zipNQ_mono h) g,
  fun {b S m σ H ρ R P} E hm hf k => a.go E hm hf fun d v H1 p st bx vd => by
    have sx : sq (fun _ => True) d := by
      cases d <;> first | trivial | exact p.elim
    obtain ⟨p1, xs, ds, rfl, _, g, hh⟩ := vd.seq sx E.bs
    rcases hh with ⟨rfl, hL⟩ | ⟨rfl, hL⟩
    · obtain ⟨rs, n, rfl, ne, le, hn, q⟩ := p
      obtain ⟨as, vss, rfl, l1, l2, e4⟩ := DaL.rows g
      have sql : ∀ H2, KG md b S H1 H2 → ∀ (k : Nat) a, as[k]? = some a → ∃ vs, vss[k]? = some vs ∧ SqL K H2 a vs := fun H2 kg k a ha => by
        obtain ⟨vs, r, h1, h2, h3, h4⟩ := e4 k a ha
        exact ⟨vs, h1, .inl (.inl (rm_le _ _ (KG.ex (b := b) kg E.bs _ _ h3)))⟩
      have lens : ∀ (k : Nat) a vs, as[k]? = some a → vss[k]? = some vs → vs.length = n := fun k a vs ha hv => by
        obtain ⟨vs', r, h1, h2, h3, h4⟩ := e4 k a ha
        rw [hv] at h1
        cases h1
        rw [h4.len]
        exact hn r (List.mem_of_getElem? h2)
      have nea : as ≠ [] := fun e => ne (List.length_eq_zero_iff.mp (by rw [← l1, e]; rfl))
      have W : Walk (Zn.ItN K as) n (fun H2 => KG md b S H1 H2) (fun i H2 v H' => KG md b S H1 H2 ∧ ∃ W ys, v = .ref W ∧ H2 W = none ∧ H' = upd H2 W (.tup ys) ∧ ys.length = as.length ∧ ∀ (k : Nat) a l, as[k]? = some a → SqL K H2 a l → l[i]? = ys[k]?) := by
        refine ⟨fun i H2 hi kg a ha => ?_, fun H2 kg => ?_, fun i H2 v H' hi kg y => ⟨kg, y⟩⟩
        · obtain ⟨j, hj, ej⟩ := List.getElem_of_mem ha
          have ea : as[j]? = some a := by rw [List.getElem?_eq_getElem hj, ej]
          obtain ⟨vs, h1, h2⟩ := sql H2 kg j a ea
          have lv := lens j a vs ea h1
          exact ⟨vs, vs[i]'(by omega), h2, List.getElem?_eq_getElem _⟩
        · cases as with
          | nil => exact absurd rfl nea
          | cons a0 as =>
            obtain ⟨vs, h1, h2⟩ := sql H2 kg 0 a0 rfl
            exact ⟨a0, vs, rfl, h2, by rw [lens 0 a0 vs rfl h1]; exact Nat.le_refl _⟩
      refine ⟨p1, as, rfl, hL _ KG.refl, nea, by omega, fun a ha => ?_, k _ _ H1 q st bx (wk_of W (by unfold colD; rw [List.length_map, List.length_range]) (fun _ kg => kg) fun i H2 x H' hi y T hT al => ?_)⟩
      · obtain ⟨j, hj, ej⟩ := List.getElem_of_mem ha
        obtain ⟨vs, _, h2⟩ := sql H1 KG.refl j a (by rw [List.getElem?_eq_getElem hj, ej])
        exact ⟨vs, h2⟩
      · obtain ⟨kg, W, ys, rfl, nW, rfl, ly, hy⟩ := y
        refine ⟨Evl.Ex.new nW, .tuple (rs.map fun r => r.getD i .none), ?_, new_tup al nW ?_⟩
        · unfold colD
          rw [List.getElem?_map, List.getElem?_range hi]
          rfl
        · have key : ∀ (ys : List V) (rs : List (List PyData)), ys.length = rs.length → (∀ (k : Nat) y r, ys[k]? = some y → rs[k]? = some r → Da K (rm H2 T) y (r.getD i .none)) → DaL K (rm H2 T) ys (rs.map fun r => r.getD i .none) := by
            intro ys
            induction ys with
            | nil => intro rs h _; cases rs with
              | nil => exact .nil
              | cons => cases h
            | cons y ys ih => intro rs h g; cases rs with
              | nil => cases h
              | cons r rs => exact .cons (g 0 y r rfl rfl) (ih rs (by simpa using h) fun k y' r' h1 h2 => g (k + 1) y' r' h1 h2)
          refine key ys rs (by omega) fun k y r h1 h2 => ?_
          have hk : k < as.length := by
            have := (List.getElem?_eq_some_iff.mp h1).1
            omega
          obtain ⟨vs, r', e1, e2, e3, e5⟩ := e4 k as[k] (List.getElem?_eq_getElem hk)
          rw [h2] at e2
          cases e2
          obtain ⟨vs', f1, f2⟩ := sql H2 kg k as[k] (List.getElem?_eq_getElem hk)
          rw [e1] at f1
          cases f1
          have ey := hy k as[k] vs (List.getElem?_eq_getElem hk) f2
          rw [h1] at ey
          obtain ⟨d, g1, g2⟩ := at_of e5 hT ey
          rw [List.getD_eq_getElem?_getD, g1]
          exact g2
    · exact p.elim⟩
end
end Dv
namespace Dv
open PySem PySem.Spec PyProof.Rows L2 Xg
open Classical
section
variable {K : PySem.W.Frag} {md md2 md3 : Bool} {ta tb tc : TE} {ca cb cc : Nat} {fa fb fc : FE}
/-! a < b < c -/
abbrev eChain (g g' : GB) (fa fb fc : FE) : FE := fun ρ Q => fa ρ fun x => fb ρ fun y => g x y (asB fun k => if k = true then fc ρ fun w => g' y w Q else Q (.bool false))
theorem snd_chain {r r' : R2} {g g' : GB} (o : OpSnd K r g) (o' : OpSnd K r' g') (a : Snd md K ta ca fa) (b : Snd md2 K tb cb fb) (c : Snd md3 K tc cc fc) : Snd true K (tChain r r' ta tb tc) (ca + (cb + cc)) (eChain g g' fa fb fc) := mk_snd
  (fun ρ P P' h q => a.mono _ _ _ (fun x => b.mono _ _ _ fun y => o.mono x y _ _ (asB_mono fun k z => by
    cases k with
    | true => exact c.mono _ _ _ (fun w => o'.mono y w _ _ h) z
    | false => exact h _ z)) q)
  (fun {B S m σ H ρ Q P} E hm hf k => a.go E (by omega) hf fun x vx H1 h1 s1 b1 d1 => b.go (E.step s1 b1) (by omega) h1 fun y vy H2 h2 s2 b2 d2 =>
    o.run ((E.step s1 b1).step s2 b2).al (d1.vw.step s2 E.bs) d2.vw h2 fun d v H' p e q => by
      obtain ⟨kk, rfl, p⟩ := asB_of (md := true) (b := B) p q
      have st3 : Stp B H2 H' := Stp.ex e
      have bx3 := b2.ex e
      refine ⟨kk, rfl, ?_⟩
      cases kk with
      | false =>
        rw [if_neg Bool.false_ne_true] at p ⊢
        exact k _ _ _ p ((s1.trans s2).trans st3) (bx3.le (by omega)) (.bl false)
      | true =>
        rw [if_pos rfl] at p ⊢
        refine c.go (((E.step s1 b1).step s2 b2).step st3 bx3) (by omega) p fun w vw H4 h4 s4 b4 d4 => ?_
        exact o'.run ((((E.step s1 b1).step s2 b2).step st3 bx3).step s4 b4).al ((d2.vw.step st3 E.bs).step s4 E.bs) d4.vw h4 fun d v H5 p5 e5 q5 => k d v H5 p5 ((((s1.trans s2).trans st3).trans s4).trans (Stp.ex e5)) ((b4.ex e5).le (by omega)) q5)
/-! n.bit_length() -/
abbrev eBits (fa : FE) : FE := fun ρ Q => fa ρ (asI fun i => Q (.int (Builtin.Int.intBits i : Nat)))
theorem snd_bits (a : Snd md K ta ca fa) : Snd true K (tBits ta) ca (eBits fa) := mk_snd
  (fun ρ P P' h q => a.mono _ _ _ (asI_mono fun i z => h _ z) q)
  (fun E hm hf k => a.go E hm hf fun x vx H1 h1 s1 b1 d1 => by
    obtain ⟨i, rfl, h1⟩ := asI_of h1 d1
    exact ⟨i, rfl, k _ _ _ h1 s1 b1 (.int _)⟩)
/-! n & 1 -/
abbrev gOdd : GB
  | .int i, .int j, Q => (0 ≤ i ∧ j = 1) ∧ Q (.int (i % 2))
  | _, _, _ => False
theorem ops_odd : OpSnd K (fun x y H Q => ∃ n : Nat, x = .int (n : Int) ∧ y = .int 1 ∧ Q (.int ((n % 2 : Nat) : Int)) H) gOdd := ⟨fun x y P P' h q => by
    cases x <;> cases y <;> first | exact ⟨q.1, h _ q.2⟩ | exact q.elim, fun {b S H x y dx dy Q P} al hx hy q k => by
    cases dx <;> cases dy <;> first | exact q.elim | skip
    rename_i i j
    obtain ⟨⟨h0, rfl⟩, q⟩ := q
    rw [hx.int, hy.int]
    refine ⟨i.toNat, by rw [Int.toNat_of_nonneg h0], rfl, ?_⟩
    have e : ((i.toNat % 2 : Nat) : Int) = i % 2 := by omega
    rw [e]
    exact k _ _ _ q (Evl.Ex.refl _) (.int _)⟩
/-! min(xs, default=d), max(xs, default=d) -/
def rMinD (K : PySem.W.Frag) : List V → List V → Hp → VK → Prop := fun vs zs H Q => ∃ (a : Addr) (ns : List Int) (d : V), vs = [V.ref a] ∧ zs = [d] ∧ SqL K H a (ns.map V.int) ∧ ((ns = [] ∧ Q d H) ∨ (0 < ns.length ∧ ∀ m, m ∈ ns → (∀ y, y ∈ ns → m ≤ y) → Q (.int m) H))
def rMaxD (K : PySem.W.Frag) : List V → List V → Hp → VK → Prop := fun vs zs H Q => ∃ (a : Addr) (ns : List Int) (d : V), vs = [V.ref a] ∧ zs = [d] ∧ SqL K H a (ns.map V.int) ∧ ((ns = [] ∧ Q d H) ∨ (0 < ns.length ∧ ∀ m, m ∈ ns → (∀ y, y ∈ ns → y ≤ m) → Q (.int m) H))
theorem alike_ints {ns : List Int} : PySem.W.AlikeAll (ns.map PyData.int) := by
  refine ⟨fun x hx y hy => ?_, fun x hx => ?_⟩
  · obtain ⟨i, _, rfl⟩ := List.mem_map.mp hx
    obtain ⟨j, _, rfl⟩ := List.mem_map.mp hy
    rfl
  · obtain ⟨i, _, rfl⟩ := List.mem_map.mp hx
    exact fun e => nomatch e
theorem depth_ints : ∀ {ns : List Int}, PyData.depthAll (ns.map PyData.int) = 0
  | [] => by simp [PyData.depthAll]
  | n :: ns => by rw [List.map_cons, PyData.depthAll, depth_ints]; simp [PyData.depth]
theorem fold_min : ∀ (ns : List Int) (n : Int), (ns.foldl min n = n ∨ ns.foldl min n ∈ ns) ∧ ns.foldl min n ≤ n ∧ ∀ y ∈ ns, ns.foldl min n ≤ y
  | [], n => ⟨.inl rfl, Int.le_refl _, fun y h => (nomatch h)⟩
  | k :: ns, n => by
    obtain ⟨h1, h2, h3⟩ := fold_min ns (min n k)
    rw [List.foldl_cons]
    refine ⟨?_, by omega, fun y hy => ?_⟩
    · rcases h1 with h1 | h1
      · by_cases c : n ≤ k
        · rw [Int.min_eq_left c] at h1 ⊢
          exact .inl h1
        · rw [Int.min_eq_right (by omega)] at h1 ⊢
          right
          rw [h1]
          exact List.mem_cons_self ..
      · exact .inr (List.mem_cons_of_mem _ h1)
    · rcases List.mem_cons.mp hy with rfl | hy
      · omega
      · exact h3 y hy
theorem fold_max : ∀ (ns : List Int) (n : Int), (ns.foldl max n = n ∨ ns.foldl max n ∈ ns) ∧ n ≤ ns.foldl max n ∧ ∀ y ∈ ns, y ≤ ns.foldl max n
  | [], n => ⟨.inl rfl, Int.le_refl _, fun y h => (nomatch h)⟩
  | k :: ns, n => by
    obtain ⟨h1, h2, h3⟩ := fold_max ns (max n k)
    rw [List.foldl_cons]
    refine ⟨?_, by omega, fun y hy => ?_⟩
    · rcases h1 with h1 | h1
      · by_cases c : k ≤ n
        · rw [Int.max_eq_left c] at h1 ⊢
          exact .inl h1
        · rw [Int.max_eq_right (by omega)] at h1 ⊢
          right
          rw [h1]
          exact List.mem_cons_self ..
      · exact .inr (List.mem_cons_of_mem _ h1)
    · rcases List.mem_cons.mp hy with rfl | hy
      · omega
      · exact h3 y hy
theorem cr_minD {X : Cx} (hu : X.A.units + 64 < cLine) (hc : X.calm = true) : CallRK X (.builtin "min") [Str.ofString "default"] (rMinD X.K) := by
  intro pins s σ H vs zs us ws Q I r rz h
  obtain ⟨a, ns, d, rfl, rfl, hs, h⟩ := h
  obtain rfl := Vals.ref1 r
  obtain ⟨w1, rfl, e1⟩ := vals1 rz
  obtain ⟨its, rv, hl, _⟩ := I.list hs
  have hr := ints_readAll s.heap (vals_ints rv)
  refine PySem.W.min_list_default (I.ok.hd hc) hl.isList (by rw [List.toList_toArray]; exact hr) alike_ints (by rw [depth_ints]; omega) (fun e h' tk k => ?_) fun y ys i v h' tk bs e hv rd k => ?_
  · have e : ns = [] := List.map_eq_nil_iff.mp e
    rcases h with ⟨_, q⟩ | ⟨q, _⟩
    · exact ⟨d, H, I.kept k, e1, q⟩
    · rw [e] at q
      cases q
  · cases ns with
    | nil => cases e
    | cons n ns =>
      cases e
      rw [PySem.W.minD_ints] at rd
      cases rd
      obtain ⟨f1, f2, f3⟩ := fold_min ns n
      rcases h with ⟨q, _⟩ | ⟨_, q⟩
      · cases q
      · refine ⟨.int _, H, I.kept k, ⟨_, rfl⟩, q _ ?_ fun y hy => ?_⟩
        · rcases f1 with f1 | f1
          · rw [f1]; exact List.mem_cons_self ..
          · exact List.mem_cons_of_mem _ f1
        · rcases List.mem_cons.mp hy with rfl | hy
          · exact f2
          · exact f3 y hy
theorem cr_maxD {X : Cx} (hu : X.A.units + 64 < cLine) (hc : X.calm = true) : CallRK X (.builtin "max") [Str.ofString "default"] (rMaxD X.K) := by
  intro pins s σ H vs zs us ws Q I r rz h
  obtain ⟨a, ns, d, rfl, rfl, hs, h⟩ := h
  obtain rfl := Vals.ref1 r
  obtain ⟨w1, rfl, e1⟩ := vals1 rz
  obtain ⟨its, rv, hl, _⟩ := I.list hs
  have hr := ints_readAll s.heap (vals_ints rv)
  refine PySem.W.max_list_default (I.ok.hd hc) hl.isList (by rw [List.toList_toArray]; exact hr) alike_ints (by rw [depth_ints]; omega) (fun e h' tk k => ?_) fun y ys i v h' tk bs e hv rd k => ?_
  · have e : ns = [] := List.map_eq_nil_iff.mp e
    rcases h with ⟨_, q⟩ | ⟨q, _⟩
    · exact ⟨d, H, I.kept k, e1, q⟩
    · rw [e] at q
      cases q
  · cases ns with
    | nil => cases e
    | cons n ns =>
      cases e
      rw [PySem.W.maxD_ints] at rd
      cases rd
      obtain ⟨f1, f2, f3⟩ := fold_max ns n
      rcases h with ⟨q, _⟩ | ⟨_, q⟩
      · cases q
      · refine ⟨.int _, H, I.kept k, ⟨_, rfl⟩, q _ ?_ fun y hy => ?_⟩
        · rcases f1 with f1 | f1
          · rw [f1]; exact List.mem_cons_self ..
          · exact List.mem_cons_of_mem _ f1
        · rcases List.mem_cons.mp hy with rfl | hy
          · exact f2
          · exact f3 y hy
abbrev minQ (Q : PyData → Prop) (d : PyData) : PyData → Prop
  | .list ds => ∃ ns : List Int, ds = ns.map PyData.int ∧ ((ns = [] ∧ Q d) ∨ (0 < ns.length ∧ ∀ m, m ∈ ns → (∀ y, y ∈ ns → m ≤ y) → Q (.int m)))
  | _ => False
abbrev maxQ (Q : PyData → Prop) (d : PyData) : PyData → Prop
  | .list ds => ∃ ns : List Int, ds = ns.map PyData.int ∧ ((ns = [] ∧ Q d) ∨ (0 < ns.length ∧ ∀ m, m ∈ ns → (∀ y, y ∈ ns → y ≤ m) → Q (.int m)))
  | _ => False
abbrev eMinD (fa fb : FE) : FE := fun ρ Q => fa ρ fun x => fb ρ fun d => minQ Q d x
abbrev eMaxD (fa fb : FE) : FE := fun ρ Q => fa ρ fun x => fb ρ fun d => maxQ Q d x
theorem minQ_mono {P P' : PyData → Prop} (h : ∀ d, P d → P' d) : ∀ d x, minQ P d x → minQ P' d x := fun d x q => by
  cases x <;> first | exact q.elim | skip
  obtain ⟨ns, e, q⟩ := q
  exact ⟨ns, e, q.elim (fun z => .inl ⟨z.1, h _ z.2⟩) fun z => .inr ⟨z.1, fun m a b => h _ (z.2 m a b)⟩⟩
theorem maxQ_mono {P P' : PyData → Prop} (h : ∀ d, P d → P' d) : ∀ d x, maxQ P d x → maxQ P' d x := fun d x q => by
  cases x <;> first | exact q.elim | skip
  obtain ⟨ns, e, q⟩ := q
  exact ⟨ns, e, q.elim (fun z => .inl ⟨z.1, h _ z.2⟩) fun z => .inr ⟨z.1, fun m a b => h _ (z.2 m a b)⟩⟩
theorem snd_minD (a : Snd md K ta ca fa) (b : Snd true K tb cb fb) : Snd true K (tCKw (rMinD K) (tCons ta tNil) (tCons tb tNil)) (ca + cb) (eMinD fa fb) := mk_snd
  (fun ρ P P' h q => a.mono _ _ _ (fun x => b.mono _ _ _ fun d => minQ_mono h d x) q)
  (fun {B S m σ H ρ Q P} E hm hf k => a.go E (by omega) hf fun x vx H1 h1 s1 b1 d1 => b.go (E.step s1 b1) (by omega) h1 fun y vy H2 h2 s2 b2 d2 => by
    cases x <;> first | exact h2.elim | skip
    obtain ⟨ns, rfl, q⟩ := h2
    obtain ⟨p, vs, rfl, e, g⟩ := (d1.vw.step s2 E.bs).list
    rw [g.ints_inv] at e
    refine ⟨p, ns, vy, rfl, rfl, .inl (.inl e), q.elim (fun z => .inl ⟨z.1, k _ _ _ z.2 (s1.trans s2) (b2.le (by omega)) d2⟩) fun z => .inr ⟨z.1, fun m a b => k _ _ _ (z.2 m a b) (s1.trans s2) (b2.le (by omega)) (.int _)⟩⟩)
theorem snd_maxD (a : Snd md K ta ca fa) (b : Snd true K tb cb fb) : Snd true K (tCKw (rMaxD K) (tCons ta tNil) (tCons tb tNil)) (ca + cb) (eMaxD fa fb) := mk_snd
  (fun ρ P P' h q => a.mono _ _ _ (fun x => b.mono _ _ _ fun d => maxQ_mono h d x) q)
  (fun {B S m σ H ρ Q P} E hm hf k => a.go E (by omega) hf fun x vx H1 h1 s1 b1 d1 => b.go (E.step s1 b1) (by omega) h1 fun y vy H2 h2 s2 b2 d2 => by
    cases x <;> first | exact h2.elim | skip
    obtain ⟨ns, rfl, q⟩ := h2
    obtain ⟨p, vs, rfl, e, g⟩ := (d1.vw.step s2 E.bs).list
    rw [g.ints_inv] at e
    refine ⟨p, ns, vy, rfl, rfl, .inl (.inl e), q.elim (fun z => .inl ⟨z.1, k _ _ _ z.2 (s1.trans s2) (b2.le (by omega)) d2⟩) fun z => .inr ⟨z.1, fun m a b => k _ _ _ (z.2 m a b) (s1.trans s2) (b2.le (by omega)) (.int _)⟩⟩)
end
end Dv
namespace Dv
open PySem PySem.Spec PyProof.Rows L2 Xg
open Classical
section
variable {K : PySem.W.Frag} {ta : TE} {ca c : Nat} {fa : FE}
/-! f(box(script, k)): a box of its own -/
abbrev eBoxC (i : Nat) (fa : FE) (F : FF) : FE := fun ρ Q => match ρ[i]? with
  | some (.scr _) => fa ρ (asI fun k => (0 ≤ k ∧ k ≤ 1000) ∧ F [.box] fun d => flat d = true ∧ Q d)
  | _ => False
theorem snd_boxC {i : Nat} {F : FF} (mF : MonoF F) (a : Snd true K ta ca fa) : Snd true K (tCallG (spD K c F) (tCons (tCallG (spBx K) (tCons (tVar i) (tCons ta tNil))) tNil)) (ca + c) (eBoxC i fa F) := mk_snd
  (fun ρ P P' h q => by
    unfold eBoxC at q ⊢
    split at q
    · exact a.mono _ _ _ (asI_mono fun k z => ⟨z.1, mF _ _ _ (fun d y => ⟨y.1, h _ y.2⟩) z.2⟩) q
    · exact q.elim)
  (fun {B S m σ H ρ Q P} E hm hf kk => by
    unfold eBoxC at hf
    split at hf
    · rename_i ns e
      obtain ⟨p, e1, hs⟩ := E.sl i _ e
      refine ⟨.ref p, e1, a.go E (by omega) hf fun d v H1 h1 s1 b1 vd => ?_⟩
      obtain ⟨k, rfl, ⟨k0, k1⟩, h1⟩ := asI_of h1 vd
      refine ⟨p, ns, k.toNat, ?_, Evl.ex_l rm_le (Evl.ex_l (s1.rm E.bs) hs), by omega, fun q x y nq x0 y0 y1 => ?_⟩
      · rw [Int.toNat_of_nonneg k0]
      have ex := Evl.Ex.new (o := .lst [.int x, .int y, .int 0]) nq
      refine ⟨some q, fun a => a = q, 0, [.box], .cons ⟨q, rfl, rfl⟩ .nil, ⟨x, y, 0, x0, y0, y1, by omega, by omega, upd_same⟩, fun p' e => by cases e; rfl, fun a h => by rw [h, upd_same]; simp, by omega,
        mF _ _ _ (fun d z v H' st bx hd => kk d v H' z.2 ?_ ?_ (Da.flat hd z.1)) h1⟩
      · exact fun a' o n1 h => st a' o (fun w => by cases w; have := s1 _ o n1 h; rw [nq] at this; cases this) (ex a' o (s1 a' o n1 h))
      · cases B with
        | none => trivial
        | some p0 =>
          obtain ⟨x1, y2, z1, g1, g2, g3, g4, g5, g6⟩ := b1
          exact ⟨x1, y2, z1, g1, g2, g3, g4, by omega, st p0 _ (fun w => by cases w; rw [nq] at g6; cases g6) (ex p0 _ g6)⟩
    · exact hf.elim)
end
end Dv
namespace Kd
open PySem PySem.Spec PyProof.Rows L2 Xg Dv
def f_is_number : FS := (sRet (eAnd (eIsi .int (eVar 0)) (eNot (eIsi .bool (eVar 0)))))
@[irreducible] def F_is_number : FF := mkF 1 1 f_is_number
def t_is_number (K : PySem.W.Frag) : TS := (tRet (tAndV (tCB (rIsi K) (tCons (tVar 0) (tCons (tC (.ty "int")) tNil))) (tNotV (tCB (rIsi K) (tCons (tVar 0) (tCons (tC (.ty "bool")) tNil))))))
theorem s_is_number (K : PySem.W.Frag) : SndS K (t_is_number K) 0 f_is_number := (snds_ret (snd_and (snd_isi (t := .int) snd_var) (snd_not (snd_isi (t := .bool) snd_var))))
theorem m_is_number (K : PySem.W.Frag) : MonoF F_is_number := by
  unfold F_is_number
  exact mkF_mono (s_is_number K)
def f_is_number_from : FS := (sRet (eAnd (eCall F_is_number (aCons (eVar 0) aNil)) (eBin (gC fun i j => decide (j ≤ i)) (eVar 0) (eVar 1))))
@[irreducible] def F_is_number_from : FF := mkF 2 2 f_is_number_from
def t_is_number_from (K : PySem.W.Frag) : TS := (tRet (tAndV (tCallG (spD K 0 F_is_number) (tCons (tVar 0) tNil)) (tOp (rI0 fun i j => .bl (decide (j ≤ i))) (tVar 0) (tVar 1))))
theorem s_is_number_from (K : PySem.W.Frag) : SndS K (t_is_number_from K) 0 f_is_number_from := (snds_ret (snd_and (snd_call (m_is_number K) (snda_cons snd_var snda_nil)) (snd_op ops_C snd_var snd_var)))
theorem m_is_number_from (K : PySem.W.Frag) : MonoF F_is_number_from := by
  unfold F_is_number_from
  exact mkF_mono (s_is_number_from K)
def f_is_tuple_of : FS := (sRet (eAnd (eIsi .tuple (eVar 0)) (eBin gEq (eCB (g1 lenD) (dCons (eVar 0) dNil)) (eVar 1))))
@[irreducible] def F_is_tuple_of : FF := mkF 2 2 f_is_tuple_of
def t_is_tuple_of (K : PySem.W.Frag) : TS := (tRet (tAndV (tCB (rIsi K) (tCons (tVar 0) (tCons (tC (.ty "tuple")) tNil))) (tOp (rEqX K) (tCB (fun xs H Q => ∃ x n, xs = [x] ∧ LenV K x H n ∧ Q (.int n) H) (tCons (tVar 0) tNil)) (tVar 1))))
theorem s_is_tuple_of (K : PySem.W.Frag) : SndS K (t_is_tuple_of K) 0 f_is_tuple_of := (snds_ret (snd_and (snd_isi (t := .tuple) snd_var) (snd_op ops_eq (snd_cb cs_len (sndd_cons snd_var sndd_nil)) snd_var)))
theorem m_is_tuple_of (K : PySem.W.Frag) : MonoF F_is_tuple_of := by
  unfold F_is_tuple_of
  exact mkF_mono (s_is_tuple_of K)
def f_gates : FS := (sSeq (sAsg (eVar 0) (gT (gsCons (gN 1) (gsCons (gN 2) gsNil)))) (sRet (eIf (fTest (eBin gEq (eVar 1) (eC (.str "row")))) (eBin gAdd (eCB (g1 lenD) (dCons (eVar 2) dNil)) (eC (.int 1))) (eCB (g1 lenD) (dCons (eVar 2) dNil)))))
@[irreducible] def F_gates : FF := mkF 1 3 f_gates
def t_gates (K : PySem.W.Frag) : TS := (tSeq (tAsg (tVar 0) (fun v σ H Q => gTup K 2 (gCons (gName 1) (gCons (gName 2) gNil)) v σ H Q ∨ gLst K 2 (gCons (gName 1) (gCons (gName 2) gNil)) v σ H Q)) (tRet (tIf (tTest (tOp (rEqX K) (tVar 1) (tC (.str "row")))) (tOp (rAdd K) (tCB (fun xs H Q => ∃ x n, xs = [x] ∧ LenV K x H n ∧ Q (.int n) H) (tCons (tVar 2) tNil)) (tC (.int 1))) (tCB (fun xs H Q => ∃ x n, xs = [x] ∧ LenV K x H n ∧ Q (.int n) H) (tCons (tVar 2) tNil)))))
theorem s_gates (K : PySem.W.Frag) : SndS K (t_gates K) 0 f_gates := (snds_seq (snds_asg (vs := [1, 2]) snd_var (sndg_tup (sndgs_cons (sndg_name (by decide)) (sndgs_cons (sndg_name (by decide)) sndgs_nil)) (gs_lenS gN_some (gs_lenS gN_some gs_len0)))) (snds_ret (snd_if (sndt_test (snd_op ops_eq snd_var snd_str)) (snd_op ops_add (snd_cb cs_len (sndd_cons snd_var sndd_nil)) snd_int) (snd_cb cs_len (sndd_cons snd_var sndd_nil)))))
theorem m_gates (K : PySem.W.Frag) : MonoF F_gates := by
  unfold F_gates
  exact mkF_mono (s_gates K)
def f_is_standing : FS := (sSeq (sAsg (eVar 0) (gT (gsCons (gN 2) (gsCons (gN 3) gsNil)))) (sSeq (sIf (fNot (fTest (eCall F_is_tuple_of (aCons (eVar 1) (aCons (eCB (g1 lenD) (dCons (eVar 3) dNil)) aNil))))) (sRet (eC (.bool false))) sSkip) (sRet (eCB allD (dCons (eL (fComp 1000000 (fZip (eVar 1) (eVar 3)) [4, 5] (gT (gsCons (gN 4) (gsCons (gN 5) gsNil))) fYes (eAnd (eCall F_is_number_from (aCons (eVar 4) (aCons (eC (.int 0)) aNil))) (eBin (gC fun i j => decide (i ≤ j)) (eVar 4) (eVar 5))))) dNil)))))
@[irreducible] def F_is_standing : FF := mkF 2 6 f_is_standing
def t_is_standing (K : PySem.W.Frag) : TS := (tSeq (tAsg (tVar 0) (fun v σ H Q => gTup K 2 (gCons (gName 2) (gCons (gName 3) gNil)) v σ H Q ∨ gLst K 2 (gCons (gName 2) (gCons (gName 3) gNil)) v σ H Q)) (tSeq (tIfS (tNot (tB (tCallG (spD K 0 F_is_tuple_of) (tCons (tVar 1) (tCons (tCB (fun xs H Q => ∃ x n, xs = [x] ∧ LenV K x H n ∧ Q (.int n) H) (tCons (tVar 3) tNil)) tNil))))) (tRet (tC (.bl false))) tNext) (tRet (tCB (rAll K) (tCons (tLc (Pw.iZipX K (tCons (tVar 1) (tCons (tVar 3) tNil))) (fun v σ H Q => gTup K 2 (gCons (gName 4) (gCons (gName 5) gNil)) v σ H Q ∨ gLst K 2 (gCons (gName 4) (gCons (gName 5) gNil)) v σ H Q) tYes (tAndV (tCallG (spD K 0 F_is_number_from) (tCons (tVar 4) (tCons (tC (.int 0)) tNil))) (tOp (rI0 fun i j => .bl (decide (i ≤ j))) (tVar 4) (tVar 5))) [4, 5]) tNil)))))
theorem s_is_standing (K : PySem.W.Frag) : SndS K (t_is_standing K) 0 f_is_standing := (snds_seq (snds_asg (vs := [2, 3]) snd_var (sndg_tup (sndgs_cons (sndg_name (by decide)) (sndgs_cons (sndg_name (by decide)) sndgs_nil)) (gs_lenS gN_some (gs_lenS gN_some gs_len0)))) (snds_seq (snds_if (sndt_not (sndt_B (snd_call (m_is_tuple_of K) (snda_cons snd_var (snda_cons (snd_cb cs_len (sndd_cons snd_var sndd_nil)) snda_nil))))) (snds_ret snd_bl) snds_nil) (snds_ret (snd_cb cs_all (sndd_cons (SndL.d (sndl_comp (N := 1000000) (by decide) (sndi_zip (Snd.v snd_var) (Snd.v snd_var)) (sndg_tup (sndgs_cons (sndg_name (by decide)) (sndgs_cons (sndg_name (by decide)) sndgs_nil)) (gs_lenS gN_some (gs_lenS gN_some gs_len0))) sndt_yes (snd_and (snd_call (m_is_number_from K) (snda_cons snd_var (snda_cons snd_int snda_nil))) (snd_op ops_C snd_var snd_var)))) sndd_nil)))))
theorem m_is_standing (K : PySem.W.Frag) : MonoF F_is_standing := by
  unfold F_is_standing
  exact mkF_mono (s_is_standing K)
def f_lacking : FS := (sSeq (sAsg (eVar 0) (gT (gsCons (gN 2) (gsCons (gN 3) gsNil)))) (sRet (eUn tupD (eL (fComp 1000000 (fZip (eVar 1) (eVar 3)) [4, 5] (gT (gsCons (gN 4) (gsCons (gN 5) gsNil))) fYes (eBin (gI fun i j => i - j) (eVar 5) (eVar 4)))))))
@[irreducible] def F_lacking : FF := mkF 2 6 f_lacking
def t_lacking (K : PySem.W.Frag) : TS := (tSeq (tAsg (tVar 0) (fun v σ H Q => gTup K 2 (gCons (gName 2) (gCons (gName 3) gNil)) v σ H Q ∨ gLst K 2 (gCons (gName 2) (gCons (gName 3) gNil)) v σ H Q)) (tRet (tThen (tLc (Pw.iZipX K (tCons (tVar 1) (tCons (tVar 3) tNil))) (fun v σ H Q => gTup K 2 (gCons (gName 4) (gCons (gName 5) gNil)) v σ H Q ∨ gLst K 2 (gCons (gName 4) (gCons (gName 5) gNil)) v σ H Q) tYes (tOp (rI0 fun i j => .int (i - j)) (tVar 5) (tVar 4)) [4, 5]) (kTup K))))
theorem s_lacking (K : PySem.W.Frag) : SndS K (t_lacking K) 0 f_lacking := (snds_seq (snds_asg (vs := [2, 3]) snd_var (sndg_tup (sndgs_cons (sndg_name (by decide)) (sndgs_cons (sndg_name (by decide)) sndgs_nil)) (gs_lenS gN_some (gs_lenS gN_some gs_len0)))) (snds_ret (snd_tupOf (SndL.d (sndl_comp (N := 1000000) (by decide) (sndi_zip (Snd.v snd_var) (Snd.v snd_var)) (sndg_tup (sndgs_cons (sndg_name (by decide)) (sndgs_cons (sndg_name (by decide)) sndgs_nil)) (gs_lenS gN_some (gs_lenS gN_some gs_len0))) sndt_yes (snd_op ops_I snd_var snd_var))))))
theorem m_lacking (K : PySem.W.Frag) : MonoF F_lacking := by
  unfold F_lacking
  exact mkF_mono (s_lacking K)
def f_turned_line : FS := (sSeq (sAsg (eVar 0) (gT (gsCons (gN 1) (gsCons (gN 2) gsNil)))) (sRet (eTup (dCons (eVar 1) (dCons (eRevT (eVar 2)) dNil)))))
@[irreducible] def F_turned_line : FF := mkF 1 3 f_turned_line
def t_turned_line (K : PySem.W.Frag) : TS := (tSeq (tAsg (tVar 0) (fun v σ H Q => gTup K 2 (gCons (gName 1) (gCons (gName 2) gNil)) v σ H Q ∨ gLst K 2 (gCons (gName 1) (gCons (gName 2) gNil)) v σ H Q)) (tRet (tTup (tCons (tVar 1) (tCons (Xg.tRevT K (tVar 2)) tNil)))))
theorem s_turned_line (K : PySem.W.Frag) : SndS K (t_turned_line K) 0 f_turned_line := (snds_seq (snds_asg (vs := [1, 2]) snd_var (sndg_tup (sndgs_cons (sndg_name (by decide)) (sndgs_cons (sndg_name (by decide)) sndgs_nil)) (gs_lenS gN_some (gs_lenS gN_some gs_len0)))) (snds_ret (snd_tup (sndd_cons snd_var (sndd_cons (snd_revT snd_var) sndd_nil)) (by decide))))
theorem m_turned_line (K : PySem.W.Frag) : MonoF F_turned_line := by
  unfold F_turned_line
  exact mkF_mono (s_turned_line K)
def f_turned : FS := (sRet (eRevT (eVar 1)))
@[irreducible] def F_turned : FF := mkF 2 2 f_turned
def t_turned (K : PySem.W.Frag) : TS := (tRet (Xg.tRevT K (tVar 1)))
theorem s_turned (K : PySem.W.Frag) : SndS K (t_turned K) 0 f_turned := (snds_ret (snd_revT snd_var))
theorem m_turned (K : PySem.W.Frag) : MonoF F_turned := by
  unfold F_turned
  exact mkF_mono (s_turned K)
def f_turned_widths : FS := (sSeq (sAsg (eVar 0) (gT (gsCons (gN 2) (gsCons (gN 3) gsNil)))) (sSeq (sAsg (eRevT (eVar 1)) (gN 4)) (sSeq (sIf (fTest (eBin gEq (eVar 2) (eC (.str "row")))) (sRet (eVar 4)) sSkip) (sRet (eBin gAdd (eSl (eVar 4) (oSome (eUn negD (eC (.int 1)))) oNone) (eSl (eVar 4) oNone (oSome (eUn negD (eC (.int 1))))))))))
@[irreducible] def F_turned_widths : FF := mkF 2 5 f_turned_widths
def t_turned_widths (K : PySem.W.Frag) : TS := (tSeq (tAsg (tVar 0) (fun v σ H Q => gTup K 2 (gCons (gName 2) (gCons (gName 3) gNil)) v σ H Q ∨ gLst K 2 (gCons (gName 2) (gCons (gName 3) gNil)) v σ H Q)) (tSeq (tAsg (Xg.tRevT K (tVar 1)) (gName 4)) (tSeq (tIfS (tTest (tOp (rEqX K) (tVar 2) (tC (.str "row")))) (tRet (tVar 4)) tNext) (tRet (tOp (rAdd K) (tSl (rSlX K) (tVar 4) (tPart (tUn (rU fun i => .int (-i)) (tC (.int 1)))) tNoPart) (tSl (rSlX K) (tVar 4) tNoPart (tPart (tUn (rU fun i => .int (-i)) (tC (.int 1))))))))))
theorem s_turned_widths (K : PySem.W.Frag) : SndS K (t_turned_widths K) 0 f_turned_widths := (snds_seq (snds_asg (vs := [2, 3]) snd_var (sndg_tup (sndgs_cons (sndg_name (by decide)) (sndgs_cons (sndg_name (by decide)) sndgs_nil)) (gs_lenS gN_some (gs_lenS gN_some gs_len0)))) (snds_seq (snds_asg (vs := [4]) (snd_revT snd_var) (sndg_name (by decide))) (snds_seq (snds_if (sndt_test (snd_op ops_eq snd_var snd_str)) (snds_ret snd_var) snds_nil) (snds_ret (snd_op ops_add (snd_sl snd_var (sndo_some (snd_un us_neg snd_int)) sndo_none) (snd_sl snd_var sndo_none (sndo_some (snd_un us_neg snd_int))))))))
theorem m_turned_widths (K : PySem.W.Frag) : MonoF F_turned_widths := by
  unfold F_turned_widths
  exact mkF_mono (s_turned_widths K)
def f_contrary : FS := (sRet (eIf (fTest (eBin gEq (eVar 0) (eC (.str "forth")))) (eC (.str "back")) (eC (.str "forth"))))
@[irreducible] def F_contrary : FF := mkF 1 1 f_contrary
def t_contrary (K : PySem.W.Frag) : TS := (tRet (tIf (tTest (tOp (rEqX K) (tVar 0) (tC (.str "forth")))) (tC (.str "back")) (tC (.str "forth"))))
theorem s_contrary (K : PySem.W.Frag) : SndS K (t_contrary K) 0 f_contrary := (snds_ret (snd_if (sndt_test (snd_op ops_eq snd_var snd_str)) snd_str snd_str))
theorem m_contrary (K : PySem.W.Frag) : MonoF F_contrary := by
  unfold F_contrary
  exact mkF_mono (s_contrary K)
def f_bounds_at : FS := (sSeq (sOwn dNil 5) (sSeq (sIf (fTest (eBin gIsNot (eVar 4) (eC .none))) (sApp 5 (eVar 4)) sSkip) (sSeq (sIf (fOr (fTest (eBin gEq (eVar 0) (eC (.str "ring")))) (fTest (eBin (gC fun i j => decide (j < i)) (eVar 3) (eC (.int 0))))) (sApp 5 (eBin gIx (eVar 1) (eBin (gI fun i j => i - j) (eVar 3) (eC (.int 1))))) sSkip) (sSeq (sIf (fTest (eBin (gC fun i j => decide (i < j)) (eVar 3) (eCB (g1 lenD) (dCons (eVar 2) dNil)))) (sApp 5 (eBin gIx (eVar 2) (eVar 3))) sSkip) (sRetO 5)))))
@[irreducible] def F_bounds_at : FF := mkF 5 6 f_bounds_at
@[irreducible] def L_bounds_at : FFL := mkL 5 6 f_bounds_at
def t_bounds_at (K : PySem.W.Frag) : TS := (tSeq (tAsg (tLst tNil) (gName 5)) (tSeq (tIfS (tTest (tOp (fun x y H Q => y = .non ∧ Q (.bl (!decide (x = .non))) H) (tVar 4) (tC .non))) (tDrop (tBM K "list" rAppend (tVar 5) (tCons (tVar 4) tNil))) tNext) (tSeq (tIfS (tOr (tTest (tOp (rEqX K) (tVar 0) (tC (.str "ring")))) (tTest (tOp (rI0 fun i j => .bl (decide (j < i))) (tVar 3) (tC (.int 0))))) (tDrop (tBM K "list" rAppend (tVar 5) (tCons (tOp (rIx K) (tVar 1) (tOp (rI0 fun i j => .int (i - j)) (tVar 3) (tC (.int 1)))) tNil))) tNext) (tSeq (tIfS (tTest (tOp (rI0 fun i j => .bl (decide (i < j))) (tVar 3) (tCB (fun xs H Q => ∃ x n, xs = [x] ∧ LenV K x H n ∧ Q (.int n) H) (tCons (tVar 2) tNil)))) (tDrop (tBM K "list" rAppend (tVar 5) (tCons (tOp (rIx K) (tVar 2) (tVar 3)) tNil))) tNext) (tRet (tVar 5))))))
theorem s_bounds_at (K : PySem.W.Frag) : SndS K (t_bounds_at K) 0 f_bounds_at := (snds_seq (snds_own (sndl_lst sndd_nil (by decide))) (snds_seq (snds_if (sndt_test (snd_op ops_isnot snd_var snd_non)) (snds_app snd_var) snds_nil) (snds_seq (snds_if (sndt_or (sndt_test (snd_op ops_eq snd_var snd_str)) (sndt_test (snd_op ops_C snd_var snd_int))) (snds_app (snd_op ops_ix snd_var (snd_op ops_I snd_var snd_int))) snds_nil) (snds_seq (snds_if (sndt_test (snd_op ops_C snd_var (snd_cb cs_len (sndd_cons snd_var sndd_nil)))) (snds_app (snd_op ops_ix snd_var snd_var)) snds_nil) snds_retO))))
theorem m_bounds_at (K : PySem.W.Frag) : MonoF F_bounds_at := by
  unfold F_bounds_at
  exact mkF_mono (s_bounds_at K)
theorem mL_bounds_at (K : PySem.W.Frag) : MonoL L_bounds_at := by
  unfold L_bounds_at
  exact mkL_mono (s_bounds_at K)
def f_moved : FS := (sSeq (sAsg (eVar 0) (gT (gsCons (gN 4) (gsCons (gN 5) gsNil)))) (sSeq (sAsg (eTup (dCons (eVar 2) (dCons (eCall F_lacking (aCons (eVar 0) (aCons (eVar 2) aNil))) dNil))) (gT (gsCons (gN 6) (gsCons (gN 7) gsNil)))) (sSeq (sIf (fTest (eBin gEq (eVar 3) (eC (.str "back")))) (sAsg (eTup (dCons (eVar 7) (dCons (eVar 6) dNil))) (gT (gsCons (gN 6) (gsCons (gN 7) gsNil)))) sSkip) (sRet (eUn tupD (eL (fComp 1000000 (fEnum (eVar 1)) [8, 9] (gT (gsCons (gN 8) (gsCons (gN 9) gsNil))) fYes (eCB minD (dCons (eCall F_bounds_at (aCons (eVar 4) (aCons (eVar 6) (aCons (eVar 7) (aCons (eVar 8) (aCons (eVar 9) aNil)))))) dNil)))))))))
@[irreducible] def F_moved : FF := mkF 4 10 f_moved
def t_moved (K : PySem.W.Frag) : TS := (tSeq (tAsg (tVar 0) (fun v σ H Q => gTup K 2 (gCons (gName 4) (gCons (gName 5) gNil)) v σ H Q ∨ gLst K 2 (gCons (gName 4) (gCons (gName 5) gNil)) v σ H Q)) (tSeq (tAsg (tTup (tCons (tVar 2) (tCons (tCallG (spD K 0 F_lacking) (tCons (tVar 0) (tCons (tVar 2) tNil))) tNil))) (fun v σ H Q => gTup K 2 (gCons (gName 6) (gCons (gName 7) gNil)) v σ H Q ∨ gLst K 2 (gCons (gName 6) (gCons (gName 7) gNil)) v σ H Q)) (tSeq (tIfS (tTest (tOp (rEqX K) (tVar 3) (tC (.str "back")))) (tAsg (tTup (tCons (tVar 7) (tCons (tVar 6) tNil))) (fun v σ H Q => gTup K 2 (gCons (gName 6) (gCons (gName 7) gNil)) v σ H Q ∨ gLst K 2 (gCons (gName 6) (gCons (gName 7) gNil)) v σ H Q)) tNext) (tRet (tThen (tLc (Pw.iEnumX K (tCons (tVar 1) tNil)) (fun v σ H Q => gTup K 2 (gCons (gName 8) (gCons (gName 9) gNil)) v σ H Q ∨ gLst K 2 (gCons (gName 8) (gCons (gName 9) gNil)) v σ H Q) tYes (tCB (rMin K) (tCons (tCallG (spD K 0 F_bounds_at) (tCons (tVar 4) (tCons (tVar 6) (tCons (tVar 7) (tCons (tVar 8) (tCons (tVar 9) tNil)))))) tNil)) [8, 9]) (kTup K))))))
theorem s_moved (K : PySem.W.Frag) : SndS K (t_moved K) 0 f_moved := (snds_seq (snds_asg (vs := [4, 5]) snd_var (sndg_tup (sndgs_cons (sndg_name (by decide)) (sndgs_cons (sndg_name (by decide)) sndgs_nil)) (gs_lenS gN_some (gs_lenS gN_some gs_len0)))) (snds_seq (snds_asg (vs := [6, 7]) (snd_tup (sndd_cons snd_var (sndd_cons (snd_call (m_lacking K) (snda_cons snd_var (snda_cons snd_var snda_nil))) sndd_nil)) (by decide)) (sndg_tup (sndgs_cons (sndg_name (by decide)) (sndgs_cons (sndg_name (by decide)) sndgs_nil)) (gs_lenS gN_some (gs_lenS gN_some gs_len0)))) (snds_seq (snds_if (sndt_test (snd_op ops_eq snd_var snd_str)) (snds_asg (vs := [6, 7]) (snd_tup (sndd_cons snd_var (sndd_cons snd_var sndd_nil)) (by decide)) (sndg_tup (sndgs_cons (sndg_name (by decide)) (sndgs_cons (sndg_name (by decide)) sndgs_nil)) (gs_lenS gN_some (gs_lenS gN_some gs_len0)))) snds_nil) (snds_ret (snd_tupOf (SndL.d (sndl_comp (N := 1000000) (by decide) (sndi_enum (Snd.v snd_var)) (sndg_tup (sndgs_cons (sndg_name (by decide)) (sndgs_cons (sndg_name (by decide)) sndgs_nil)) (gs_lenS gN_some (gs_lenS gN_some gs_len0))) sndt_yes (snd_cb cs_min (sndd_cons (snd_call (m_bounds_at K) (snda_cons snd_var (snda_cons snd_var (snda_cons snd_var (snda_cons snd_var (snda_cons snd_var snda_nil)))))) sndd_nil)))))))))
theorem m_moved (K : PySem.W.Frag) : MonoF F_moved := by
  unfold F_moved
  exact mkF_mono (s_moved K)
def f_beat_counts : FS := (sSeq (sAsg (eCall F_moved (aCons (eVar 0) (aCons (eVar 1) (aCons (eVar 2) (aCons (eVar 3) aNil))))) (gN 4)) (sRet (eIf (fTest (eBin gEq (eVar 3) (eC (.str "forth")))) (eVar 4) (eUn tupD (eL (fComp 1000000 (fIt (eVar 4)) [5] (gN 5) fYes (eUn negD (eVar 5))))))))
@[irreducible] def F_beat_counts : FF := mkF 4 6 f_beat_counts
def t_beat_counts (K : PySem.W.Frag) : TS := (tSeq (tAsg (tCallG (spD K 0 F_moved) (tCons (tVar 0) (tCons (tVar 1) (tCons (tVar 2) (tCons (tVar 3) tNil))))) (gName 4)) (tRet (tIf (tTest (tOp (rEqX K) (tVar 3) (tC (.str "forth")))) (tVar 4) (tThen (tLc (Pw.iSeq K (tVar 4)) (gName 5) tYes (tUn (rU fun i => .int (-i)) (tVar 5)) [5]) (kTup K)))))
theorem s_beat_counts (K : PySem.W.Frag) : SndS K (t_beat_counts K) 0 f_beat_counts := (snds_seq (snds_asg (vs := [4]) (snd_call (m_moved K) (snda_cons snd_var (snda_cons snd_var (snda_cons snd_var (snda_cons snd_var snda_nil))))) (sndg_name (by decide))) (snds_ret (snd_if (sndt_test (snd_op ops_eq snd_var snd_str)) snd_var (snd_tupOf (SndL.d (sndl_comp (N := 1000000) (by decide) (sndi_seq (Snd.v snd_var)) (sndg_name (by decide)) sndt_yes (snd_un us_neg snd_var)))))))
theorem m_beat_counts (K : PySem.W.Frag) : MonoF F_beat_counts := by
  unfold F_beat_counts
  exact mkF_mono (s_beat_counts K)
def f_led_to : FS := (sSeq (sAsg (eCB (g1 lenD) (dCons (eVar 1) dNil)) (gN 2)) (sRet (eUn tupD (eL (fComp 1000000 (fEnum (eVar 0)) [3, 4] (gT (gsCons (gN 3) (gsCons (gN 4) gsNil))) fYes (eBin (gI fun i j => i - j) (eBin gAdd (eVar 4) (eBin gIx (eVar 1) (eVar 3))) (eBin gIx (eVar 1) (eBin (gIc (fun _ j => 0 < j) fun i j => i % j) (eBin gAdd (eVar 3) (eC (.int 1))) (eVar 2)))))))))
@[irreducible] def F_led_to : FF := mkF 2 5 f_led_to
def t_led_to (K : PySem.W.Frag) : TS := (tSeq (tAsg (tCB (fun xs H Q => ∃ x n, xs = [x] ∧ LenV K x H n ∧ Q (.int n) H) (tCons (tVar 1) tNil)) (gName 2)) (tRet (tThen (tLc (Pw.iEnumX K (tCons (tVar 0) tNil)) (fun v σ H Q => gTup K 2 (gCons (gName 3) (gCons (gName 4) gNil)) v σ H Q ∨ gLst K 2 (gCons (gName 3) (gCons (gName 4) gNil)) v σ H Q) tYes (tOp (rI0 fun i j => .int (i - j)) (tOp (rAdd K) (tVar 4) (tOp (rIx K) (tVar 1) (tVar 3))) (tOp (rIx K) (tVar 1) (tOp (rI (fun _ j => 0 < j) fun i j => .int (i % j)) (tOp (rAdd K) (tVar 3) (tC (.int 1))) (tVar 2)))) [3, 4]) (kTup K))))
theorem s_led_to (K : PySem.W.Frag) : SndS K (t_led_to K) 0 f_led_to := (snds_seq (snds_asg (vs := [2]) (snd_cb cs_len (sndd_cons snd_var sndd_nil)) (sndg_name (by decide))) (snds_ret (snd_tupOf (SndL.d (sndl_comp (N := 1000000) (by decide) (sndi_enum (Snd.v snd_var)) (sndg_tup (sndgs_cons (sndg_name (by decide)) (sndgs_cons (sndg_name (by decide)) sndgs_nil)) (gs_lenS gN_some (gs_lenS gN_some gs_len0))) sndt_yes (snd_op ops_I (snd_op ops_add snd_var (snd_op ops_ix snd_var snd_var)) (snd_op ops_ix snd_var (snd_op ops_Ic (snd_op ops_add snd_var snd_int) snd_var))))))))
theorem m_led_to (K : PySem.W.Frag) : MonoF F_led_to := by
  unfold F_led_to
  exact mkF_mono (s_led_to K)
def f_added : FS := (sRet (eUn tupD (eL (fComp 1000000 (fZip (eVar 0) (eVar 1)) [2, 3] (gT (gsCons (gN 2) (gsCons (gN 3) gsNil))) fYes (eBin gAdd (eVar 2) (eVar 3))))))
@[irreducible] def F_added : FF := mkF 2 4 f_added
def t_added (K : PySem.W.Frag) : TS := (tRet (tThen (tLc (Pw.iZipX K (tCons (tVar 0) (tCons (tVar 1) tNil))) (fun v σ H Q => gTup K 2 (gCons (gName 2) (gCons (gName 3) gNil)) v σ H Q ∨ gLst K 2 (gCons (gName 2) (gCons (gName 3) gNil)) v σ H Q) tYes (tOp (rAdd K) (tVar 2) (tVar 3)) [2, 3]) (kTup K)))
theorem s_added (K : PySem.W.Frag) : SndS K (t_added K) 0 f_added := (snds_ret (snd_tupOf (SndL.d (sndl_comp (N := 1000000) (by decide) (sndi_zip (Snd.v snd_var) (Snd.v snd_var)) (sndg_tup (sndgs_cons (sndg_name (by decide)) (sndgs_cons (sndg_name (by decide)) sndgs_nil)) (gs_lenS gN_some (gs_lenS gN_some gs_len0))) sndt_yes (snd_op ops_add snd_var snd_var)))))
theorem m_added (K : PySem.W.Frag) : MonoF F_added := by
  unfold F_added
  exact mkF_mono (s_added K)
def f_beat : FS := (sRet (eCall F_led_to (aCons (eVar 2) (aCons (eCall F_beat_counts (aCons (eVar 0) (aCons (eVar 1) (aCons (eVar 2) (aCons (eVar 3) aNil))))) aNil))))
@[irreducible] def F_beat : FF := mkF 4 4 f_beat
def t_beat (K : PySem.W.Frag) : TS := (tRet (tCallG (spD K 0 F_led_to) (tCons (tVar 2) (tCons (tCallG (spD K 0 F_beat_counts) (tCons (tVar 0) (tCons (tVar 1) (tCons (tVar 2) (tCons (tVar 3) tNil))))) tNil))))
theorem s_beat (K : PySem.W.Frag) : SndS K (t_beat K) 0 f_beat := (snds_ret (snd_call (m_led_to K) (snda_cons snd_var (snda_cons (snd_call (m_beat_counts K) (snda_cons snd_var (snda_cons snd_var (snda_cons snd_var (snda_cons snd_var snda_nil))))) snda_nil))))
theorem m_beat (K : PySem.W.Frag) : MonoF F_beat := by
  unfold F_beat
  exact mkF_mono (s_beat K)
def f_beats : FS := (sSeq (sOwn (dCons (eUn tupD (eVar 2)) dNil) 5) (sSeq (sWhile (fTest (eBin (gC fun i j => decide (i ≤ j)) (eCB (g1 lenD) (dCons (eVarV 5) dNil)) (eVar 4))) (sApp 5 (eCall F_beat (aCons (eVar 0) (aCons (eVar 1) (aCons (eBin gIx (eVarV 5) (eUn negD (eC (.int 1)))) (aCons (eVar 3) aNil))))))) (sRetO 5)))
@[irreducible] def F_beats : FF := mkF 5 6 f_beats
@[irreducible] def L_beats : FFL := mkL 5 6 f_beats
def t_beats (K : PySem.W.Frag) : TS := (tSeq (tAsg (tLst (tCons (tThen (tVar 2) (kTup K)) tNil)) (gName 5)) (tSeq (tWhile (tTest (tOp (rI0 fun i j => .bl (decide (i ≤ j))) (tCB (fun xs H Q => ∃ x n, xs = [x] ∧ LenV K x H n ∧ Q (.int n) H) (tCons (tVar 5) tNil)) (tVar 4))) (tDrop (tBM K "list" rAppend (tVar 5) (tCons (tCallG (spD K 0 F_beat) (tCons (tVar 0) (tCons (tVar 1) (tCons (tOp (rIx K) (tVar 5) (tUn (rU fun i => .int (-i)) (tC (.int 1)))) (tCons (tVar 3) tNil))))) tNil)))) (tRet (tVar 5))))
theorem s_beats (K : PySem.W.Frag) : SndS K (t_beats K) 0 f_beats := (snds_seq (snds_own (sndl_lst (sndd_cons (snd_tupOf snd_var) sndd_nil) (by decide))) (snds_seq (snds_while (sndt_test (snd_op ops_C (snd_cb cs_len (sndd_cons sndV_var sndd_nil)) snd_var)) (snds_app (snd_call (m_beat K) (snda_cons snd_var (snda_cons snd_var (snda_cons (snd_op ops_ix sndV_var (snd_un us_neg snd_int)) (snda_cons snd_var snda_nil))))))) snds_retO))
theorem m_beats (K : PySem.W.Frag) : MonoF F_beats := by
  unfold F_beats
  exact mkF_mono (s_beats K)
theorem mL_beats (K : PySem.W.Frag) : MonoL L_beats := by
  unfold L_beats
  exact mkL_mono (s_beats K)
def f_led : FS := (sSeq (sAsg (eUn tupD (eVar 1)) (gN 3)) (sSeq (sAsg (eBin gMul (eTup (dCons (eC (.int 0)) dNil)) (eCall F_gates (aCons (eVar 0) aNil))) (gN 4)) (sSeq (sFor 1000000 (fIt (eVar 2)) (gT (gsCons (gN 5) (gsCons (gN 6) gsNil))) (sSeq (sAsg (eCall F_beat_counts (aCons (eVar 0) (aCons (eVar 6) (aCons (eVar 3) (aCons (eVar 5) aNil))))) (gN 7)) (sSeq (sAsg (eCall F_led_to (aCons (eVar 3) (aCons (eVar 7) aNil))) (gN 3)) (sAsg (eCall F_added (aCons (eVar 4) (aCons (eVar 7) aNil))) (gN 4))))) (sRet (eTup (dCons (eVar 3) (dCons (eVar 4) dNil)))))))
@[irreducible] def F_led : FF := mkF 3 8 f_led
def t_led (K : PySem.W.Frag) : TS := (tSeq (tAsg (tThen (tVar 1) (kTup K)) (gName 3)) (tSeq (tAsg (tOp (rMul K) (tTup (tCons (tC (.int 0)) tNil)) (tCallG (spD K 0 F_gates) (tCons (tVar 0) tNil))) (gName 4)) (tSeq (tFor (Pw.iSeq K (tVar 2)) (fun v σ H Q => gTup K 2 (gCons (gName 5) (gCons (gName 6) gNil)) v σ H Q ∨ gLst K 2 (gCons (gName 5) (gCons (gName 6) gNil)) v σ H Q) (tSeq (tAsg (tCallG (spD K 0 F_beat_counts) (tCons (tVar 0) (tCons (tVar 6) (tCons (tVar 3) (tCons (tVar 5) tNil))))) (gName 7)) (tSeq (tAsg (tCallG (spD K 0 F_led_to) (tCons (tVar 3) (tCons (tVar 7) tNil))) (gName 3)) (tAsg (tCallG (spD K 0 F_added) (tCons (tVar 4) (tCons (tVar 7) tNil))) (gName 4))))) (tRet (tTup (tCons (tVar 3) (tCons (tVar 4) tNil)))))))
theorem s_led (K : PySem.W.Frag) : SndS K (t_led K) 0 f_led := (snds_seq (snds_asg (vs := [3]) (snd_tupOf snd_var) (sndg_name (by decide))) (snds_seq (snds_asg (vs := [4]) (snd_op ops_mul (snd_tup (sndd_cons snd_int sndd_nil) (by decide)) (snd_call (m_gates K) (snda_cons snd_var snda_nil))) (sndg_name (by decide))) (snds_seq (snds_for (vs := [5, 6]) (N := 1000000) (sndi_seq snd_var) (sndg_tup (sndgs_cons (sndg_name (by decide)) (sndgs_cons (sndg_name (by decide)) sndgs_nil)) (gs_lenS gN_some (gs_lenS gN_some gs_len0))) (snds_seq (snds_asg (vs := [7]) (snd_call (m_beat_counts K) (snda_cons snd_var (snda_cons snd_var (snda_cons snd_var (snda_cons snd_var snda_nil))))) (sndg_name (by decide))) (snds_seq (snds_asg (vs := [3]) (snd_call (m_led_to K) (snda_cons snd_var (snda_cons snd_var snda_nil))) (sndg_name (by decide))) (snds_asg (vs := [4]) (snd_call (m_added K) (snda_cons snd_var (snda_cons snd_var snda_nil))) (sndg_name (by decide)))))) (snds_ret (snd_tup (sndd_cons snd_var (sndd_cons snd_var sndd_nil)) (by decide))))))
theorem m_led (K : PySem.W.Frag) : MonoF F_led := by
  unfold F_led
  exact mkF_mono (s_led K)
def f_taken_back : FS := (sRetL (fComp 1000000 (fRev (eVar 0)) [1, 2] (gT (gsCons (gN 1) (gsCons (gN 2) gsNil))) fYes (eTup (dCons (eCall F_contrary (aCons (eVar 1) aNil)) (dCons (eUn tupD (eVar 2)) dNil)))))
@[irreducible] def F_taken_back : FF := mkF 1 3 f_taken_back
@[irreducible] def L_taken_back : FFL := mkL 1 3 f_taken_back
def t_taken_back (K : PySem.W.Frag) : TS := (tRet (tLc (RT.iRevA K (tVar 0)) (fun v σ H Q => gTup K 2 (gCons (gName 1) (gCons (gName 2) gNil)) v σ H Q ∨ gLst K 2 (gCons (gName 1) (gCons (gName 2) gNil)) v σ H Q) tYes (tTup (tCons (tCallG (spD K 0 F_contrary) (tCons (tVar 1) tNil)) (tCons (tThen (tVar 2) (kTup K)) tNil))) [1, 2]))
theorem s_taken_back (K : PySem.W.Frag) : SndS K (t_taken_back K) 0 f_taken_back := (snds_retL (sndl_comp (N := 1000000) (by decide) (sndi_rev (Snd.v snd_var)) (sndg_tup (sndgs_cons (sndg_name (by decide)) (sndgs_cons (sndg_name (by decide)) sndgs_nil)) (gs_lenS gN_some (gs_lenS gN_some gs_len0))) sndt_yes (snd_tup (sndd_cons (snd_call (m_contrary K) (snda_cons snd_var snda_nil)) (sndd_cons (snd_tupOf snd_var) sndd_nil)) (by decide))))
theorem m_taken_back (K : PySem.W.Frag) : MonoF F_taken_back := by
  unfold F_taken_back
  exact mkF_mono (s_taken_back K)
theorem mL_taken_back (K : PySem.W.Frag) : MonoL L_taken_back := by
  unfold L_taken_back
  exact mkL_mono (s_taken_back K)
end Kd
namespace Kd
open PySem PySem.Spec PyProof.Rows L2 Xg Dv
/-! comprehensions, read forwards -/
theorem comp_of {g : FG} {te : FE} {ρ : List Sl} {Q : List PyData → Prop} (h : PyData → PyData) : ∀ (ds acc : List PyData), (∀ d ∈ ds, ∀ P : PyData → Prop, P (h d) → g d ρ fun ρ' => te ρ' P) → Q (acc ++ ds.map h) → compD g fYes te ρ ds acc Q
  | [], acc, _, q => by
    rw [List.map_nil, List.append_nil] at q
    exact q
  | d :: ds, acc, hs, q => hs d (List.mem_cons_self ..) (fun y => compD g fYes te ρ ds (acc ++ [y]) Q) (comp_of h ds _ (fun e he => hs e (List.mem_cons_of_mem _ he)) (by
    rw [List.append_assoc]
    exact q))
/-- by places: what part i comes to -/
theorem comp_at {g : FG} {te : FE} {ρ : List Sl} {Q : List PyData → Prop} (h : Nat → PyData) : ∀ (ds acc : List PyData) (k : Nat), (∀ i d, ds[i]? = some d → ∀ P : PyData → Prop, P (h (k + i)) → g d ρ fun ρ' => te ρ' P) → Q (acc ++ (List.range' k ds.length).map h) → compD g fYes te ρ ds acc Q
  | [], acc, k, _, q => by
    rw [List.length_nil, List.range'_zero, List.map_nil, List.append_nil] at q
    exact q
  | d :: ds, acc, k, hs, q => hs 0 d rfl (fun y => compD g fYes te ρ ds (acc ++ [y]) Q) (comp_at h ds _ (k + 1) (fun i e he P hp => hs (i + 1) e (by simpa using he) P (by rw [show k + (i + 1) = k + 1 + i by omega]; exact hp)) (by
    rw [List.append_assoc]
    rw [List.length_cons, List.range'_succ, List.map_cons] at q
    exact q))
/-- n numbers by a rule -/
def vec (n : Nat) (f : Nat → Int) : List Int := (List.range n).map f
theorem vec_len {n : Nat} {f : Nat → Int} : (vec n f).length = n := by unfold vec; rw [List.length_map, List.length_range]
theorem vec_at {n i : Nat} {f : Nat → Int} (h : i < n) : (vec n f)[i]? = some (f i) := by
  unfold vec
  rw [List.getElem?_map, List.getElem?_range h]
  rfl
theorem vec_get {n i : Nat} {f : Nat → Int} (h : i < n) : (vec n f).getD i 0 = f i := by
  rw [List.getD_eq_getElem?_getD, vec_at h]
  rfl
theorem vec_ext {n : Nat} {f g : Nat → Int} (h : ∀ i, i < n → f i = g i) : vec n f = vec n g := by
  unfold vec
  exact List.map_congr_left fun i hi => h i (List.mem_range.mp hi)
theorem list_vec (l : List Int) : l = vec l.length fun i => l.getD i 0 := by
  apply List.ext_getElem?
  intro i
  by_cases h : i < l.length
  · rw [vec_at h, List.getD_eq_getElem?_getD, List.getElem?_eq_getElem h]
    rfl
  · rw [List.getElem?_eq_none (by omega), List.getElem?_eq_none (by rw [vec_len]; omega)]
theorem eq_vec {l : List Int} {n : Nat} {f : Nat → Int} (hl : l.length = n) (h : ∀ i, i < n → l.getD i 0 = f i) : l = vec n f := by
  rw [list_vec l, hl]
  exact vec_ext h
def sqd (k : Bool) (ds : List PyData) : PyData := match k with
  | true => .tuple ds
  | false => .list ds
abbrev iq (k : Bool) (ns : List Int) : PyData := sqd k (ns.map PyData.int)
def oI : Option Int → PyData
  | none => .none
  | some i => .int i
def fm (row : Bool) : Str := if row = true then "row" else "ring"
def wy (forth : Bool) : Str := if forth = true then "forth" else "back"
def ln (k row : Bool) (rooms : List Int) : PyData := sqd k [.str (fm row), iq k rooms]
theorem fm_row {row : Bool} : decide (fm row = "row") = row := by cases row <;> decide
theorem fm_ring {row : Bool} : decide (fm row = "ring") = !row := by cases row <;> decide
theorem wy_forth {b : Bool} : decide (wy b = "forth") = b := by cases b <;> decide
theorem wy_back {b : Bool} : decide (wy b = "back") = !b := by cases b <;> decide
theorem len_i (ns : List Int) : (ns.map PyData.int).length = ns.length := List.length_map ..
def gts (row : Bool) (n : Nat) : Nat := if row = true then n + 1 else n
theorem comp_vec {g : FG} {te : FE} {ρ : List Sl} {Q : List PyData → Prop} {ds : List PyData} {n : Nat} (f : Nat → Int) (hn : ds.length = n) (hs : ∀ i d, ds[i]? = some d → ∀ P : PyData → Prop, P (.int (f i)) → g d ρ fun ρ' => te ρ' P) (q : Q ((vec n f).map PyData.int)) : compD g fYes te ρ ds [] Q := by
  refine comp_at (fun i => .int (f i)) ds [] 0 (fun i d hd P hp => hs i d hd P (by rw [Nat.zero_add] at hp; exact hp)) ?_
  rw [hn, List.nil_append, ← List.range_eq_range']
  unfold vec at q
  rw [List.map_map] at q
  exact q
theorem map_at {ns : List Int} {i : Nat} {d : PyData} (h : (ns.map PyData.int)[i]? = some d) : i < ns.length ∧ d = .int (ns.getD i 0) := by
  rw [List.getElem?_map] at h
  cases e : ns[i]? with
  | none => rw [e] at h; cases h
  | some z =>
    rw [e] at h
    have h : PyData.int z = d := Option.some.inj h
    refine ⟨(List.getElem?_eq_some_iff.mp e).1, ?_⟩
    rw [List.getD_eq_getElem?_getD, e, ← h]
    rfl
theorem zip_at {a b : List PyData} {i : Nat} {d : PyData} (h : (zipD a b)[i]? = some d) : ∃ x y, a[i]? = some x ∧ b[i]? = some y ∧ d = .tuple [x, y] := by
  unfold zipD at h
  rw [List.getElem?_zipWith] at h
  cases ea : a[i]? with
  | none => rw [ea] at h; cases h
  | some x =>
    cases eb : b[i]? with
    | none => rw [ea, eb] at h; cases h
    | some y =>
      rw [ea, eb] at h
      exact ⟨x, y, rfl, rfl, (Option.some.inj h).symm⟩
theorem zip_len {a b : List PyData} {n : Nat} (ha : a.length = n) (hb : b.length = n) : (zipD a b).length = n := by
  unfold zipD
  rw [List.length_zipWith, ha, hb, Nat.min_self]
theorem enum_at {ds : List PyData} {i : Nat} {d : PyData} (h : (enumD 0 ds)[i]? = some d) : ∃ x, ds[i]? = some x ∧ d = .tuple [.int (i : Nat), x] := by
  rw [enumD_at, Nat.zero_add] at h
  cases e : ds[i]? with
  | none => rw [e] at h; cases h
  | some x =>
    rw [e] at h
    exact ⟨x, rfl, (Option.some.inj h).symm⟩
/-! the program's lines -/
theorem gates_of {k row : Bool} {rooms : List Int} {Q : PyData → Prop} (q : Q (.int (gts row rooms.length : Nat))) : F_gates [.dt (ln k row rooms)] Q := by
  have e : ∀ (P : PyData → Prop), P (.int ((gts row rooms.length : Nat) : Int)) → (if decide (fm row = "row") = true then P (.int (((rooms.map PyData.int).length : Nat) + 1)) else P (.int ((rooms.map PyData.int).length : Nat))) := fun P hp => by
    rw [fm_row, len_i]
    cases row with
    | true => exact hp
    | false => exact hp
  unfold F_gates
  cases k with
  | true => exact ⟨rfl, e Q q⟩
  | false => exact ⟨rfl, e Q q⟩
theorem lacking_of {k ks row : Bool} {rooms hs : List Int} {Q : PyData → Prop} (hk : ks = true ∨ k = false) (hl : hs.length = rooms.length) (hz : hs.length ≤ 1000000) (q : Q (iq true (vec rooms.length fun i => rooms.getD i 0 - hs.getD i 0))) : F_lacking [.dt (ln k row rooms), .dt (iq ks hs)] Q := by
  have main : ∀ ρ, (zipD (hs.map PyData.int) (rooms.map PyData.int)).length ≤ 1000000 ∧ compD (gT (gsCons (gN 4) (gsCons (gN 5) gsNil))) fYes (eBin (gI fun i j => i - j) (eVar 5) (eVar 4)) [.dt (ln k row rooms), .dt (iq ks hs), .dt (.str (fm row)), .dt ρ, .no, .no] (zipD (hs.map PyData.int) (rooms.map PyData.int)) [] (fun ds => Q (.tuple ds)) := fun ρ => by
    have lz : (zipD (hs.map PyData.int) (rooms.map PyData.int)).length = rooms.length := zip_len (by rw [len_i, hl]) (len_i _)
    refine ⟨by omega, comp_vec _ lz (fun i d hd P hp => ?_) q⟩
    obtain ⟨x, y, e1, e2, rfl⟩ := zip_at hd
    obtain ⟨_, rfl⟩ := map_at e1
    obtain ⟨_, rfl⟩ := map_at e2
    exact hp
  unfold F_lacking
  cases k with
  | true =>
    cases ks with
    | true => exact ⟨rfl, main _⟩
    | false => exact absurd hk (by simp)
  | false =>
    cases ks with
    | true => exact ⟨rfl, main _⟩
    | false => exact ⟨rfl, main _⟩
theorem contrary_of {b : Bool} {Q : PyData → Prop} (q : Q (.str (wy (!b)))) : F_contrary [.dt (.str (wy b))] Q := by
  unfold F_contrary
  refine ⟨rfl, ?_⟩
  show if decide (wy b = "forth") = true then Q (.str "back") else Q (.str "forth")
  rw [wy_forth]
  cases b with
  | true => exact q
  | false => exact q
/-! the least of some -/
def mn : List Int → Int
  | [] => 0
  | [x] => x
  | x :: y :: r => if x ≤ mn (y :: r) then x else mn (y :: r)
theorem mn_mem : ∀ {l : List Int}, l ≠ [] → mn l ∈ l
  | [x], _ => by simp [mn]
  | x :: y :: r, _ => by
    have h := mn_mem (l := y :: r) (by simp)
    rw [mn]
    split
    · exact List.mem_cons_self ..
    · exact List.mem_cons_of_mem _ h
theorem mn_le : ∀ {l : List Int} {y : Int}, y ∈ l → mn l ≤ y
  | [x], y, h => by
    rw [List.mem_singleton.mp h]
    exact Int.le_refl _
  | x :: z :: r, y, h => by
    rw [mn]
    rcases List.mem_cons.mp h with rfl | h
    · split <;> omega
    · have g := mn_le (l := z :: r) h
      split <;> omega
theorem mn_is {l : List Int} {m : Int} (h : m ∈ l) (g : ∀ y ∈ l, m ≤ y) : m = mn l := Int.le_antisymm (g _ (mn_mem fun z => by rw [z] at h; cases h)) (mn_le h)
theorem min_of {l : List Int} {Q : PyData → Prop} (h : l ≠ []) (q : Q (.int (mn l))) : minD [.list (l.map PyData.int)] Q :=
  ⟨l, rfl, List.length_pos_iff.mpr h, fun m h1 h2 => by rw [mn_is h1 h2]; exact q⟩
/-- what bounds how many go by gate j -/
def prev (be : List Int) (j : Nat) : Int := if j = 0 then be.getD (be.length - 1) 0 else be.getD (j - 1) 0
def bnd (ring : Bool) (be ah : List Int) (j : Nat) (w : Option Int) : List Int := w.toList ++ (if (ring || decide (0 < j)) = true then [prev be j] else []) ++ (if j < ah.length then [ah.getD j 0] else [])
theorem atI_i {ns : List Int} {i : Nat} (h : i < ns.length) : L2.atI (ns.map PyData.int) ((i : Nat) : Int) = some (.int (ns.getD i 0)) := atI_nat (by
  rw [List.getElem?_map, List.getElem?_eq_getElem h, List.getD_eq_getElem?_getD, List.getElem?_eq_getElem h]
  rfl)
theorem atI_prev {ns : List Int} {j : Nat} (h0 : 0 < ns.length) (h : j ≤ ns.length) : L2.atI (ns.map PyData.int) ((j : Nat) - 1 : Int) = some (.int (prev ns j)) := by
  unfold prev
  by_cases z : j = 0
  · subst z
    rw [if_pos rfl]
    have e : ((0 : Nat) : Int) - 1 = -1 := by omega
    rw [e]
    have hne : ns ≠ [] := List.length_pos_iff.mp h0
    have e1 : ns.getD (ns.length - 1) 0 = ns.getLast hne := by
      rw [List.getLast_eq_getElem, List.getD_eq_getElem?_getD, List.getElem?_eq_getElem (show ns.length - 1 < ns.length by omega)]
      rfl
    have e2 : ns.map PyData.int = ns.dropLast.map PyData.int ++ [.int (ns.getD (ns.length - 1) 0)] := by
      rw [e1]
      have z := congrArg (List.map PyData.int) (List.dropLast_concat_getLast hne)
      rw [List.map_append] at z
      exact z.symm
    rw [e2]
    exact atI_last _ _
  · rw [if_neg z, show ((j : Nat) : Int) - 1 = ((j - 1 : Nat) : Int) by omega]
    exact atI_i (by omega)
theorem bounds_of {kb ka row : Bool} {be ah : List Int} {j : Nat} {w : Option Int} {Q : PyData → Prop} (h0 : 0 < be.length) (hj : j ≤ be.length) (q : Q (.list ((bnd (!row) be ah j w).map PyData.int))) :
    F_bounds_at [.dt (.str (fm row)), .dt (iq kb be), .dt (iq ka ah), .dt (.int (j : Nat)), .dt (oI w)] Q := by
  have ix1 : ∀ P : PyData → Prop, P (.int (prev be j)) → gIx (iq kb be) (.int ((j : Nat) - 1 : Int)) P := fun P hp => by
    cases kb with
    | true =>
      show atQ (L2.atI _ _) P
      rw [atI_prev h0 hj]
      exact hp
    | false =>
      show atQ (L2.atI _ _) P
      rw [atI_prev h0 hj]
      exact hp
  have ix2 : ∀ P : PyData → Prop, j < ah.length → P (.int (ah.getD j 0)) → gIx (iq ka ah) (.int (j : Nat)) P := fun P hl hp => by
    cases ka with
    | true =>
      show atQ (L2.atI _ _) P
      rw [atI_i hl]
      exact hp
    | false =>
      show atQ (L2.atI _ _) P
      rw [atI_i hl]
      exact hp
  have ln2 : ∀ P : PyData → Prop, P (.int (ah.length : Nat)) → lenD (iq ka ah) P := fun P hp => by
    cases ka with
    | true => show P (.int ((ah.map PyData.int).length : Nat)); rw [len_i]; exact hp
    | false => show P (.int ((ah.map PyData.int).length : Nat)); rw [len_i]; exact hp
  have s3 : ∀ (acc : List Int), acc.length < 1000 → Q (.list ((acc ++ if j < ah.length then [ah.getD j 0] else []).map PyData.int)) →
      sSeq (sIf (fTest (eBin (gC fun i j => decide (i < j)) (eVar 3) (eCB (g1 lenD) (dCons (eVar 2) dNil)))) (sApp 5 (eBin gIx (eVar 2) (eVar 3))) sSkip) (sRetO 5)
        [.dt (.str (fm row)), .dt (iq kb be), .dt (iq ka ah), .dt (.int (j : Nat)), .dt (oI w), .own (acc.map PyData.int)] { nx := fun _ => Q .none, rt := Q, rl := fun ds => Q (.list ds) } := fun acc ha hq => by
    refine ln2 _ ?_
    show if decide ((j : Int) < (ah.length : Nat)) = true then _ else _
    by_cases z : j < ah.length
    · rw [if_pos z] at hq
      rw [if_pos (decide_eq_true (by omega))]
      refine ix2 _ z ⟨by rw [len_i]; omega, ?_⟩
      rw [List.map_append] at hq
      exact hq
    · rw [if_neg z, List.append_nil] at hq
      rw [if_neg (by rw [decide_eq_true_eq]; omega)]
      exact hq
  have s2 : ∀ (acc : List Int), acc.length < 900 → Q (.list (((acc ++ if ((!row) || decide (0 < j)) = true then [prev be j] else []) ++ if j < ah.length then [ah.getD j 0] else []).map PyData.int)) →
      sSeq (sIf (fOr (fTest (eBin gEq (eVar 0) (eC (.str "ring")))) (fTest (eBin (gC fun i j => decide (j < i)) (eVar 3) (eC (.int 0))))) (sApp 5 (eBin gIx (eVar 1) (eBin (gI fun i j => i - j) (eVar 3) (eC (.int 1))))) sSkip)
        (sSeq (sIf (fTest (eBin (gC fun i j => decide (i < j)) (eVar 3) (eCB (g1 lenD) (dCons (eVar 2) dNil)))) (sApp 5 (eBin gIx (eVar 2) (eVar 3))) sSkip) (sRetO 5))
        [.dt (.str (fm row)), .dt (iq kb be), .dt (iq ka ah), .dt (.int (j : Nat)), .dt (oI w), .own (acc.map PyData.int)] { nx := fun _ => Q .none, rt := Q, rl := fun ds => Q (.list ds) } := fun acc ha hq => by
    have yes : ((!row) || decide (0 < j)) = true → sApp 5 (eBin gIx (eVar 1) (eBin (gI fun i j => i - j) (eVar 3) (eC (.int 1))))
        [.dt (.str (fm row)), .dt (iq kb be), .dt (iq ka ah), .dt (.int (j : Nat)), .dt (oI w), .own (acc.map PyData.int)] { nx := fun ρ' => sSeq (sIf (fTest (eBin (gC fun i j => decide (i < j)) (eVar 3) (eCB (g1 lenD) (dCons (eVar 2) dNil)))) (sApp 5 (eBin gIx (eVar 2) (eVar 3))) sSkip) (sRetO 5) ρ' { nx := fun _ => Q .none, rt := Q, rl := fun ds => Q (.list ds) }, rt := Q, rl := fun ds => Q (.list ds) } := fun z => by
      rw [if_pos z] at hq
      refine ix1 _ ⟨by rw [len_i]; omega, ?_⟩
      have h := s3 (acc ++ [prev be j]) (by rw [List.length_append]; simp; omega) hq
      rw [List.map_append] at h
      exact h
    show if decide (fm row = "ring") = true then _ else (if decide ((0 : Int) < (j : Nat)) = true then _ else _)
    rw [fm_ring]
    cases row with
    | false =>
      rw [if_pos (show (!false) = true from rfl)]
      exact yes rfl
    | true =>
      rw [if_neg (by decide)]
      by_cases z : 0 < j
      · rw [if_pos (decide_eq_true (by omega))]
        exact yes (by simpa using z)
      · rw [if_neg (by rw [decide_eq_true_eq]; omega)]
        rw [if_neg (by simpa using z), List.append_nil] at hq
        exact s3 acc (by omega) hq
  unfold F_bounds_at
  refine ⟨rfl, ?_⟩
  unfold bnd at q
  cases w with
  | none => exact s2 [] (by decide) q
  | some x => exact ⟨Nat.zero_lt_succ _, s2 [x] (by show 1 < 900; decide) q⟩
end Kd
namespace Kd
open PySem PySem.Spec PyProof.Rows L2 Xg Dv
/-! a beat -/
/-- how many go by gate j, forth -/
def gone (row : Bool) (be ah : List Int) (ws : List (Option Int)) (j : Nat) : Int := mn (bnd (!row) be ah j (ws.getD j none))
def lackL (rooms hs : List Int) : List Int := vec rooms.length fun i => rooms.getD i 0 - hs.getD i 0
/-- the tuple of how many go by each gate -/
def mvd (row : Bool) (rooms : List Int) (ws : List (Option Int)) (hs : List Int) (forth : Bool) : List Int :=
  vec ws.length (if forth = true then gone row hs (lackL rooms hs) ws else gone row (lackL rooms hs) hs ws)
/-- a line of bins, widths and a standing that fit -/
structure Ft (row : Bool) (rooms : List Int) (ws : List (Option Int)) (hs : List Int) : Prop where
  n0 : 0 < rooms.length
  n2 : row = false → 2 ≤ rooms.length
  nz : rooms.length ≤ 1000
  nw : ws.length = gts row rooms.length
  nh : hs.length = rooms.length
theorem bnd_ne {row : Bool} {be ah : List Int} {ws : List (Option Int)} {w : Option Int} {n j : Nat} (hb : be.length = n) (ha : ah.length = n) (n0 : 0 < n) : bnd (!row) be ah j w ≠ [] := fun e => by
  unfold bnd at e
  rw [List.append_eq_nil_iff, List.append_eq_nil_iff] at e
  obtain ⟨⟨_, e2⟩, e3⟩ := e
  by_cases z : j < ah.length
  · rw [if_pos z] at e3
    cases e3
  · rw [if_pos (by cases row <;> simp; omega)] at e2
    cases e2
theorem oI_at {ws : List (Option Int)} {i : Nat} {d : PyData} (h : (ws.map oI)[i]? = some d) : i < ws.length ∧ d = oI (ws.getD i none) := by
  rw [List.getElem?_map] at h
  cases e : ws[i]? with
  | none => rw [e] at h; cases h
  | some z =>
    rw [e] at h
    have h : oI z = d := Option.some.inj h
    refine ⟨(List.getElem?_eq_some_iff.mp e).1, ?_⟩
    rw [List.getD_eq_getElem?_getD, e, ← h]
    rfl
theorem moved_of {k kw ks row : Bool} {rooms hs : List Int} {ws : List (Option Int)} {forth : Bool} {Q : PyData → Prop} (hk : ks = true ∨ k = false) (F : Ft row rooms ws hs) (q : Q (iq true (mvd row rooms ws hs forth))) :
    F_moved [.dt (ln k row rooms), .dt (sqd kw (ws.map oI)), .dt (iq ks hs), .dt (.str (wy forth))] Q := by
  have n0 := F.n0
  have nz := F.nz
  have nw := F.nw
  have nh := F.nh
  have lk : (lackL rooms hs).length = rooms.length := vec_len
  have jle : ∀ j, j < ws.length → j ≤ rooms.length := fun j h => by
    rw [nw] at h
    unfold gts at h
    split at h <;> omega
  have fin : ∀ (kb ka : Bool) (be ah : List Int) (rr : PyData), be.length = rooms.length → ah.length = rooms.length → Q (iq true (vec ws.length (gone row be ah ws))) →
      sRet (eUn tupD (eL (fComp 1000000 (fEnum (eVar 1)) [8, 9] (gT (gsCons (gN 8) (gsCons (gN 9) gsNil))) fYes (eCB minD (dCons (eCall F_bounds_at (aCons (eVar 4) (aCons (eVar 6) (aCons (eVar 7) (aCons (eVar 8) (aCons (eVar 9) aNil)))))) dNil)))))
        [.dt (ln k row rooms), .dt (sqd kw (ws.map oI)), .dt (iq ks hs), .dt (.str (wy forth)), .dt (.str (fm row)), .dt rr, .dt (iq kb be), .dt (iq ka ah), .no, .no] { nx := fun _ => Q .none, rt := Q, rl := fun ds => Q (.list ds) } := fun kb ka be ah rr hb ha hq => by
    have main : (enumD 0 (ws.map oI)).length ≤ 1000000 ∧ compD (gT (gsCons (gN 8) (gsCons (gN 9) gsNil))) fYes (eCB minD (dCons (eCall F_bounds_at (aCons (eVar 4) (aCons (eVar 6) (aCons (eVar 7) (aCons (eVar 8) (aCons (eVar 9) aNil)))))) dNil))
        [.dt (ln k row rooms), .dt (sqd kw (ws.map oI)), .dt (iq ks hs), .dt (.str (wy forth)), .dt (.str (fm row)), .dt rr, .dt (iq kb be), .dt (iq ka ah), .no, .no] (enumD 0 (ws.map oI)) [] (fun ds => Q (.tuple ds)) := by
      have le : (enumD 0 (ws.map oI)).length = ws.length := by rw [enumD_len, List.length_map]
      have := jle
      refine ⟨by rw [le, nw]; unfold gts; split <;> omega, comp_vec _ le (fun i d hd P hp => ?_) hq⟩
      obtain ⟨x, e1, rfl⟩ := enum_at hd
      obtain ⟨hi, rfl⟩ := oI_at e1
      exact bounds_of (by omega) (by rw [hb]; exact jle i hi) (min_of (bnd_ne hb ha n0 (ws := ws)) hp)
    cases kw with
    | true => exact main
    | false => exact main
  have step : ∀ rr, sSeq (sAsg (eTup (dCons (eVar 2) (dCons (eCall F_lacking (aCons (eVar 0) (aCons (eVar 2) aNil))) dNil))) (gT (gsCons (gN 6) (gsCons (gN 7) gsNil)))) (sSeq (sIf (fTest (eBin gEq (eVar 3) (eC (.str "back")))) (sAsg (eTup (dCons (eVar 7) (dCons (eVar 6) dNil))) (gT (gsCons (gN 6) (gsCons (gN 7) gsNil)))) sSkip) (sRet (eUn tupD (eL (fComp 1000000 (fEnum (eVar 1)) [8, 9] (gT (gsCons (gN 8) (gsCons (gN 9) gsNil))) fYes (eCB minD (dCons (eCall F_bounds_at (aCons (eVar 4) (aCons (eVar 6) (aCons (eVar 7) (aCons (eVar 8) (aCons (eVar 9) aNil)))))) dNil)))))))
      [.dt (ln k row rooms), .dt (sqd kw (ws.map oI)), .dt (iq ks hs), .dt (.str (wy forth)), .dt (.str (fm row)), .dt rr, .no, .no, .no, .no] { nx := fun _ => Q .none, rt := Q, rl := fun ds => Q (.list ds) } := fun rr => by
    refine lacking_of hk nh (by omega) ?_
    show if decide (wy forth = "back") = true then _ else _
    rw [wy_back]
    unfold mvd at q
    cases forth with
    | true => exact fin ks true hs (lackL rooms hs) rr nh lk q
    | false => exact fin true ks (lackL rooms hs) hs rr lk nh q
  unfold F_moved
  cases k with
  | true => exact ⟨rfl, step _⟩
  | false => exact ⟨rfl, step _⟩
end Kd
namespace Kd
open PySem PySem.Spec PyProof.Rows L2 Xg Dv
/-- a beat's counts -/
def cnt (row : Bool) (rooms : List Int) (ws : List (Option Int)) (hs : List Int) (forth : Bool) : List Int :=
  vec ws.length fun j => if forth = true then (mvd row rooms ws hs forth).getD j 0 else -(mvd row rooms ws hs forth).getD j 0
theorem counts_of {k kw ks row : Bool} {rooms hs : List Int} {ws : List (Option Int)} {forth : Bool} {Q : PyData → Prop} (hk : ks = true ∨ k = false) (F : Ft row rooms ws hs) (q : Q (iq true (cnt row rooms ws hs forth))) :
    F_beat_counts [.dt (ln k row rooms), .dt (sqd kw (ws.map oI)), .dt (iq ks hs), .dt (.str (wy forth))] Q := by
  have lm : (mvd row rooms ws hs forth).length = ws.length := vec_len
  have lw : ws.length ≤ 1001 := by
    rw [F.nw]
    have := F.nz
    unfold gts
    split <;> omega
  unfold F_beat_counts
  refine ⟨rfl, moved_of hk F ?_⟩
  show if decide (wy forth = "forth") = true then Q (iq true (mvd row rooms ws hs forth)) else _
  rw [wy_forth]
  unfold cnt at q
  cases forth with
  | true =>
    rw [if_pos rfl]
    rw [list_vec (mvd row rooms ws hs true), lm]
    exact q
  | false =>
    rw [if_neg Bool.false_ne_true]
    have ll : ((mvd row rooms ws hs false).map PyData.int).length = ws.length := by rw [len_i, lm]
    refine (show ((mvd row rooms ws hs false).map PyData.int).length ≤ 1000000 ∧ _ from ⟨by omega, comp_vec _ ll (fun i d hd P hp => ?_) q⟩)
    obtain ⟨_, rfl⟩ := map_at hd
    exact hp
end Kd
namespace Kd
open PySem PySem.Spec PyProof.Rows L2 Xg Dv
/-- what these counts lead to -/
def ledL (hs cs : List Int) : List Int := vec hs.length fun i => hs.getD i 0 + cs.getD i 0 - cs.getD ((i + 1) % cs.length) 0
theorem ledTo_of {ks kc : Bool} {hs cs : List Int} {Q : PyData → Prop} (h1 : hs.length ≤ cs.length) (h0 : 0 < cs.length) (hz : hs.length ≤ 1000) (q : Q (iq true (ledL hs cs))) : F_led_to [.dt (iq ks hs), .dt (iq kc cs)] Q := by
  have ix : ∀ (i : Nat) (P : PyData → Prop), i < cs.length → P (.int (cs.getD i 0)) → gIx (iq kc cs) (.int (i : Nat)) P := fun i P hl hp => by
    cases kc with
    | true =>
      show atQ (L2.atI _ _) P
      rw [atI_i hl]
      exact hp
    | false =>
      show atQ (L2.atI _ _) P
      rw [atI_i hl]
      exact hp
  have main : (enumD 0 (hs.map PyData.int)).length ≤ 1000000 ∧ compD (gT (gsCons (gN 3) (gsCons (gN 4) gsNil))) fYes (eBin (gI fun i j => i - j) (eBin gAdd (eVar 4) (eBin gIx (eVar 1) (eVar 3))) (eBin gIx (eVar 1) (eBin (gIc (fun _ j => 0 < j) fun i j => i % j) (eBin gAdd (eVar 3) (eC (.int 1))) (eVar 2))))
      [.dt (iq ks hs), .dt (iq kc cs), .dt (.int (cs.length : Nat)), .no, .no] (enumD 0 (hs.map PyData.int)) [] (fun ds => Q (.tuple ds)) := by
    have le : (enumD 0 (hs.map PyData.int)).length = hs.length := by rw [enumD_len, len_i]
    refine ⟨by omega, comp_vec _ le (fun i d hd P hp => ?_) q⟩
    obtain ⟨x, e1, rfl⟩ := enum_at hd
    obtain ⟨hi, rfl⟩ := map_at e1
    refine ix i _ (by omega) ?_
    refine ⟨by omega, ?_⟩
    have e : ((i : Nat) + 1 : Int) % (cs.length : Nat) = (((i + 1) % cs.length : Nat) : Int) := by simp
    show gIx (iq kc cs) (.int (((i : Nat) + 1 : Int) % (cs.length : Nat))) _
    rw [e]
    exact ix _ _ (Nat.mod_lt _ h0) hp
  have l2 : ∀ P : PyData → Prop, P (.int (cs.length : Nat)) → lenD (iq kc cs) P := fun P hp => by
    cases kc with
    | true => show P (.int ((cs.map PyData.int).length : Nat)); rw [len_i]; exact hp
    | false => show P (.int ((cs.map PyData.int).length : Nat)); rw [len_i]; exact hp
  unfold F_led_to
  refine ⟨rfl, l2 _ ?_⟩
  cases ks with
  | true => exact main
  | false => exact main
/-- the standing behind a beat -/
def btL (row : Bool) (rooms : List Int) (ws : List (Option Int)) (hs : List Int) (forth : Bool) : List Int := ledL hs (cnt row rooms ws hs forth)
theorem beat_of {k kw ks row : Bool} {rooms hs : List Int} {ws : List (Option Int)} {forth : Bool} {Q : PyData → Prop} (hk : ks = true ∨ k = false) (F : Ft row rooms ws hs) (q : Q (iq true (btL row rooms ws hs forth))) :
    F_beat [.dt (ln k row rooms), .dt (sqd kw (ws.map oI)), .dt (iq ks hs), .dt (.str (wy forth))] Q := by
  have lc : (cnt row rooms ws hs forth).length = ws.length := vec_len
  have h1 : rooms.length ≤ ws.length := by
    rw [F.nw]
    unfold gts
    split <;> omega
  have n0 := F.n0
  have nz := F.nz
  have nh := F.nh
  unfold F_beat
  exact ⟨rfl, counts_of hk F (ledTo_of (by omega) (by omega) (by omega) q)⟩
end Kd
namespace Kd
open PySem PySem.Spec PyProof.Rows L2 Xg Dv
theorem btL_len {row : Bool} {rooms hs : List Int} {ws : List (Option Int)} {forth : Bool} : (btL row rooms ws hs forth).length = hs.length := vec_len
theorem Ft.next {row : Bool} {rooms hs : List Int} {ws : List (Option Int)} {forth : Bool} (F : Ft row rooms ws hs) : Ft row rooms ws (btL row rooms ws hs forth) := ⟨F.n0, F.n2, F.nz, F.nw, btL_len.trans F.nh⟩
/-- the standing behind i beats -/
def itr (row : Bool) (rooms : List Int) (ws : List (Option Int)) (forth : Bool) (hs : List Int) : Nat → List Int
  | 0 => hs
  | i + 1 => btL row rooms ws (itr row rooms ws forth hs i) forth
theorem Ft.itr {row : Bool} {rooms hs : List Int} {ws : List (Option Int)} {forth : Bool} (F : Ft row rooms ws hs) : ∀ i, Ft row rooms ws (Kd.itr row rooms ws forth hs i)
  | 0 => F
  | i + 1 => (Ft.itr F i).next
theorem tup_iq {ks : Bool} {hs : List Int} {Q : PyData → Prop} (q : Q (iq true hs)) : tupD (iq ks hs) Q := by
  cases ks with
  | true => exact q
  | false => exact q
def btsD (row : Bool) (rooms : List Int) (ws : List (Option Int)) (forth : Bool) (hs : List Int) (n : Nat) : List PyData := (List.range (n + 1)).map fun i => iq true (itr row rooms ws forth hs i)
theorem beats_body {k kw ks row : Bool} {rooms hs : List Int} {ws : List (Option Int)} {forth : Bool} {many : Nat} {E : DEnds} (F : Ft row rooms ws hs) (hm : many ≤ 900000) (q : E.rl (btsD row rooms ws forth hs many)) :
    f_beats [.dt (ln k row rooms), .dt (sqd kw (ws.map oI)), .dt (iq ks hs), .dt (.str (wy forth)), .dt (.int (many : Nat)), .no] E := by
  refine tup_iq ?_
  refine ⟨fun n ρ => ∃ i, i ≤ many ∧ n = many - i ∧ ρ = [.dt (ln k row rooms), .dt (sqd kw (ws.map oI)), .dt (iq ks hs), .dt (.str (wy forth)), .dt (.int (many : Nat)), .own (btsD row rooms ws forth hs i)], ⟨many, 0, Nat.zero_le _, rfl, rfl⟩, fun n ρ h => ?_⟩
  obtain ⟨i, hi, rfl, rfl⟩ := h
  have ll : (btsD row rooms ws forth hs i).length = i + 1 := by
    unfold btsD
    rw [List.length_map, List.length_range]
  have la : btsD row rooms ws forth hs i = (List.range i).map (fun j => iq true (itr row rooms ws forth hs j)) ++ [iq true (itr row rooms ws forth hs i)] := by
    unfold btsD
    rw [List.range_succ, List.map_append]
    rfl
  show if decide (((btsD row rooms ws forth hs i).length : Int) ≤ (many : Nat)) = true then _ else _
  rw [ll]
  by_cases z : i < many
  · rw [if_pos (decide_eq_true (by omega))]
    show atQ (L2.atI (btsD row rooms ws forth hs i) (-1)) _
    rw [la, atI_last, ← la]
    refine beat_of (.inl rfl) (F.itr i) ⟨by omega, many - (i + 1), by omega, i + 1, by omega, rfl, ?_⟩
    have nx : btsD row rooms ws forth hs i ++ [iq true (btL row rooms ws (itr row rooms ws forth hs i) forth)] = btsD row rooms ws forth hs (i + 1) := by
      unfold btsD
      rw [List.range_succ (n := i + 1), List.map_append]
      rfl
    rw [nx]
    rfl
  · rw [if_neg (by rw [decide_eq_true_eq]; omega)]
    obtain rfl : i = many := by omega
    exact q
theorem beats_of {k kw ks row : Bool} {rooms hs : List Int} {ws : List (Option Int)} {forth : Bool} {many : Nat} {Q : PyData → Prop} (F : Ft row rooms ws hs) (hm : many ≤ 900000) (q : Q (.list (btsD row rooms ws forth hs many))) :
    F_beats [.dt (ln k row rooms), .dt (sqd kw (ws.map oI)), .dt (iq ks hs), .dt (.str (wy forth)), .dt (.int (many : Nat))] Q := by
  unfold F_beats
  exact ⟨rfl, beats_body F hm q⟩
theorem beatsL_of {k kw ks row : Bool} {rooms hs : List Int} {ws : List (Option Int)} {forth : Bool} {many : Nat} {Q : List PyData → Prop} (F : Ft row rooms ws hs) (hm : many ≤ 900000) (q : Q (btsD row rooms ws forth hs many)) :
    L_beats [.dt (ln k row rooms), .dt (sqd kw (ws.map oI)), .dt (iq ks hs), .dt (.str (wy forth)), .dt (.int (many : Nat))] Q := by
  unfold L_beats
  exact ⟨rfl, beats_body F hm q⟩
/-! runs -/
def addL (a b : List Int) : List Int := vec a.length fun i => a.getD i 0 + b.getD i 0
theorem added_of {a b : List Int} {Q : PyData → Prop} (hl : b.length = a.length) (hz : a.length ≤ 1000000) (q : Q (iq true (addL a b))) : F_added [.dt (iq true a), .dt (iq true b)] Q := by
  have lz : (zipD (a.map PyData.int) (b.map PyData.int)).length = a.length := zip_len (len_i _) (by rw [len_i, hl])
  unfold F_added
  refine ⟨rfl, (show (zipD (a.map PyData.int) (b.map PyData.int)).length ≤ 1000000 ∧ _ from ⟨by omega, comp_vec (fun i => a.getD i 0 + b.getD i 0) lz (fun i d hd P hp => ?_) q⟩)⟩
  obtain ⟨x, y, e1, e2, rfl⟩ := zip_at hd
  obtain ⟨_, rfl⟩ := map_at e1
  obtain ⟨_, rfl⟩ := map_at e2
  exact hp
def ledR (row : Bool) (rooms : List Int) : List (Bool × List (Option Int)) → List Int → List Int → List Int × List Int
  | [], h, c => (h, c)
  | (b, ws) :: r, h, c => ledR row rooms r (ledL h (cnt row rooms ws h b)) (addL c (cnt row rooms ws h b))
def rn (kp kw : Bool) (s : Bool × List (Option Int)) : PyData := sqd kp [.str (wy s.1), sqd kw (s.2.map oI)]
theorem led_of {k kp kw kr ks row : Bool} {rooms hs : List Int} {run : List (Bool × List (Option Int))} {Q : PyData → Prop} (n0 : 0 < rooms.length) (n2 : row = false → 2 ≤ rooms.length) (nz : rooms.length ≤ 900) (nh : hs.length = rooms.length) (hr : run.length ≤ 1000000)
    (hw : ∀ s ∈ run, s.2.length = gts row rooms.length) (q : Q (.tuple [iq true (ledR row rooms run hs (vec (gts row rooms.length) fun _ => 0)).1, iq true (ledR row rooms run hs (vec (gts row rooms.length) fun _ => 0)).2])) :
    F_led [.dt (ln k row rooms), .dt (iq ks hs), .dt (sqd kr (run.map (rn kp kw)))] Q := by
  have gb : 1 ≤ gts row rooms.length ∧ gts row rooms.length ≤ 901 := by
    unfold gts
    split <;> omega
  have loop : ∀ (run : List (Bool × List (Option Int))) (h c : List Int) (y5 y6 y7 : Sl), (∀ s ∈ run, s.2.length = gts row rooms.length) → h.length = rooms.length → c.length = gts row rooms.length → Q (.tuple [iq true (ledR row rooms run h c).1, iq true (ledR row rooms run h c).2]) → ∀ st rr : PyData,
      forD (gT (gsCons (gN 5) (gsCons (gN 6) gsNil))) (sSeq (sAsg (eCall F_beat_counts (aCons (eVar 0) (aCons (eVar 6) (aCons (eVar 3) (aCons (eVar 5) aNil))))) (gN 7)) (sSeq (sAsg (eCall F_led_to (aCons (eVar 3) (aCons (eVar 7) aNil))) (gN 3)) (sAsg (eCall F_added (aCons (eVar 4) (aCons (eVar 7) aNil))) (gN 4))))
        (run.map (rn kp kw)) [.dt (ln k row rooms), .dt st, .dt rr, .dt (iq true h), .dt (iq true c), y5, y6, y7] { nx := fun ρ' => sRet (eTup (dCons (eVar 3) (dCons (eVar 4) dNil))) ρ' { nx := fun _ => Q .none, rt := Q, rl := fun ds => Q (.list ds) }, rt := Q, rl := fun ds => Q (.list ds) } := by
    intro run
    induction run with
    | nil => intro h c y5 y6 y7 _ _ _ q st rr; exact q
    | cons s r ih =>
      intro h c y5 y6 y7 hw lh lc q st rr
      obtain ⟨b, ws⟩ := s
      have lw : ws.length = gts row rooms.length := hw (b, ws) (List.mem_cons_self ..)
      have F : Ft row rooms ws h := ⟨n0, n2, by omega, lw, lh⟩
      have lm : (cnt row rooms ws h b).length = ws.length := vec_len
      have rl : rooms.length ≤ gts row rooms.length := by
        unfold gts
        split <;> omega
      have body : forD (gT (gsCons (gN 5) (gsCons (gN 6) gsNil))) (sSeq (sAsg (eCall F_beat_counts (aCons (eVar 0) (aCons (eVar 6) (aCons (eVar 3) (aCons (eVar 5) aNil))))) (gN 7)) (sSeq (sAsg (eCall F_led_to (aCons (eVar 3) (aCons (eVar 7) aNil))) (gN 3)) (sAsg (eCall F_added (aCons (eVar 4) (aCons (eVar 7) aNil))) (gN 4))))
          (.tuple [.str (wy b), sqd kw (ws.map oI)] :: r.map (rn kp kw)) [.dt (ln k row rooms), .dt st, .dt rr, .dt (iq true h), .dt (iq true c), y5, y6, y7] { nx := fun ρ' => sRet (eTup (dCons (eVar 3) (dCons (eVar 4) dNil))) ρ' { nx := fun _ => Q .none, rt := Q, rl := fun ds => Q (.list ds) }, rt := Q, rl := fun ds => Q (.list ds) } := by
        refine counts_of (.inl rfl) F ?_
        refine ledTo_of (by omega) (by omega) (by omega) ?_
        exact added_of (by rw [lm, lw, lc]) (by omega) (ih (ledL h (cnt row rooms ws h b)) (addL c (cnt row rooms ws h b)) _ _ _ (fun s hs => hw s (List.mem_cons_of_mem _ hs)) (vec_len.trans lh) (vec_len.trans lc) q st rr)
      cases kp with
      | true => exact body
      | false => exact body
  unfold F_led
  refine ⟨rfl, ?_⟩
  refine tup_iq ?_
  refine gates_of ?_
  refine ⟨⟨by simp, by omega, by omega, by simp⟩, ?_⟩
  have er : rep ((gts row rooms.length : Nat) : Int) [.int 0] = (vec (gts row rooms.length) fun _ => 0).map PyData.int := by
    unfold rep vec
    rw [Int.toNat_natCast, List.map_map]
    simp [Function.comp_def, List.map_const']
  rw [er]
  have fin := loop run hs (vec (gts row rooms.length) fun _ => 0) .no .no .no hw nh vec_len q (iq ks hs) (sqd kr (run.map (rn kp kw)))
  cases kr with
  | true => exact ⟨by rw [List.length_map]; exact hr, fin⟩
  | false => exact ⟨by rw [List.length_map]; exact hr, fin⟩
end Kd
/-! all numbers so many times as great -/
namespace Kd
open PySem PySem.Spec PyProof.Rows L2 Xg Dv
def scl (b : Int) (l : List Int) : List Int := l.map (· * b)
def sco (b : Int) (ws : List (Option Int)) : List (Option Int) := ws.map (Option.map (· * b))
variable {b : Int}
theorem scl_len {l : List Int} : (scl b l).length = l.length := List.length_map ..
theorem sco_len {l : List (Option Int)} : (sco b l).length = l.length := List.length_map ..
theorem scl_get {l : List Int} {i : Nat} : (scl b l).getD i 0 = l.getD i 0 * b := by
  unfold scl
  rw [List.getD_eq_getElem?_getD, List.getElem?_map, List.getD_eq_getElem?_getD]
  cases l[i]? with
  | none => simp
  | some x => rfl
theorem sco_get {l : List (Option Int)} {i : Nat} : (sco b l).getD i none = (l.getD i none).map (· * b) := by
  unfold sco
  rw [List.getD_eq_getElem?_getD, List.getElem?_map, List.getD_eq_getElem?_getD]
  cases l[i]? with
  | none => rfl
  | some x => rfl
theorem scl_vec {n : Nat} {f : Nat → Int} : scl b (vec n f) = vec n fun i => f i * b := by
  unfold scl vec
  rw [List.map_map]
  rfl
theorem scl_app {a c : List Int} : scl b (a ++ c) = scl b a ++ scl b c := List.map_append ..
theorem mn_scl (hb : 0 ≤ b) : ∀ {l : List Int}, mn (scl b l) = mn l * b
  | [] => by simp [scl, mn]
  | [x] => rfl
  | x :: y :: r => by
    have ih := mn_scl hb (l := y :: r)
    show (if x * b ≤ mn (scl b (y :: r)) then x * b else mn (scl b (y :: r))) = (if x ≤ mn (y :: r) then x else mn (y :: r)) * b
    rw [ih]
    by_cases h : x ≤ mn (y :: r)
    · rw [if_pos h, if_pos (Int.mul_le_mul_of_nonneg_right h hb)]
    · rw [if_neg h]
      by_cases g : x * b ≤ mn (y :: r) * b
      · rw [if_pos g]
        exact Int.le_antisymm g (Int.mul_le_mul_of_nonneg_right (by omega) hb)
      · rw [if_neg g]
theorem prev_scl {be : List Int} {j : Nat} : prev (scl b be) j = prev be j * b := by
  unfold prev
  rw [scl_len, scl_get, scl_get]
  split <;> rfl
theorem bnd_scl {ring : Bool} {be ah : List Int} {j : Nat} {w : Option Int} : bnd ring (scl b be) (scl b ah) j (w.map (· * b)) = scl b (bnd ring be ah j w) := by
  unfold bnd
  rw [scl_app, scl_app, prev_scl, scl_len, scl_get]
  congr 1
  · congr 1
    · cases w <;> rfl
    · split <;> rfl
  · split <;> rfl
theorem gone_scl (hb : 0 ≤ b) {row : Bool} {be ah : List Int} {ws : List (Option Int)} {j : Nat} : gone row (scl b be) (scl b ah) (sco b ws) j = gone row be ah ws j * b := by
  unfold gone
  rw [sco_get, bnd_scl, mn_scl hb]
theorem lack_scl {rooms hs : List Int} : lackL (scl b rooms) (scl b hs) = scl b (lackL rooms hs) := by
  unfold lackL
  rw [scl_vec, scl_len]
  exact vec_ext fun i _ => by rw [scl_get, scl_get, Int.sub_mul]
theorem mvd_scl (hb : 0 ≤ b) {row : Bool} {rooms hs : List Int} {ws : List (Option Int)} {forth : Bool} : mvd row (scl b rooms) (sco b ws) (scl b hs) forth = scl b (mvd row rooms ws hs forth) := by
  unfold mvd
  rw [scl_vec, sco_len, lack_scl]
  cases forth with
  | true => exact vec_ext fun i _ => gone_scl hb
  | false => exact vec_ext fun i _ => gone_scl hb
theorem cnt_scl (hb : 0 ≤ b) {row : Bool} {rooms hs : List Int} {ws : List (Option Int)} {forth : Bool} : cnt row (scl b rooms) (sco b ws) (scl b hs) forth = scl b (cnt row rooms ws hs forth) := by
  unfold cnt
  rw [scl_vec, sco_len, mvd_scl hb]
  refine vec_ext fun i _ => ?_
  rw [scl_get]
  cases forth with
  | true => rfl
  | false => exact (Int.neg_mul _ _).symm
theorem ledL_scl {hs cs : List Int} : ledL (scl b hs) (scl b cs) = scl b (ledL hs cs) := by
  unfold ledL
  rw [scl_vec, scl_len, scl_len]
  refine vec_ext fun i _ => ?_
  rw [scl_get, scl_get, scl_get, Int.sub_mul, Int.add_mul]
theorem btL_scl (hb : 0 ≤ b) {row : Bool} {rooms hs : List Int} {ws : List (Option Int)} {forth : Bool} : btL row (scl b rooms) (sco b ws) (scl b hs) forth = scl b (btL row rooms ws hs forth) := by
  unfold btL
  rw [cnt_scl hb, ledL_scl]
theorem itr_scl (hb : 0 ≤ b) {row : Bool} {rooms hs : List Int} {ws : List (Option Int)} {forth : Bool} : ∀ i, itr row (scl b rooms) (sco b ws) forth (scl b hs) i = scl b (itr row rooms ws forth hs i)
  | 0 => rfl
  | i + 1 => by
    rw [itr, itr_scl hb i, btL_scl hb]
    rfl
theorem addL_scl {a c : List Int} : addL (scl b a) (scl b c) = scl b (addL a c) := by
  unfold addL
  rw [scl_vec, scl_len]
  refine vec_ext fun i _ => ?_
  rw [scl_get, scl_get, Int.add_mul]
theorem ledR_scl (hb : 0 ≤ b) {row : Bool} {rooms : List Int} : ∀ {run : List (Bool × List (Option Int))} {h c : List Int}, ledR row (scl b rooms) (run.map fun s => (s.1, sco b s.2)) (scl b h) (scl b c) = (scl b (ledR row rooms run h c).1, scl b (ledR row rooms run h c).2)
  | [], h, c => rfl
  | (f, ws) :: r, h, c => by
    rw [List.map_cons, ledR, cnt_scl hb, ledL_scl, addL_scl, ledR_scl hb]
    rfl
end Kd
/-! readings that all laws share -/
namespace Kd
open PySem PySem.Spec PyProof.Rows L2 Xg Dv
theorem comp_enc {α : Type} {g : FG} {te : FE} {ρ : List Sl} {Q : List PyData → Prop} (e r : α → PyData) : ∀ (xs : List α) (acc : List PyData), (∀ x ∈ xs, ∀ P : PyData → Prop, P (r x) → g (e x) ρ fun ρ' => te ρ' P) → Q (acc ++ xs.map r) → compD g fYes te ρ (xs.map e) acc Q
  | [], acc, _, q => by
    rw [List.map_nil, List.append_nil] at q
    exact q
  | x :: xs, acc, hs, q => hs x (List.mem_cons_self ..) (fun y => compD g fYes te ρ (xs.map e) (acc ++ [y]) Q) (comp_enc e r xs _ (fun z hz => hs z (List.mem_cons_of_mem _ hz)) (by
    rw [List.append_assoc]
    exact q))
/-- each part comes to something of R -/
theorem comp_any {α : Type} {g : FG} {te : FE} {ρ : List Sl} {Q : List PyData → Prop} (e : α → PyData) (R : PyData → Prop) : ∀ (xs : List α) (acc : List PyData), (∀ x ∈ xs, ∀ P : PyData → Prop, (∀ y, R y → P y) → g (e x) ρ fun ρ' => te ρ' P) →
    (∀ ys, ys.length = xs.length → (∀ y ∈ ys, R y) → Q (acc ++ ys)) → compD g fYes te ρ (xs.map e) acc Q
  | [], acc, _, q => by
    have z := q [] rfl (fun y hy => nomatch hy)
    rw [List.append_nil] at z
    exact z
  | x :: xs, acc, hs, q => hs x (List.mem_cons_self ..) (fun y => compD g fYes te ρ (xs.map e) (acc ++ [y]) Q) fun y hy => comp_any e R xs _ (fun z hz => hs z (List.mem_cons_of_mem _ hz)) fun ys hl hr => by
    rw [List.append_assoc]
    refine q (y :: ys) (by rw [List.length_cons, List.length_cons, hl]) fun z hz => ?_
    rcases List.mem_cons.mp hz with rfl | hz
    · exact hy
    · exact hr z hz
theorem for_inv {g : FG} {f : FS} {E : DEnds} (I : List Sl → Prop) : ∀ (ds : List PyData) (ρ : List Sl), (∀ ρ d (N : List Sl → Prop), I ρ → d ∈ ds → (∀ ρ', I ρ' → N ρ') → g d ρ fun ρ1 => f ρ1 { E with nx := N, ct := N, bk := E.nx }) → I ρ → (∀ ρ, I ρ → E.nx ρ) → forD g f ds ρ E
  | [], ρ, _, h0, he => he ρ h0
  | d :: ds, ρ, hs, h0, he => hs ρ d (fun ρ2 => forD g f ds ρ2 E) h0 (List.mem_cons_self ..) fun ρ' h => for_inv I ds ρ' (fun ρ e N i m => hs ρ e N i (List.mem_cons_of_mem _ m)) h he
theorem shal_iq {n : Nat} {k : Bool} {l : List Int} (h : l.length ≤ 1000) : shal (n + 1) (iq k l) = true := by
  have z : (l.map PyData.int).all (shal n) = true := by
    rw [List.all_eq_true]
    intro d hd
    obtain ⟨x, _, rfl⟩ := List.mem_map.mp hd
    cases n <;> rfl
  cases k with
  | true =>
    show (decide ((l.map PyData.int).length ≤ 1000) && (l.map PyData.int).all (shal n)) = true
    rw [z, len_i, decide_eq_true h]
    rfl
  | false =>
    show (decide ((l.map PyData.int).length ≤ 1000) && (l.map PyData.int).all (shal n)) = true
    rw [z, len_i, decide_eq_true h]
    rfl
theorem lay_flat {α : Type} (c : α → PyData) (h1 : ∀ a, (c a).canLay0 = true) (h2 : ∀ a, (c a).depth = 0) : ∀ ms : List α, PyData.canLayAll0 (ms.map c) = true ∧ PyData.depthAll (ms.map c) = 0
  | [] => ⟨rfl, rfl⟩
  | m :: r => by
    obtain ⟨g1, g2⟩ := lay_flat c h1 h2 r
    refine ⟨?_, ?_⟩
    · rw [List.map_cons, PyData.canLayAll0, h1, g1]
      rfl
    · rw [List.map_cons, PyData.depthAll, h2, g2]
      rfl
theorem shp_iq {k : Bool} {l : List Int} : SeqAt.shaped (iq k l) = true := by
  obtain ⟨g1, g2⟩ := lay_flat PyData.int (fun _ => by simp [PyData.canLay0]) (fun _ => by simp [PyData.depth]) l
  cases k with
  | true =>
    show SeqAt.shaped (.tuple (l.map PyData.int)) = true
    unfold SeqAt.shaped
    rw [PyData.canLay0, PyData.depth, g1, g2]
    rfl
  | false =>
    show SeqAt.shaped (.list (l.map PyData.int)) = true
    unfold SeqAt.shaped
    rw [PyData.canLay0, PyData.depth, g1, g2]
    rfl
theorem lay_iq {k : Bool} {l : List Int} : PyData.canLay0 (iq k l) = true := by
  obtain ⟨g1, g2⟩ := lay_flat PyData.int (fun _ => by simp [PyData.canLay0]) (fun _ => by simp [PyData.depth]) l
  cases k with
  | true =>
    show PyData.canLay0 (.tuple (l.map PyData.int)) = true
    rw [PyData.canLay0, g1]
  | false =>
    show PyData.canLay0 (.list (l.map PyData.int)) = true
    rw [PyData.canLay0, g1]
theorem ne_iq {k : Bool} {l : List Int} {Q : PyData → Prop} (q : Q (.bool false)) : gNe (iq k l) (iq k l) Q := by
  have e : PyData.eqv (iq k l) (iq k l) = true := SeqAt.eqv_refl _ lay_iq
  cases k with
  | true => exact ⟨shp_iq (k := true), shp_iq (k := true), by rw [e]; exact q⟩
  | false => exact ⟨shp_iq (k := false), shp_iq (k := false), by rw [e]; exact q⟩
theorem range_mem {n : Nat} {d : PyData} (h : d ∈ rangeD 0 n) : ∃ k : Nat, k < n ∧ d = .int (k : Nat) := by
  unfold rangeD at h
  obtain ⟨k, hk, rfl⟩ := List.mem_map.mp h
  exact ⟨k, List.mem_range.mp hk, by rw [Int.zero_add]⟩
theorem range_len {lo : Int} {n : Nat} : (rangeD lo n).length = n := by
  unfold rangeD
  rw [List.length_map, List.length_range]
/-- for k in range(max(1, min(c, len(script)))): .. -/
theorem law_for {ns : List Int} {c : Int} {f : FS} {E : DEnds} {rest : List Sl} (hc : 1 ≤ c ∧ c ≤ 100) (I : List Sl → Prop) (h0 : I (.scr ns :: rest))
    (hs : ∀ ρ (k : Nat) (N : List Sl → Prop), I ρ → (k : Int) < c → (∀ ρ', I ρ' → N ρ') → gN 1 (.int (k : Nat)) ρ fun ρ1 => f ρ1 { E with nx := N, ct := N, bk := E.nx }) (he : ∀ ρ, I ρ → E.nx ρ) :
    sFor 100 (fRange1 (eCB (g2 (gI fun i j => if j > i then j else i)) (dCons (eC (.int 1)) (dCons (eCB (g2 (gI fun i j => if j < i then j else i)) (dCons (eC (.int c)) (dCons (eLenS 0) dNil))) dNil)))) (gN 1) f (.scr ns :: rest) E := by
  have main : ∀ m : Int, 1 ≤ m → m ≤ c → (-(2 ^ 62) ≤ m ∧ m < 2 ^ 62) ∧ (rangeD 0 m.toNat).length ≤ 100 ∧ forD (gN 1) f (rangeD 0 m.toNat) (.scr ns :: rest) E := fun m h1 h2 => by
    refine ⟨⟨by omega, by omega⟩, by rw [range_len]; omega, for_inv I _ _ (fun ρ d N i hm k => ?_) h0 he⟩
    obtain ⟨j, hj, rfl⟩ := range_mem hm
    exact hs ρ j N i (by omega) k
  refine main (if (if ((ns.length : Nat) : Int) < c then ((ns.length : Nat) : Int) else c) > 1 then (if ((ns.length : Nat) : Int) < c then ((ns.length : Nat) : Int) else c) else 1) ?_ ?_
  · split <;> (try split) <;> omega
  · split <;> (try split) <;> omega
end Kd
/-! what beats keep -/
namespace Kd
open PySem PySem.Spec PyProof.Rows L2 Xg Dv
theorem mn_perm {a b : List Int} (h : ∀ x, x ∈ a ↔ x ∈ b) : mn a = mn b := by
  by_cases z : a = []
  · subst z
    have : b = [] := by
      cases b with
      | nil => rfl
      | cons y r => exact absurd ((h y).mpr (List.mem_cons_self ..)) (by simp)
    rw [this]
  · exact mn_is ((h _).mp (mn_mem z)) fun y hy => mn_le ((h y).mpr hy)
theorem mn_zero {l : List Int} (h : 0 ∈ l) (g : ∀ y ∈ l, 0 ≤ y) : mn l = 0 := (mn_is h g).symm
def Nn (l : List Int) : Prop := ∀ i, 0 ≤ l.getD i 0
def Wn (ws : List (Option Int)) : Prop := ∀ j x, ws.getD j none = some x → 0 ≤ x
/-- each bin holds from 0 to its room -/
structure Vd (rooms hs : List Int) : Prop where
  len : hs.length = rooms.length
  lo : ∀ i, i < rooms.length → 0 ≤ hs.getD i 0
  hi : ∀ i, i < rooms.length → hs.getD i 0 ≤ rooms.getD i 0
theorem get_out {l : List Int} {i : Nat} (h : l.length ≤ i) : l.getD i 0 = 0 := by
  rw [List.getD_eq_getElem?_getD, List.getElem?_eq_none h]
  rfl
theorem Vd.nn {rooms hs : List Int} (h : Vd rooms hs) : Nn hs := fun i => by
  by_cases z : i < rooms.length
  · exact h.lo i z
  · rw [get_out (by rw [h.len]; omega)]
    exact Int.le_refl _
theorem Vd.lack {rooms hs : List Int} (h : Vd rooms hs) : Nn (lackL rooms hs) := fun i => by
  unfold lackL
  by_cases z : i < rooms.length
  · rw [vec_get z]
    have := h.hi i z
    omega
  · rw [get_out (by rw [vec_len]; omega)]
    exact Int.le_refl _
theorem prev_nn {be : List Int} {j : Nat} (h : Nn be) : 0 ≤ prev be j := by
  unfold prev
  split
  · exact h _
  · exact h _
section
variable {row : Bool} {be ah : List Int} {ws : List (Option Int)} {j n : Nat}
theorem mem_bnd {ring : Bool} {w : Option Int} {x : Int} : x ∈ bnd ring be ah j w ↔ (w = some x ∨ ((ring || decide (0 < j)) = true ∧ x = prev be j) ∨ (j < ah.length ∧ x = ah.getD j 0)) := by
  unfold bnd
  rw [List.mem_append, List.mem_append]
  constructor
  · rintro ((h | h) | h)
    · left
      cases w with
      | none => simp at h
      | some y => simp at h; rw [h]
    · right; left
      split at h
      · exact ⟨by assumption, List.mem_singleton.mp h⟩
      · simp at h
    · right; right
      split at h
      · exact ⟨by assumption, List.mem_singleton.mp h⟩
      · simp at h
  · rintro (h | ⟨h, e⟩ | ⟨h, e⟩)
    · subst h
      left; left
      simp
    · left; right
      rw [if_pos h, e]
      simp
    · right
      rw [if_pos h, e]
      simp
theorem gone_nn (hb : Nn be) (ha : Nn ah) (hw : Wn ws) (lb : be.length = n) (la : ah.length = n) (n0 : 0 < n) : 0 ≤ gone row be ah ws j := by
  have h := mn_mem (bnd_ne (row := row) (ws := ws) (w := ws.getD j none) (j := j) lb la n0)
  unfold gone
  rcases mem_bnd.mp h with e | ⟨_, e⟩ | ⟨_, e⟩
  · exact hw j _ e
  · rw [e]
    exact prev_nn hb
  · rw [e]
    exact ha _
theorem gone_w {x : Int} (h : ws.getD j none = some x) : gone row be ah ws j ≤ x := mn_le (mem_bnd.mpr (.inl h))
theorem gone_a (h : j < ah.length) : gone row be ah ws j ≤ ah.getD j 0 := mn_le (mem_bnd.mpr (.inr (.inr ⟨h, rfl⟩)))
theorem gone_b (h : ((!row) || decide (0 < j)) = true) : gone row be ah ws j ≤ prev be j := mn_le (mem_bnd.mpr (.inr (.inl ⟨h, rfl⟩)))
/-- the gate out of bin i -/
theorem next_prev {i : Nat} (hi : i < n) (lb : be.length = n) : ((!row) || decide (0 < (i + 1) % gts row n)) = true ∧ prev be ((i + 1) % gts row n) = be.getD i 0 ∧ (i + 1) % gts row n < gts row n := by
  have g0 : 0 < gts row n := by
    unfold gts
    split <;> omega
  refine ⟨?_, ?_, Nat.mod_lt _ g0⟩
  · cases row with
    | false => rfl
    | true =>
      show (false || decide (0 < (i + 1) % (n + 1))) = true
      rw [Nat.mod_eq_of_lt (by omega)]
      simp
  · unfold prev
    cases row with
    | true =>
      show (if (i + 1) % (n + 1) = 0 then _ else be.getD ((i + 1) % (n + 1) - 1) 0) = _
      rw [Nat.mod_eq_of_lt (by omega), if_neg (by omega)]
      rfl
    | false =>
      show (if (i + 1) % n = 0 then be.getD (be.length - 1) 0 else be.getD ((i + 1) % n - 1) 0) = _
      by_cases z : i + 1 = n
      · rw [z, Nat.mod_self, if_pos rfl, lb, ← z]
        rfl
      · rw [Nat.mod_eq_of_lt (by omega), if_neg (by omega)]
        rfl
end
section
variable {row : Bool} {rooms hs : List Int} {ws : List (Option Int)} {forth : Bool}
theorem mvd_len : (mvd row rooms ws hs forth).length = ws.length := vec_len
theorem cnt_len : (cnt row rooms ws hs forth).length = ws.length := vec_len
theorem mvd_get {j : Nat} (h : j < ws.length) : (mvd row rooms ws hs forth).getD j 0 = if forth = true then gone row hs (lackL rooms hs) ws j else gone row (lackL rooms hs) hs ws j := by
  unfold mvd
  rw [vec_get h]
  cases forth <;> rfl
theorem cnt_get {j : Nat} (h : j < ws.length) : (cnt row rooms ws hs forth).getD j 0 = if forth = true then gone row hs (lackL rooms hs) ws j else -gone row (lackL rooms hs) hs ws j := by
  unfold cnt
  rw [vec_get h, mvd_get h]
  cases forth <;> rfl
theorem lack_len : (lackL rooms hs).length = rooms.length := vec_len
theorem lack_get {i : Nat} (h : i < rooms.length) : (lackL rooms hs).getD i 0 = rooms.getD i 0 - hs.getD i 0 := vec_get h
theorem bt_get (F : Ft row rooms ws hs) {i : Nat} (h : i < rooms.length) : (btL row rooms ws hs forth).getD i 0 = hs.getD i 0 + (cnt row rooms ws hs forth).getD i 0 - (cnt row rooms ws hs forth).getD ((i + 1) % gts row rooms.length) 0 := by
  unfold btL ledL
  rw [vec_get (by rw [F.nh]; exact h), cnt_len, F.nw]
theorem gate_lt (F : Ft row rooms ws hs) {i : Nat} (h : i < rooms.length) : i < ws.length := by
  rw [F.nw]
  unfold gts
  split <;> omega
/-- a beat keeps it -/
theorem Vd.next (F : Ft row rooms ws hs) (V : Vd rooms hs) (W : Wn ws) : Vd rooms (btL row rooms ws hs forth) := by
  have key : ∀ i, i < rooms.length → 0 ≤ (btL row rooms ws hs forth).getD i 0 ∧ (btL row rooms ws hs forth).getD i 0 ≤ rooms.getD i 0 := fun i hi => by
    have gi := gate_lt F hi
    have lk := lack_get (hs := hs) hi
    rw [bt_get F hi]
    cases forth with
    | true =>
      obtain ⟨p1, p2, p3⟩ := next_prev (row := row) (be := hs) hi F.nh
      have q : (i + 1) % gts row rooms.length < ws.length := by
        rw [F.nw]
        exact p3
      rw [cnt_get gi, cnt_get q]
      have a1 := gone_nn (row := row) (j := i) V.nn V.lack W F.nh lack_len F.n0
      have a2 := gone_nn (row := row) (j := (i + 1) % gts row rooms.length) V.nn V.lack W F.nh lack_len F.n0
      have a3 := gone_a (row := row) (be := hs) (ah := lackL rooms hs) (ws := ws) (j := i) (by rw [lack_len]; exact hi)
      have a4 := gone_b (row := row) (be := hs) (ah := lackL rooms hs) (ws := ws) p1
      rw [p2] at a4
      simp only [if_pos]
      omega
    | false =>
      obtain ⟨p1, p2, p3⟩ := next_prev (row := row) (be := lackL rooms hs) hi lack_len
      have q : (i + 1) % gts row rooms.length < ws.length := by
        rw [F.nw]
        exact p3
      rw [cnt_get gi, cnt_get q]
      have a1 := gone_nn (row := row) (j := i) V.lack V.nn W lack_len F.nh F.n0
      have a2 := gone_nn (row := row) (j := (i + 1) % gts row rooms.length) V.lack V.nn W lack_len F.nh F.n0
      have a3 := gone_a (row := row) (be := lackL rooms hs) (ah := hs) (ws := ws) (j := i) (by rw [F.nh]; exact hi)
      have a4 := gone_b (row := row) (be := lackL rooms hs) (ah := hs) (ws := ws) p1
      rw [p2] at a4
      simp only [Bool.false_eq_true, if_false]
      omega
  exact ⟨btL_len.trans F.nh, fun i hi => (key i hi).1, fun i hi => (key i hi).2⟩
/-- a shut gate lets none by -/
theorem gone_shut {be ah : List Int} {n j : Nat} (hb : Nn be) (ha : Nn ah) (hw : Wn ws) (lb : be.length = n) (la : ah.length = n) (n0 : 0 < n) (h : ws.getD j none = some 0) : gone row be ah ws j = 0 :=
  Int.le_antisymm (gone_w h) (gone_nn hb ha hw lb la n0)
theorem cnt_shut (F : Ft row rooms ws hs) (V : Vd rooms hs) (W : Wn ws) {j : Nat} (hj : j < ws.length) (h : ws.getD j none = some 0) : (cnt row rooms ws hs forth).getD j 0 = 0 := by
  rw [cnt_get hj, gone_shut V.nn V.lack W F.nh lack_len F.n0 h, gone_shut V.lack V.nn W lack_len F.nh F.n0 h]
  cases forth <;> rfl
end
end Kd
namespace Kd
open PySem PySem.Spec PyProof.Rows L2 Xg Dv
def f__law_of : FS := (sRet (eBin gIx (eVar 1) (eCall F_take (aBox 0 (aCons (eCB (g1 lenD) (dCons (eVar 1) dNil)) aNil)))))
@[irreducible] def F__law_of : FF := mkF 2 2 f__law_of
def t__law_of (K : PySem.W.Frag) : TS := (tRet (tOp (rIx K) (tVar 1) (tCallG (spD K 1 F_take) (tCons (tVar 0) (tCons (tCB (fun xs H Q => ∃ x n, xs = [x] ∧ LenV K x H n ∧ Q (.int n) H) (tCons (tVar 1) tNil)) tNil)))))
theorem s__law_of (K : PySem.W.Frag) : SndS K (t__law_of K) 1 f__law_of := (snds_ret (snd_op ops_ix snd_var (snd_call m_take (snda_box (snda_cons (snd_cb cs_len (sndd_cons snd_var sndd_nil)) snda_nil)))))
theorem m__law_of (K : PySem.W.Frag) : MonoF F__law_of := by
  unfold F__law_of
  exact mkF_mono (s__law_of K)
def f__law_wide : FS := (sRet (eBin (gIc (fun _ j => 0 < j) fun i j => i % j) (eBin gAdd (eBin gMul (eCall F_take (aBox 0 (aCons (eBin (gIc CPow fun i j => i ^ j.toNat) (eC (.int 10)) (eC (.int 6))) aNil))) (eBin (gIc CPow fun i j => i ^ j.toNat) (eC (.int 10)) (eC (.int 6)))) (eCall F_take (aBox 0 (aCons (eBin (gIc CPow fun i j => i ^ j.toNat) (eC (.int 10)) (eC (.int 6))) aNil)))) (eVar 1)))
@[irreducible] def F__law_wide : FF := mkF 2 2 f__law_wide
def t__law_wide (K : PySem.W.Frag) : TS := (tRet (tOp (rI (fun _ j => 0 < j) fun i j => .int (i % j)) (tOp (rAdd K) (tOp (rMul K) (tCallG (spD K 1 F_take) (tCons (tVar 0) (tCons (tOp (rI CPow fun i j => .int (i ^ j.toNat)) (tC (.int 10)) (tC (.int 6))) tNil))) (tOp (rI CPow fun i j => .int (i ^ j.toNat)) (tC (.int 10)) (tC (.int 6)))) (tCallG (spD K 1 F_take) (tCons (tVar 0) (tCons (tOp (rI CPow fun i j => .int (i ^ j.toNat)) (tC (.int 10)) (tC (.int 6))) tNil)))) (tVar 1)))
theorem s__law_wide (K : PySem.W.Frag) : SndS K (t__law_wide K) 2 f__law_wide := (snds_ret (snd_op ops_Ic (snd_op ops_add (snd_op ops_mul (snd_call m_take (snda_box (snda_cons (snd_op ops_Ic snd_int snd_int) snda_nil))) (snd_op ops_Ic snd_int snd_int)) (snd_call m_take (snda_box (snda_cons (snd_op ops_Ic snd_int snd_int) snda_nil)))) snd_var))
theorem m__law_wide (K : PySem.W.Frag) : MonoF F__law_wide := by
  unfold F__law_wide
  exact mkF_mono (s__law_wide K)
@[irreducible] def f__law_line_0 : FS := (sRet (eTup (dCons (eIf (fAnd (fTest (eBin (gC fun i j => decide (j < i)) (eVar 2) (eC (.int 1)))) (fTest (eBin gEq (eCall F_take (aBox 0 (aCons (eC (.int 3)) aNil))) (eC (.int 0))))) (eC (.str "ring")) (eC (.str "row"))) (dCons (eVar 3) dNil))))
def t__law_line_0 (K : PySem.W.Frag) : TS := (tRet (tTup (tCons (tIf (tAnd (tTest (tOp (rI0 fun i j => .bl (decide (j < i))) (tVar 2) (tC (.int 1)))) (tTest (tOp (rEqX K) (tCallG (spD K 1 F_take) (tCons (tVar 0) (tCons (tC (.int 3)) tNil))) (tC (.int 0))))) (tC (.str "ring")) (tC (.str "row"))) (tCons (tVar 3) tNil))))
theorem s__law_line_0 (K : PySem.W.Frag) : SndS K (t__law_line_0 K) 1 f__law_line_0 := by
  unfold f__law_line_0
  exact (snds_ret (snd_tup (sndd_cons (snd_if (sndt_and (sndt_test (snd_op ops_C snd_var snd_int)) (sndt_test (snd_op ops_eq (snd_call m_take (snda_box (snda_cons snd_int snda_nil))) snd_int))) snd_str snd_str) (sndd_cons snd_var sndd_nil)) (by decide)))
@[irreducible] def f__law_line_1 : FS := (sSeq (sAsg (eUn tupD (eL (fComp 100 (fRange1 (eVar 2)) [4] (gN 4) fYes (eBin gIx (eLst (dCons (eC (.int 1)) (dCons (eC (.int 2)) (dCons (eC (.int 3)) (dCons (eBin gAdd (eC (.int 1)) (eCall F_take (aBox 0 (aCons (eC (.int 9)) aNil)))) dNil))))) (eCall F_take (aBox 0 (aCons (eC (.int 4)) aNil))))))) (gN 3)) f__law_line_0)
def t__law_line_1 (K : PySem.W.Frag) : TS := (tSeq (tAsg (tThen (tLc (iRng1 (tCons (tVar 2) tNil)) (gName 4) tYes (tOp (rIx K) (tLst (tCons (tC (.int 1)) (tCons (tC (.int 2)) (tCons (tC (.int 3)) (tCons (tOp (rAdd K) (tC (.int 1)) (tCallG (spD K 1 F_take) (tCons (tVar 0) (tCons (tC (.int 9)) tNil)))) tNil))))) (tCallG (spD K 1 F_take) (tCons (tVar 0) (tCons (tC (.int 4)) tNil)))) [4]) (kTup K)) (gName 3)) (t__law_line_0 K))
theorem s__law_line_1 (K : PySem.W.Frag) : SndS K (t__law_line_1 K) 201 f__law_line_1 := by
  unfold f__law_line_1
  exact (snds_seq (snds_asg (vs := [3]) (snd_tupOf (SndL.d (sndl_comp (N := 100) (by decide) (sndi_range1 snd_var) (sndg_name (by decide)) sndt_yes (snd_op ops_ix (SndL.d (sndl_lst (sndd_cons snd_int (sndd_cons snd_int (sndd_cons snd_int (sndd_cons (snd_op ops_add snd_int (snd_call m_take (snda_box (snda_cons snd_int snda_nil)))) sndd_nil)))) (by decide))) (snd_call m_take (snda_box (snda_cons snd_int snda_nil))))))) (sndg_name (by decide))) (s__law_line_0 K))
def f__law_line : FS := (sSeq (sAsg (eBin gAdd (eC (.int 1)) (eCall F_take (aBox 0 (aCons (eVar 1) aNil)))) (gN 2)) f__law_line_1)
@[irreducible] def F__law_line : FF := mkF 2 5 f__law_line
def t__law_line (K : PySem.W.Frag) : TS := (tSeq (tAsg (tOp (rAdd K) (tC (.int 1)) (tCallG (spD K 1 F_take) (tCons (tVar 0) (tCons (tVar 1) tNil)))) (gName 2)) (t__law_line_1 K))
theorem s__law_line (K : PySem.W.Frag) : SndS K (t__law_line K) 202 f__law_line := (snds_seq (snds_asg (vs := [2]) (snd_op ops_add snd_int (snd_call m_take (snda_box (snda_cons snd_var snda_nil)))) (sndg_name (by decide))) (s__law_line_1 K))
theorem m__law_line (K : PySem.W.Frag) : MonoF F__law_line := by
  unfold F__law_line
  exact mkF_mono (s__law_line K)
@[irreducible] def f__law_doors_0 : FS := (sRet (eUn tupD (eL (fComp 100 (fRange1 (eVar 2)) [3] (gN 3) fYes (eBin gIx (eLst (dCons (eC .none) (dCons (eC (.int 0)) (dCons (eBin gAdd (eC (.int 1)) (eCall F_take (aBox 0 (aCons (eC (.int 4)) aNil)))) (dCons (eC .none) (dCons (eCall F_take (aBox 0 (aCons (eC (.int 9)) aNil))) dNil)))))) (eCall F_take (aBox 0 (aCons (eC (.int 5)) aNil))))))))
def t__law_doors_0 (K : PySem.W.Frag) : TS := (tRet (tThen (tLc (iRng1 (tCons (tVar 2) tNil)) (gName 3) tYes (tOp (rIx K) (tLst (tCons (tC .non) (tCons (tC (.int 0)) (tCons (tOp (rAdd K) (tC (.int 1)) (tCallG (spD K 1 F_take) (tCons (tVar 0) (tCons (tC (.int 4)) tNil)))) (tCons (tC .non) (tCons (tCallG (spD K 1 F_take) (tCons (tVar 0) (tCons (tC (.int 9)) tNil))) tNil)))))) (tCallG (spD K 1 F_take) (tCons (tVar 0) (tCons (tC (.int 5)) tNil)))) [3]) (kTup K)))
theorem s__law_doors_0 (K : PySem.W.Frag) : SndS K (t__law_doors_0 K) 300 f__law_doors_0 := by
  unfold f__law_doors_0
  exact (snds_ret (snd_tupOf (SndL.d (sndl_comp (N := 100) (by decide) (sndi_range1 snd_var) (sndg_name (by decide)) sndt_yes (snd_op ops_ix (SndL.d (sndl_lst (sndd_cons snd_non (sndd_cons snd_int (sndd_cons (snd_op ops_add snd_int (snd_call m_take (snda_box (snda_cons snd_int snda_nil)))) (sndd_cons snd_non (sndd_cons (snd_call m_take (snda_box (snda_cons snd_int snda_nil))) sndd_nil))))) (by decide))) (snd_call m_take (snda_box (snda_cons snd_int snda_nil))))))))
def f__law_doors : FS := (sSeq (sAsg (eBin gAdd (eCB (g1 lenD) (dCons (eBin gIx (eVar 1) (eC (.int 1))) dNil)) (eCB (g1 intD) (dCons (eBin gEq (eBin gIx (eVar 1) (eC (.int 0))) (eC (.str "row"))) dNil))) (gN 2)) f__law_doors_0)
@[irreducible] def F__law_doors : FF := mkF 2 4 f__law_doors
def t__law_doors (K : PySem.W.Frag) : TS := (tSeq (tAsg (tOp (rAdd K) (tCB (fun xs H Q => ∃ x n, xs = [x] ∧ LenV K x H n ∧ Q (.int n) H) (tCons (tOp (rIx K) (tVar 1) (tC (.int 1))) tNil)) (tCB (fun xs H Q => (∃ i, xs = [.int i] ∧ Q (.int i) H) ∨ ∃ k, xs = [.bl k] ∧ Q (.int (if k then 1 else 0)) H) (tCons (tOp (rEqX K) (tOp (rIx K) (tVar 1) (tC (.int 0))) (tC (.str "row"))) tNil))) (gName 2)) (t__law_doors_0 K))
theorem s__law_doors (K : PySem.W.Frag) : SndS K (t__law_doors K) 300 f__law_doors := (snds_seq (snds_asg (vs := [2]) (snd_op ops_add (snd_cb cs_len (sndd_cons (snd_op ops_ix snd_var snd_int) sndd_nil)) (snd_cb cs_int (sndd_cons (snd_op ops_eq (snd_op ops_ix snd_var snd_int) snd_str) sndd_nil))) (sndg_name (by decide))) (s__law_doors_0 K))
theorem m__law_doors (K : PySem.W.Frag) : MonoF F__law_doors := by
  unfold F__law_doors
  exact mkF_mono (s__law_doors K)
@[irreducible] def f__law_lies_0 : FS := (sRet (eUn tupD (eL (fComp 100 (fIt (eBin gIx (eVar 1) (eC (.int 1)))) [3] (gN 3) fYes (eCall F_take (aBox 0 (aCons (eBin gAdd (eVar 3) (eC (.int 1))) aNil)))))))
def t__law_lies_0 (K : PySem.W.Frag) : TS := (tRet (tThen (tLc (Pw.iSeq K (tOp (rIx K) (tVar 1) (tC (.int 1)))) (gName 3) tYes (tCallG (spD K 1 F_take) (tCons (tVar 0) (tCons (tOp (rAdd K) (tVar 3) (tC (.int 1))) tNil))) [3]) (kTup K)))
theorem s__law_lies_0 (K : PySem.W.Frag) : SndS K (t__law_lies_0 K) 100 f__law_lies_0 := by
  unfold f__law_lies_0
  exact (snds_ret (snd_tupOf (SndL.d (sndl_comp (N := 100) (by decide) (sndi_seq (Snd.v (snd_op ops_ix snd_var snd_int))) (sndg_name (by decide)) sndt_yes (snd_call m_take (snda_box (snda_cons (snd_op ops_add snd_var snd_int) snda_nil)))))))
@[irreducible] def f__law_lies_1 : FS := (sSeq (sIf (fTest (eBin (gC fun i j => decide (i < j)) (eVar 2) (eC (.int 2)))) (sRet (eUn tupD (eL (fComp 1000000 (fIt (eBin gIx (eVar 1) (eC (.int 1)))) [3] (gN 3) fYes (eBin gMul (eVar 3) (eVar 2)))))) sSkip) f__law_lies_0)
def t__law_lies_1 (K : PySem.W.Frag) : TS := (tSeq (tIfS (tTest (tOp (rI0 fun i j => .bl (decide (i < j))) (tVar 2) (tC (.int 2)))) (tRet (tThen (tLc (Pw.iSeq K (tOp (rIx K) (tVar 1) (tC (.int 1)))) (gName 3) tYes (tOp (rMul K) (tVar 3) (tVar 2)) [3]) (kTup K))) tNext) (t__law_lies_0 K))
theorem s__law_lies_1 (K : PySem.W.Frag) : SndS K (t__law_lies_1 K) 100 f__law_lies_1 := by
  unfold f__law_lies_1
  exact (snds_seq (snds_if (sndt_test (snd_op ops_C snd_var snd_int)) (snds_ret (snd_tupOf (SndL.d (sndl_comp (N := 1000000) (by decide) (sndi_seq (Snd.v (snd_op ops_ix snd_var snd_int))) (sndg_name (by decide)) sndt_yes (snd_op ops_mul snd_var snd_var))))) snds_nil) (s__law_lies_0 K))
def f__law_lies : FS := (sSeq (sAsg (eCall F_take (aBox 0 (aCons (eC (.int 8)) aNil))) (gN 2)) f__law_lies_1)
@[irreducible] def F__law_lies : FF := mkF 2 4 f__law_lies
def t__law_lies (K : PySem.W.Frag) : TS := (tSeq (tAsg (tCallG (spD K 1 F_take) (tCons (tVar 0) (tCons (tC (.int 8)) tNil))) (gName 2)) (t__law_lies_1 K))
theorem s__law_lies (K : PySem.W.Frag) : SndS K (t__law_lies K) 101 f__law_lies := (snds_seq (snds_asg (vs := [2]) (snd_call m_take (snda_box (snda_cons snd_int snda_nil))) (sndg_name (by decide))) (s__law_lies_1 K))
theorem m__law_lies (K : PySem.W.Frag) : MonoF F__law_lies := by
  unfold F__law_lies
  exact mkF_mono (s__law_lies K)
@[irreducible] def f__law_great_line_0 : FS := (sRet (eTup (dCons (eVar 4) (dCons (eUn tupD (eVarV 5)) (dCons (eUn tupD (eL (fComp 100 (fIt (eVar 3)) [8] (gN 8) fYes (eCall F__law_wide (aBox 0 (aCons (eBin gAdd (eVar 8) (eC (.int 1))) aNil)))))) dNil)))))
def t__law_great_line_0 (K : PySem.W.Frag) : TS := (tRet (tTup (tCons (tVar 4) (tCons (tThen (tVar 5) (kTup K)) (tCons (tThen (tLc (Pw.iSeq K (tVar 3)) (gName 8) tYes (tCallG (spD K 2 F__law_wide) (tCons (tVar 0) (tCons (tOp (rAdd K) (tVar 8) (tC (.int 1))) tNil))) [8]) (kTup K)) tNil)))))
theorem s__law_great_line_0 (K : PySem.W.Frag) : SndS K (t__law_great_line_0 K) 200 f__law_great_line_0 := by
  unfold f__law_great_line_0
  exact (snds_ret (snd_tup (sndd_cons snd_var (sndd_cons (snd_tupOf sndV_var) (sndd_cons (snd_tupOf (SndL.d (sndl_comp (N := 100) (by decide) (sndi_seq (Snd.v snd_var)) (sndg_name (by decide)) sndt_yes (snd_call (m__law_wide K) (snda_box (snda_cons (snd_op ops_add snd_var snd_int) snda_nil)))))) sndd_nil))) (by decide)))
@[irreducible] def f__law_great_line_1 : FS := (sSeq (sFor 100 (fRange1 (eBin gAdd (eVar 2) (eCB (g1 intD) (dCons (eBin gEq (eBin gIx (eVar 4) (eC (.int 0))) (eC (.str "row"))) dNil)))) (gN 6) (sApp 5 (eBin gIx (eLst (dCons (eC .none) (dCons (eCall F__law_wide (aBox 0 (aCons (eBin (gIc CPow fun i j => i ^ j.toNat) (eC (.int 10)) (eC (.int 9))) aNil))) (dCons (eBin gAdd (eC (.int 1)) (eCall F_take (aBox 0 (aCons (eC (.int 9)) aNil)))) (dCons (eC (.int 0)) dNil))))) (eBin gIx (eLst (dCons (eC (.int 0)) (dCons (eC (.int 0)) (dCons (eC (.int 1)) (dCons (eC (.int 1)) (dCons (eC (.int 2)) (dCons (eC (.int 3)) dNil))))))) (eCall F_take (aBox 0 (aCons (eC (.int 6)) aNil))))))) f__law_great_line_0)
def t__law_great_line_1 (K : PySem.W.Frag) : TS := (tSeq (tFor (iRng1 (tCons (tOp (rAdd K) (tVar 2) (tCB (fun xs H Q => (∃ i, xs = [.int i] ∧ Q (.int i) H) ∨ ∃ k, xs = [.bl k] ∧ Q (.int (if k then 1 else 0)) H) (tCons (tOp (rEqX K) (tOp (rIx K) (tVar 4) (tC (.int 0))) (tC (.str "row"))) tNil))) tNil)) (gName 6) (tDrop (tBM K "list" rAppend (tVar 5) (tCons (tOp (rIx K) (tLst (tCons (tC .non) (tCons (tCallG (spD K 2 F__law_wide) (tCons (tVar 0) (tCons (tOp (rI CPow fun i j => .int (i ^ j.toNat)) (tC (.int 10)) (tC (.int 9))) tNil))) (tCons (tOp (rAdd K) (tC (.int 1)) (tCallG (spD K 1 F_take) (tCons (tVar 0) (tCons (tC (.int 9)) tNil)))) (tCons (tC (.int 0)) tNil))))) (tOp (rIx K) (tLst (tCons (tC (.int 0)) (tCons (tC (.int 0)) (tCons (tC (.int 1)) (tCons (tC (.int 1)) (tCons (tC (.int 2)) (tCons (tC (.int 3)) tNil))))))) (tCallG (spD K 1 F_take) (tCons (tVar 0) (tCons (tC (.int 6)) tNil))))) tNil)))) (t__law_great_line_0 K))
theorem s__law_great_line_1 (K : PySem.W.Frag) : SndS K (t__law_great_line_1 K) 600 f__law_great_line_1 := by
  unfold f__law_great_line_1
  exact (snds_seq (snds_for (vs := [6]) (N := 100) (sndi_range1 (snd_op ops_add snd_var (snd_cb cs_int (sndd_cons (snd_op ops_eq (snd_op ops_ix snd_var snd_int) snd_str) sndd_nil)))) (sndg_name (by decide)) (snds_app (snd_op ops_ix (SndL.d (sndl_lst (sndd_cons snd_non (sndd_cons (snd_call (m__law_wide K) (snda_box (snda_cons (snd_op ops_Ic snd_int snd_int) snda_nil))) (sndd_cons (snd_op ops_add snd_int (snd_call m_take (snda_box (snda_cons snd_int snda_nil)))) (sndd_cons snd_int sndd_nil)))) (by decide))) (snd_op ops_ix (SndL.d (sndl_lst (sndd_cons snd_int (sndd_cons snd_int (sndd_cons snd_int (sndd_cons snd_int (sndd_cons snd_int (sndd_cons snd_int sndd_nil)))))) (by decide))) (snd_call m_take (snda_box (snda_cons snd_int snda_nil))))))) (s__law_great_line_0 K))
@[irreducible] def f__law_great_line_2 : FS := (sSeq (sOwn dNil 5) f__law_great_line_1)
def t__law_great_line_2 (K : PySem.W.Frag) : TS := (tSeq (tAsg (tLst tNil) (gName 5)) (t__law_great_line_1 K))
theorem s__law_great_line_2 (K : PySem.W.Frag) : SndS K (t__law_great_line_2 K) 600 f__law_great_line_2 := by
  unfold f__law_great_line_2
  exact (snds_seq (snds_own (sndl_lst sndd_nil (by decide))) (s__law_great_line_1 K))
@[irreducible] def f__law_great_line_3 : FS := (sSeq (sAsg (eTup (dCons (eIf (fTest (eBin gEq (eCall F_take (aBox 0 (aCons (eC (.int 3)) aNil))) (eC (.int 0)))) (eC (.str "ring")) (eC (.str "row"))) (dCons (eVar 3) dNil))) (gN 4)) f__law_great_line_2)
def t__law_great_line_3 (K : PySem.W.Frag) : TS := (tSeq (tAsg (tTup (tCons (tIf (tTest (tOp (rEqX K) (tCallG (spD K 1 F_take) (tCons (tVar 0) (tCons (tC (.int 3)) tNil))) (tC (.int 0)))) (tC (.str "ring")) (tC (.str "row"))) (tCons (tVar 3) tNil))) (gName 4)) (t__law_great_line_2 K))
theorem s__law_great_line_3 (K : PySem.W.Frag) : SndS K (t__law_great_line_3 K) 601 f__law_great_line_3 := by
  unfold f__law_great_line_3
  exact (snds_seq (snds_asg (vs := [4]) (snd_tup (sndd_cons (snd_if (sndt_test (snd_op ops_eq (snd_call m_take (snda_box (snda_cons snd_int snda_nil))) snd_int)) snd_str snd_str) (sndd_cons snd_var sndd_nil)) (by decide)) (sndg_name (by decide))) (s__law_great_line_2 K))
@[irreducible] def f__law_great_line_4 : FS := (sSeq (sAsg (eUn tupD (eL (fComp 100 (fRange1 (eVar 2)) [7] (gN 7) fYes (eBin gAdd (eC (.int 1)) (eCall F__law_wide (aBox 0 (aCons (eBin (gIc CPow fun i j => i ^ j.toNat) (eC (.int 10)) (eC (.int 9))) aNil))))))) (gN 3)) f__law_great_line_3)
def t__law_great_line_4 (K : PySem.W.Frag) : TS := (tSeq (tAsg (tThen (tLc (iRng1 (tCons (tVar 2) tNil)) (gName 7) tYes (tOp (rAdd K) (tC (.int 1)) (tCallG (spD K 2 F__law_wide) (tCons (tVar 0) (tCons (tOp (rI CPow fun i j => .int (i ^ j.toNat)) (tC (.int 10)) (tC (.int 9))) tNil)))) [7]) (kTup K)) (gName 3)) (t__law_great_line_3 K))
theorem s__law_great_line_4 (K : PySem.W.Frag) : SndS K (t__law_great_line_4 K) 801 f__law_great_line_4 := by
  unfold f__law_great_line_4
  exact (snds_seq (snds_asg (vs := [3]) (snd_tupOf (SndL.d (sndl_comp (N := 100) (by decide) (sndi_range1 snd_var) (sndg_name (by decide)) sndt_yes (snd_op ops_add snd_int (snd_call (m__law_wide K) (snda_box (snda_cons (snd_op ops_Ic snd_int snd_int) snda_nil))))))) (sndg_name (by decide))) (s__law_great_line_3 K))
def f__law_great_line : FS := (sSeq (sAsg (eBin gAdd (eC (.int 2)) (eCall F_take (aBox 0 (aCons (eBin (gI fun i j => i - j) (eVar 1) (eC (.int 1))) aNil)))) (gN 2)) f__law_great_line_4)
@[irreducible] def F__law_great_line : FF := mkF 2 9 f__law_great_line
def t__law_great_line (K : PySem.W.Frag) : TS := (tSeq (tAsg (tOp (rAdd K) (tC (.int 2)) (tCallG (spD K 1 F_take) (tCons (tVar 0) (tCons (tOp (rI0 fun i j => .int (i - j)) (tVar 1) (tC (.int 1))) tNil)))) (gName 2)) (t__law_great_line_4 K))
theorem s__law_great_line (K : PySem.W.Frag) : SndS K (t__law_great_line K) 802 f__law_great_line := (snds_seq (snds_asg (vs := [2]) (snd_op ops_add snd_int (snd_call m_take (snda_box (snda_cons (snd_op ops_I snd_var snd_int) snda_nil)))) (sndg_name (by decide))) (s__law_great_line_4 K))
theorem m__law_great_line (K : PySem.W.Frag) : MonoF F__law_great_line := by
  unfold F__law_great_line
  exact mkF_mono (s__law_great_line K)
end Kd
/-! lines turned about -/
namespace Kd
open PySem PySem.Spec PyProof.Rows L2 Xg Dv
theorem ext_get {a b : List Int} (hl : a.length = b.length) (h : ∀ i, i < a.length → a.getD i 0 = b.getD i 0) : a = b := by
  rw [list_vec a, list_vec b, ← hl]
  exact vec_ext h
/-- the gate, the line turned about -/
def tau (row : Bool) (n j : Nat) : Nat := if row = true then n - j else (n - j) % n
/-- one for each gate, turned about -/
def ov {α : Type} (row : Bool) (l : List α) : List α := if row = true then l.reverse else l.take 1 ++ (l.drop 1).reverse
section
variable {α : Type} {row : Bool} {n j : Nat}
theorem ov_len {l : List α} : (ov row l).length = l.length := by
  unfold ov
  split
  · exact List.length_reverse
  · rw [List.length_append, List.length_reverse, List.length_take, List.length_drop]
    omega
theorem tau_lt (n0 : 0 < n) : tau row n j < gts row n := by
  unfold tau gts
  cases row with
  | true => show n - j < n + 1; omega
  | false => exact Nat.mod_lt _ n0
theorem ov_at {l : List α} (hl : l.length = gts row n) (n0 : 0 < n) (hj : j < gts row n) : (ov row l)[j]? = l[tau row n j]? := by
  unfold ov tau
  cases row with
  | true =>
    have hl : l.length = n + 1 := hl
    have hj : j < n + 1 := hj
    show l.reverse[j]? = l[n - j]?
    rw [List.getElem?_reverse (by omega), hl]
    rfl
  | false =>
    have hl : l.length = n := hl
    have hj : j < n := hj
    show (l.take 1 ++ (l.drop 1).reverse)[j]? = l[(n - j) % n]?
    have t1 : (l.take 1).length = 1 := by rw [List.length_take]; omega
    by_cases z : j = 0
    · subst z
      rw [List.getElem?_append_left (by omega), Nat.sub_zero, Nat.mod_self, List.getElem?_take]
      rfl
    · rw [List.getElem?_append_right (by omega), t1, List.getElem?_reverse (by rw [List.length_drop]; omega), List.getElem?_drop, List.length_drop, Nat.mod_eq_of_lt (by omega)]
      congr 1
      omega
theorem ov_get {l : List α} {d : α} (hl : l.length = gts row n) (n0 : 0 < n) (hj : j < gts row n) : (ov row l).getD j d = l.getD (tau row n j) d := by
  rw [List.getD_eq_getElem?_getD, List.getD_eq_getElem?_getD, ov_at hl n0 hj]
theorem ov_map {β : Type} {f : α → β} {l : List α} : ov row (l.map f) = (ov row l).map f := by
  unfold ov
  cases row with
  | true => exact List.map_reverse.symm
  | false =>
    show (l.map f).take 1 ++ ((l.map f).drop 1).reverse = (l.take 1 ++ (l.drop 1).reverse).map f
    rw [List.map_append, List.map_reverse, List.map_take, List.map_drop]
theorem rev_get {l : List Int} {i : Nat} (h : i < l.length) : l.reverse.getD i 0 = l.getD (l.length - 1 - i) 0 := by
  rw [List.getD_eq_getElem?_getD, List.getD_eq_getElem?_getD, List.getElem?_reverse h]
variable {be ah : List Int} {ws : List (Option Int)}
theorem prev_tau (la : ah.length = n) (n0 : 0 < n) (hj : j < gts row n) : (((!row) || decide (0 < j)) = true ↔ tau row n j < ah.length) ∧ (((!row) || decide (0 < j)) = true → prev ah.reverse j = ah.getD (tau row n j) 0) := by
  unfold tau prev
  cases row with
  | true =>
    have hj : j < n + 1 := hj
    show ((false || decide (0 < j)) = true ↔ n - j < ah.length) ∧ ((false || decide (0 < j)) = true → (if j = 0 then _ else _) = ah.getD (n - j) 0)
    rw [Bool.false_or, decide_eq_true_eq]
    refine ⟨by omega, fun z => ?_⟩
    rw [if_neg (by omega), rev_get (by omega)]
    congr 1
    omega
  | false =>
    have hj : j < n := hj
    show ((true || decide (0 < j)) = true ↔ (n - j) % n < ah.length) ∧ ((true || decide (0 < j)) = true → (if j = 0 then _ else _) = ah.getD ((n - j) % n) 0)
    have := Nat.mod_lt (n - j) n0
    refine ⟨⟨fun _ => by omega, fun _ => rfl⟩, fun _ => ?_⟩
    by_cases z : j = 0
    · subst z
      rw [if_pos rfl, rev_get (by rw [List.length_reverse]; omega), Nat.sub_zero, Nat.mod_self, List.length_reverse]
      congr 1
      omega
    · rw [if_neg z, rev_get (by omega), Nat.mod_eq_of_lt (by omega)]
      congr 1
      omega
theorem next_tau (lb : be.length = n) (n0 : 0 < n) (hj : j < gts row n) : (j < be.length ↔ ((!row) || decide (0 < tau row n j)) = true) ∧ (j < be.length → be.reverse.getD j 0 = prev be (tau row n j)) := by
  unfold tau prev
  cases row with
  | true =>
    have hj : j < n + 1 := hj
    show (j < be.length ↔ (false || decide (0 < n - j)) = true) ∧ (j < be.length → be.reverse.getD j 0 = if n - j = 0 then _ else be.getD (n - j - 1) 0)
    rw [Bool.false_or, decide_eq_true_eq]
    refine ⟨by omega, fun z => ?_⟩
    rw [if_neg (by omega), rev_get z]
    congr 1
    omega
  | false =>
    have hj : j < n := hj
    show (j < be.length ↔ (true || decide (0 < (n - j) % n)) = true) ∧ (j < be.length → be.reverse.getD j 0 = if (n - j) % n = 0 then be.getD (be.length - 1) 0 else be.getD ((n - j) % n - 1) 0)
    refine ⟨⟨fun _ => rfl, fun _ => by omega⟩, fun z => ?_⟩
    rw [rev_get z]
    by_cases y : j = 0
    · subst y
      rw [show (n - 0) % n = 0 by rw [Nat.sub_zero, Nat.mod_self], if_pos rfl]
      rfl
    · rw [Nat.mod_eq_of_lt (by omega), if_neg (by omega)]
      congr 1
      omega
/-- turned about, what lay behind lies ahead -/
theorem gone_ov (lb : be.length = n) (la : ah.length = n) (lw : ws.length = gts row n) (n0 : 0 < n) (hj : j < gts row n) : gone row ah.reverse be.reverse (ov row ws) j = gone row be ah ws (tau row n j) := by
  obtain ⟨a1, a2⟩ := prev_tau (row := row) la n0 hj
  obtain ⟨b1, b2⟩ := next_tau (row := row) lb n0 hj
  unfold gone
  rw [ov_get lw n0 hj]
  refine mn_perm fun x => ?_
  rw [mem_bnd, mem_bnd, List.length_reverse]
  constructor
  · rintro (h | ⟨h, e⟩ | ⟨h, e⟩)
    · exact .inl h
    · exact .inr (.inr ⟨a1.mp h, by rw [e, a2 h]⟩)
    · exact .inr (.inl ⟨b1.mp h, by rw [e, b2 h]⟩)
  · rintro (h | ⟨h, e⟩ | ⟨h, e⟩)
    · exact .inl h
    · exact .inr (.inr ⟨b1.mpr h, by rw [e, b2 (b1.mpr h)]⟩)
    · exact .inr (.inl ⟨a1.mpr h, by rw [e, a2 (a1.mpr h)]⟩)
end
section
variable {row : Bool} {rooms hs cs : List Int} {ws : List (Option Int)} {f : Bool}
theorem lack_rev (h : hs.length = rooms.length) : lackL rooms.reverse hs.reverse = (lackL rooms hs).reverse := ext_get (by rw [lack_len, List.length_reverse, List.length_reverse, lack_len]) fun i hi => by
  rw [lack_len, List.length_reverse] at hi
  rw [lack_get (by rw [List.length_reverse]; exact hi), rev_get hi, rev_get (by omega), rev_get (by rw [lack_len]; exact hi), lack_get (by rw [lack_len]; omega), lack_len, h]
theorem lack_lack (h : hs.length = rooms.length) : lackL rooms (lackL rooms hs) = hs := ext_get (by rw [lack_len, h]) fun i hi => by
  rw [lack_len] at hi
  rw [lack_get hi, lack_get hi]
  omega
/-- how many go by each gate -/
theorem mv_holes (F : Ft row rooms ws hs) : mvd row rooms.reverse (ov row ws) (lackL rooms hs).reverse f = ov row (mvd row rooms ws hs f) := by
  have lw := F.nw
  refine ext_get (by rw [mvd_len, ov_len, ov_len, mvd_len]) fun j hj => ?_
  rw [mvd_len, ov_len, lw] at hj
  have tl := tau_lt (row := row) (j := j) F.n0
  rw [mvd_get (by rw [ov_len, lw]; exact hj), ov_get (by rw [mvd_len, lw]) F.n0 hj, mvd_get (by rw [lw]; exact tl), lack_rev lack_len, lack_lack F.nh, gone_ov F.nh lack_len lw F.n0 hj, gone_ov lack_len F.nh lw F.n0 hj]
theorem mv_turn (F : Ft row rooms ws hs) : mvd row rooms.reverse (ov row ws) hs.reverse (!f) = ov row (mvd row rooms ws hs f) := by
  have lw := F.nw
  refine ext_get (by rw [mvd_len, ov_len, ov_len, mvd_len]) fun j hj => ?_
  rw [mvd_len, ov_len, lw] at hj
  have tl := tau_lt (row := row) (j := j) F.n0
  rw [mvd_get (by rw [ov_len, lw]; exact hj), ov_get (by rw [mvd_len, lw]) F.n0 hj, mvd_get (by rw [lw]; exact tl), lack_rev F.nh, gone_ov F.nh lack_len lw F.n0 hj, gone_ov lack_len F.nh lw F.n0 hj]
  cases f <;> rfl
def ng (l : List Int) : List Int := l.map fun x => -x
theorem ng_len {l : List Int} : (ng l).length = l.length := List.length_map ..
theorem ng_get {l : List Int} {i : Nat} : (ng l).getD i 0 = -l.getD i 0 := by
  unfold ng
  rw [List.getD_eq_getElem?_getD, List.getD_eq_getElem?_getD, List.getElem?_map]
  cases l[i]? <;> rfl
theorem ct_holes (F : Ft row rooms ws hs) : cnt row rooms.reverse (ov row ws) (lackL rooms hs).reverse f = ov row (cnt row rooms ws hs f) := by
  have lw := F.nw
  refine ext_get (by rw [cnt_len, ov_len, ov_len, cnt_len]) fun j hj => ?_
  rw [cnt_len, ov_len, lw] at hj
  have tl := tau_lt (row := row) (j := j) F.n0
  rw [ov_get (by rw [cnt_len, lw]) F.n0 hj]
  unfold cnt
  rw [vec_get (by rw [ov_len, lw]; exact hj), vec_get (by rw [lw]; exact tl), mv_holes F, ov_get (by rw [mvd_len, lw]) F.n0 hj]
theorem ct_turn (F : Ft row rooms ws hs) : cnt row rooms.reverse (ov row ws) hs.reverse (!f) = ng (ov row (cnt row rooms ws hs f)) := by
  have lw := F.nw
  refine ext_get (by rw [cnt_len, ov_len, ng_len, ov_len, cnt_len]) fun j hj => ?_
  rw [cnt_len, ov_len, lw] at hj
  have tl := tau_lt (row := row) (j := j) F.n0
  rw [ng_get, ov_get (by rw [cnt_len, lw]) F.n0 hj]
  unfold cnt
  rw [vec_get (by rw [ov_len, lw]; exact hj), vec_get (by rw [lw]; exact tl), mv_turn F, ov_get (by rw [mvd_len, lw]) F.n0 hj]
  cases f
  · show _ = - -_
    rw [Int.neg_neg]
    rfl
  · rfl
/-- the two gates of a bin, turned about -/
theorem tau_bin {n i : Nat} (hi : i < n) : tau row n ((i + 1) % gts row n) = n - 1 - i ∧ tau row n i = (n - 1 - i + 1) % gts row n := by
  unfold tau gts
  cases row with
  | true =>
    show n - (i + 1) % (n + 1) = n - 1 - i ∧ n - i = (n - 1 - i + 1) % (n + 1)
    rw [Nat.mod_eq_of_lt (by omega), Nat.mod_eq_of_lt (by omega)]
    omega
  | false =>
    show (n - (i + 1) % n) % n = n - 1 - i ∧ (n - i) % n = (n - 1 - i + 1) % n
    refine ⟨?_, by rw [show n - 1 - i + 1 = n - i by omega]⟩
    by_cases z : i + 1 = n
    · rw [z, Nat.mod_self, Nat.sub_zero, Nat.mod_self]
      omega
    · rw [Nat.mod_eq_of_lt (show i + 1 < n by omega), Nat.mod_eq_of_lt (by omega)]
      omega
theorem gts_le {n : Nat} : n ≤ gts row n := by
  unfold gts
  split <;> omega
theorem ld_get {i : Nat} (h : i < hs.length) : (ledL hs cs).getD i 0 = hs.getD i 0 + cs.getD i 0 - cs.getD ((i + 1) % cs.length) 0 := vec_get h
theorem ld_len : (ledL hs cs).length = hs.length := vec_len
theorem ld_holes (n0 : 0 < rooms.length) (nh : hs.length = rooms.length) (lc : cs.length = gts row rooms.length) : ledL (lackL rooms hs).reverse (ov row cs) = (lackL rooms (ledL hs cs)).reverse := by
  refine ext_get (by rw [ld_len, List.length_reverse, lack_len, List.length_reverse, lack_len]) fun i hi => ?_
  rw [ld_len, List.length_reverse, lack_len] at hi
  obtain ⟨t1, t2⟩ := tau_bin (row := row) hi
  have g := gts_le (row := row) (n := rooms.length)
  rw [ld_get (by rw [List.length_reverse, lack_len]; exact hi), rev_get (by rw [lack_len]; exact hi), rev_get (by rw [lack_len]; exact hi), lack_len, lack_len, ov_len, lc, ov_get lc n0 (by omega), ov_get lc n0 (Nat.mod_lt _ (by omega)), t1, t2,
    lack_get (by omega), lack_get (by omega), ld_get (by omega), lc]
  omega
theorem ld_turn (n0 : 0 < rooms.length) (nh : hs.length = rooms.length) (lc : cs.length = gts row rooms.length) : ledL hs.reverse (ng (ov row cs)) = (ledL hs cs).reverse := by
  refine ext_get (by rw [ld_len, List.length_reverse, List.length_reverse, ld_len]) fun i hi => ?_
  rw [ld_len, List.length_reverse, nh] at hi
  obtain ⟨t1, t2⟩ := tau_bin (row := row) hi
  have g := gts_le (row := row) (n := rooms.length)
  rw [ld_get (by rw [List.length_reverse]; omega), rev_get (by omega), rev_get (by rw [ld_len]; omega), ld_len, ng_get, ng_get, ng_len, ov_len, lc, ov_get lc n0 (by omega), ov_get lc n0 (Nat.mod_lt _ (by omega)), nh, t1, t2, ld_get (by omega), lc]
  omega
theorem bt_holes (F : Ft row rooms ws hs) : btL row rooms.reverse (ov row ws) (lackL rooms hs).reverse f = (lackL rooms (btL row rooms ws hs f)).reverse := by
  unfold btL
  rw [ct_holes F, ld_holes F.n0 F.nh (by rw [cnt_len, F.nw])]
theorem bt_turn (F : Ft row rooms ws hs) : btL row rooms.reverse (ov row ws) hs.reverse (!f) = (btL row rooms ws hs f).reverse := by
  unfold btL
  rw [ct_turn F, ld_turn F.n0 F.nh (by rw [cnt_len, F.nw])]
theorem add_len {a b : List Int} : (addL a b).length = a.length := vec_len
theorem add_get {a b : List Int} {i : Nat} (h : i < a.length) : (addL a b).getD i 0 = a.getD i 0 + b.getD i 0 := vec_get h
theorem add_ov {n : Nat} {a b : List Int} (la : a.length = gts row n) (lb : b.length = gts row n) (n0 : 0 < n) : addL (ov row a) (ov row b) = ov row (addL a b) := by
  refine ext_get (by rw [add_len, ov_len, ov_len, add_len]) fun i hi => ?_
  rw [add_len, ov_len, la] at hi
  rw [add_get (by rw [ov_len, la]; exact hi), ov_get la n0 hi, ov_get lb n0 hi, ov_get (by rw [add_len, la]) n0 hi, add_get (by rw [la]; exact tau_lt n0)]
theorem add_ng {a b : List Int} : addL (ng a) (ng b) = ng (addL a b) := by
  refine ext_get (by rw [add_len, ng_len, ng_len, add_len]) fun i hi => ?_
  rw [add_len, ng_len] at hi
  rw [add_get (by rw [ng_len]; exact hi), ng_get, ng_get, ng_get, add_get hi]
  omega
theorem run_holes (n0 : 0 < rooms.length) (n2 : row = false → 2 ≤ rooms.length) (nz : rooms.length ≤ 1000) : ∀ (run : List (Bool × List (Option Int))) (h c : List Int), (∀ s ∈ run, s.2.length = gts row rooms.length) → h.length = rooms.length → c.length = gts row rooms.length →
    ledR row rooms.reverse (run.map fun s => (s.1, ov row s.2)) (lackL rooms h).reverse (ov row c) = ((lackL rooms (ledR row rooms run h c).1).reverse, ov row (ledR row rooms run h c).2)
  | [], h, c, _, _, _ => rfl
  | (b, ws) :: r, h, c, hw, lh, lc => by
    have lw : ws.length = gts row rooms.length := hw _ (List.mem_cons_self ..)
    have F : Ft row rooms ws h := ⟨n0, n2, nz, lw, lh⟩
    rw [List.map_cons]
    unfold ledR
    dsimp only
    rw [ct_holes F, ld_holes n0 lh (by rw [cnt_len, lw]), add_ov lc (by rw [cnt_len, lw]) n0]
    exact run_holes n0 n2 nz r _ _ (fun s hs => hw s (List.mem_cons_of_mem _ hs)) (by rw [ld_len, lh]) (by rw [add_len, lc])
theorem run_turn (n0 : 0 < rooms.length) (n2 : row = false → 2 ≤ rooms.length) (nz : rooms.length ≤ 1000) : ∀ (run : List (Bool × List (Option Int))) (h c : List Int), (∀ s ∈ run, s.2.length = gts row rooms.length) → h.length = rooms.length → c.length = gts row rooms.length →
    ledR row rooms.reverse (run.map fun s => (!s.1, ov row s.2)) h.reverse (ng (ov row c)) = ((ledR row rooms run h c).1.reverse, ng (ov row (ledR row rooms run h c).2))
  | [], h, c, _, _, _ => rfl
  | (b, ws) :: r, h, c, hw, lh, lc => by
    have lw : ws.length = gts row rooms.length := hw _ (List.mem_cons_self ..)
    have F : Ft row rooms ws h := ⟨n0, n2, nz, lw, lh⟩
    rw [List.map_cons]
    unfold ledR
    dsimp only
    rw [ct_turn F, ld_turn n0 lh (by rw [cnt_len, lw]), add_ng, add_ov lc (by rw [cnt_len, lw]) n0]
    exact run_turn n0 n2 nz r _ _ (fun s hs => hw s (List.mem_cons_of_mem _ hs)) (by rw [ld_len, lh]) (by rw [add_len, lc])
theorem led_len : ∀ {run : List (Bool × List (Option Int))} {h c : List Int}, (ledR row rooms run h c).1.length = h.length ∧ (ledR row rooms run h c).2.length = c.length
  | [], h, c => ⟨rfl, rfl⟩
  | (b, ws) :: r, h, c => by
    unfold ledR
    have z := led_len (run := r) (h := ledL h (cnt row rooms ws h b)) (c := addL c (cnt row rooms ws h b))
    exact ⟨z.1.trans ld_len, z.2.trans add_len⟩
theorem ov_nought {n : Nat} (n0 : 0 < n) : ov row (vec (gts row n) fun _ => 0) = vec (gts row n) fun _ => 0 := ext_get (by rw [ov_len]) fun i hi => by
  rw [ov_len, vec_len] at hi
  rw [ov_get (n := n) vec_len n0 hi, vec_get hi, vec_get (tau_lt n0)]
theorem ng_nought {n : Nat} : ng (vec n fun _ => 0) = vec n fun _ => 0 := ext_get (by rw [ng_len]) fun i hi => by
  rw [ng_len, vec_len] at hi
  rw [ng_get, vec_get hi]
  rfl
end
end Kd
/-! turned_line, turned, turned_widths -/
namespace Kd
open PySem PySem.Spec PyProof.Rows L2 Xg Dv
theorem ne_map {l : List Int} (h : 0 < l.length) : l.map PyData.int ≠ [] := fun z => by
  rw [List.map_eq_nil_iff] at z
  rw [z] at h
  exact absurd h (by decide)
theorem tline_of {row : Bool} {rooms : List Int} {Q : PyData → Prop} (n0 : 0 < rooms.length) (nz : rooms.length ≤ 1000) (q : Q (ln true row rooms.reverse)) : F_turned_line [.dt (ln true row rooms)] Q := by
  unfold F_turned_line
  refine ⟨rfl, (show (rooms.map PyData.int ≠ [] ∧ (rooms.map PyData.int).length ≤ 1000) ∧ Q (.tuple [.str (fm row), .tuple (rooms.map PyData.int).reverse]) from ⟨⟨ne_map n0, by rw [len_i]; exact nz⟩, ?_⟩)⟩
  rw [← List.map_reverse]
  exact q
theorem turned_of {l : PyData} {hs : List Int} {Q : PyData → Prop} (n0 : 0 < hs.length) (nz : hs.length ≤ 1000) (q : Q (iq true hs.reverse)) : F_turned [.dt l, .dt (iq true hs)] Q := by
  unfold F_turned
  refine ⟨rfl, (show (hs.map PyData.int ≠ [] ∧ (hs.map PyData.int).length ≤ 1000) ∧ Q (.tuple (hs.map PyData.int).reverse) from ⟨⟨ne_map n0, by rw [len_i]; exact nz⟩, ?_⟩)⟩
  rw [← List.map_reverse]
  exact q
theorem cut_last {ds : List PyData} (h : 0 < ds.length) : Dv.cutD ds (some (-1)) none = ds.drop (ds.length - 1) ∧ Dv.cutD ds none (some (-1)) = ds.take (ds.length - 1) := by
  have e : HT.sIx ds.length 0 (some (-1)) = ds.length - 1 := by
    unfold HT.sIx
    simp
    omega
  have e' : HT.sIx ds.length ds.length (some (-1)) = ds.length - 1 := by
    unfold HT.sIx
    simp
    omega
  constructor
  · unfold Dv.cutD
    rw [e]
    show (ds.drop (ds.length - 1)).take (ds.length - (ds.length - 1)) = _
    rw [List.take_of_length_le (by rw [List.length_drop]; omega)]
  · unfold Dv.cutD
    rw [e']
    rfl
theorem about_ring {ws : List (Option Int)} (h : 0 < ws.length) : (ws.map oI).reverse.drop ((ws.map oI).reverse.length - 1) ++ (ws.map oI).reverse.take ((ws.map oI).reverse.length - 1) = (ov false ws).map oI := by
  cases ws with
  | nil => exact absurd h (by decide)
  | cons w r =>
    have l : ((oI w :: r.map oI).reverse.length - 1) = (r.map oI).reverse.length := by
      rw [List.length_reverse, List.length_reverse, List.length_cons]
      rfl
    show (oI w :: r.map oI).reverse.drop ((oI w :: r.map oI).reverse.length - 1) ++ (oI w :: r.map oI).reverse.take ((oI w :: r.map oI).reverse.length - 1) = ((w :: r).take 1 ++ ((w :: r).drop 1).reverse).map oI
    rw [l, List.reverse_cons, List.drop_left, List.take_left]
    show [oI w] ++ (r.map oI).reverse = ([w] ++ r.reverse).map oI
    rw [List.map_append, List.map_reverse]
    rfl
theorem twid_of {row : Bool} {rooms : List Int} {ws : List (Option Int)} {Q : PyData → Prop} (n0 : 0 < ws.length) (nz : ws.length ≤ 1000) (q : Q (sqd true ((ov row ws).map oI))) : F_turned_widths [.dt (ln true row rooms), .dt (sqd true (ws.map oI))] Q := by
  have lr : (ws.map oI).reverse.length = ws.length := by rw [List.length_reverse, List.length_map]
  unfold F_turned_widths
  refine ⟨rfl, (show (ws.map oI ≠ [] ∧ (ws.map oI).length ≤ 1000) ∧ _ from ⟨⟨fun z => ?_, by rw [List.length_map]; exact nz⟩, ?_⟩)⟩
  · rw [List.map_eq_nil_iff] at z
    rw [z] at n0
    exact absurd n0 (by decide)
  show if decide (fm row = "row") = true then Q (.tuple (ws.map oI).reverse) else _
  rw [fm_row]
  cases row with
  | true =>
    rw [if_pos rfl, ← List.map_reverse]
    exact q
  | false =>
    rw [if_neg Bool.false_ne_true]
    obtain ⟨c1, c2⟩ := cut_last (ds := (ws.map oI).reverse) (by omega)
    show (Dv.cutD (ws.map oI).reverse (some (-1)) none).length + (Dv.cutD (ws.map oI).reverse none (some (-1))).length ≤ 1000000 ∧ Q (.tuple (Dv.cutD (ws.map oI).reverse (some (-1)) none ++ Dv.cutD (ws.map oI).reverse none (some (-1))))
    rw [c1, c2]
    refine ⟨by rw [List.length_drop, List.length_take]; omega, ?_⟩
    rw [about_ring n0]
    exact q
end Kd
/-! what runs keep -/
namespace Kd
open PySem PySem.Spec PyProof.Rows L2 Xg Dv
section
variable {row : Bool} {rooms hs cs : List Int} {ws : List (Option Int)} {f : Bool}
theorem led_add {h c d : List Int} (h1 : h.length ≤ c.length) (h2 : d.length = c.length) : ledL (ledL h c) d = ledL h (addL c d) := by
  refine ext_get (by rw [ld_len, ld_len, ld_len]) fun i hi => ?_
  rw [ld_len, ld_len] at hi
  have m : (i + 1) % c.length < c.length := Nat.mod_lt _ (by omega)
  rw [ld_get (by rw [ld_len]; exact hi), ld_get hi, ld_get hi, add_len, h2, add_get (by omega), add_get m]
  omega
/-- the standing behind a run -/
def runH (row : Bool) (rooms : List Int) : List (Bool × List (Option Int)) → List Int → List Int
  | [], h => h
  | (b, ws) :: r, h => runH row rooms r (btL row rooms ws h b)
theorem led_fst : ∀ {run : List (Bool × List (Option Int))} {h c : List Int}, (ledR row rooms run h c).1 = runH row rooms run h
  | [], h, c => rfl
  | (b, ws) :: r, h, c => by
    unfold ledR runH
    exact led_fst
/-- what lies there is what lay there and what came and went -/
theorem led_tel : ∀ (run : List (Bool × List (Option Int))) (h0 h c : List Int), (∀ s ∈ run, s.2.length = c.length) → h0.length ≤ c.length → h = ledL h0 c → (ledR row rooms run h c).1 = ledL h0 (ledR row rooms run h c).2
  | [], h0, h, c, _, _, e => e
  | (b, ws) :: r, h0, h, c, hw, hl, e => by
    have lw : ws.length = c.length := hw _ (List.mem_cons_self ..)
    unfold ledR
    refine led_tel r h0 _ _ (fun s hs => by rw [add_len]; exact hw s (List.mem_cons_of_mem _ hs)) (by rw [add_len]; exact hl) ?_
    rw [e, led_add hl (by rw [cnt_len, lw])]
theorem led_nought {h : List Int} {n : Nat} : ledL h (vec n fun _ => 0) = h := by
  refine ext_get ld_len fun i hi => ?_
  rw [ld_len] at hi
  rw [ld_get hi]
  have z : ∀ j, (vec n fun _ => (0 : Int)).getD j 0 = 0 := fun j => by
    by_cases w : j < n
    · exact vec_get w
    · exact get_out (by rw [vec_len]; omega)
  rw [z, z]
  omega
/-- each of a run fits -/
structure Rf (row : Bool) (n : Nat) (run : List (Bool × List (Option Int))) : Prop where
  len : ∀ s ∈ run, s.2.length = gts row n
  wn : ∀ s ∈ run, Wn s.2
theorem Rf.tail {n : Nat} {s : Bool × List (Option Int)} {r : List (Bool × List (Option Int))} (h : Rf row n (s :: r)) : Rf row n r := ⟨fun t ht => h.len t (List.mem_cons_of_mem _ ht), fun t ht => h.wn t (List.mem_cons_of_mem _ ht)⟩
theorem run_vd (n0 : 0 < rooms.length) (n2 : row = false → 2 ≤ rooms.length) (nz : rooms.length ≤ 1000) : ∀ (run : List (Bool × List (Option Int))) (h : List Int), Rf row rooms.length run → Vd rooms h → Vd rooms (runH row rooms run h)
  | [], h, _, V => V
  | (b, ws) :: r, h, R, V => by
    unfold runH
    exact run_vd n0 n2 nz r _ R.tail (Vd.next ⟨n0, n2, nz, R.len _ (List.mem_cons_self ..), V.len⟩ V (R.wn _ (List.mem_cons_self ..)))
/-- a gate that is shut all along has no count -/
theorem led_shut (n0 : 0 < rooms.length) (n2 : row = false → 2 ≤ rooms.length) (nz : rooms.length ≤ 1000) {j : Nat} (hj : j < gts row rooms.length) : ∀ (run : List (Bool × List (Option Int))) (h c : List Int), Rf row rooms.length run → Vd rooms h → c.length = gts row rooms.length → (∀ s ∈ run, s.2.getD j none = some 0) → c.getD j 0 = 0 → (ledR row rooms run h c).2.getD j 0 = 0
  | [], h, c, _, _, _, _, e => e
  | (b, ws) :: r, h, c, R, V, lc, hs, e => by
    have F : Ft row rooms ws h := ⟨n0, n2, nz, R.len _ (List.mem_cons_self ..), V.len⟩
    have W := R.wn _ (List.mem_cons_self ..)
    unfold ledR
    refine led_shut n0 n2 nz hj r _ _ R.tail (Vd.next F V W) (by rw [add_len]; exact lc) (fun s m => hs s (List.mem_cons_of_mem _ m)) ?_
    rw [add_get (by rw [lc]; exact hj), e, cnt_shut F V W (by rw [F.nw]; exact hj) (hs _ (List.mem_cons_self ..))]
    rfl
theorem mv_nn (F : Ft row rooms ws hs) (V : Vd rooms hs) (W : Wn ws) {j : Nat} (hj : j < ws.length) : 0 ≤ (mvd row rooms ws hs f).getD j 0 := by
  rw [mvd_get hj]
  cases f with
  | true => exact gone_nn V.nn V.lack W F.nh lack_len F.n0
  | false => exact gone_nn V.lack V.nn W lack_len F.nh F.n0
theorem mv_w {j : Nat} {x : Int} (hj : j < ws.length) (h : ws.getD j none = some x) : (mvd row rooms ws hs f).getD j 0 ≤ x := by
  rw [mvd_get hj]
  cases f with
  | true => exact gone_w h
  | false => exact gone_w h
theorem vec_sum {n : Nat} {g : Nat → Int} : (vec (n + 1) g).sum = (vec n g).sum + g n := by
  unfold vec
  rw [List.range_succ, List.map_append, List.sum_append]
  simp
theorem sum_vec (l : List Int) : l.sum = (vec l.length fun i => l.getD i 0).sum := congrArg List.sum (list_vec l)
/-- how many more lie there -/
theorem led_sum {n : Nat} (n0 : 0 < n) (lh : hs.length = n) (lc : cs.length = gts row n) : (ledL hs cs).sum = hs.sum + (if row = true then cs.getD 0 0 - cs.getD n 0 else 0) := by
  have part : ∀ m, m + 1 ≤ gts row n → m ≤ n → (vec m fun i => hs.getD i 0 + cs.getD i 0 - cs.getD ((i + 1) % cs.length) 0).sum = (vec m fun i => hs.getD i 0).sum + cs.getD 0 0 - cs.getD m 0 := by
    intro m
    induction m with
    | zero => intro _ _; show (0 : Int) = 0 + _ - _; omega
    | succ m ih =>
      intro h1 h2
      rw [vec_sum, vec_sum, ih (by omega) (by omega), lc, Nat.mod_eq_of_lt (by omega)]
      omega
  rw [sum_vec hs, lh]
  unfold ledL
  rw [lh]
  cases row with
  | true =>
    rw [if_pos rfl, part n (Nat.le_refl _) (Nat.le_refl _)]
    omega
  | false =>
    have lc : cs.length = n := lc
    rw [if_neg Bool.false_ne_true]
    cases n with
    | zero => exact absurd n0 (by decide)
    | succ m =>
      rw [vec_sum, vec_sum, part m (Nat.le_refl _) (Nat.le_succ _), lc, Nat.mod_self]
      omega
end
/-! is_standing -/
theorem bools_all {α : Type} (xs : List α) : xs.map (fun _ => PyData.bool true) = (List.replicate xs.length true).map PyData.bool := by
  rw [List.map_const', List.map_replicate]
theorem all_true (n : Nat) : (List.replicate n true).all id = true := by
  rw [List.all_eq_true]
  intro x hx
  exact List.eq_of_mem_replicate hx
theorem num_of {i : Int} {Q : PyData → Prop} (q : Q (.bool true)) : F_is_number [.dt (.int i)] Q := by
  unfold F_is_number
  exact ⟨rfl, q⟩
theorem numFrom_of {i j : Int} {Q : PyData → Prop} (h : j ≤ i) (q : Q (.bool true)) : F_is_number_from [.dt (.int i), .dt (.int j)] Q := by
  unfold F_is_number_from
  refine ⟨rfl, num_of ?_⟩
  show Q (.bool (decide (j ≤ i)))
  rw [decide_eq_true h]
  exact q
theorem tupleOf_of {ds : List PyData} {Q : PyData → Prop} (q : Q (.bool true)) : F_is_tuple_of [.dt (.tuple ds), .dt (.int (ds.length : Nat))] Q := by
  unfold F_is_tuple_of
  refine ⟨rfl, ?_⟩
  show Q (.bool (decide (((ds.length : Nat) : Int) = ((ds.length : Nat) : Int))))
  rw [decide_eq_true rfl]
  exact q
theorem standing_of {row : Bool} {rooms hs : List Int} {Q : PyData → Prop} (nz : rooms.length ≤ 1000) (V : Vd rooms hs) (q : Q (.bool true)) : F_is_standing [.dt (ln true row rooms), .dt (iq true hs)] Q := by
  have e : (rooms.map PyData.int).length = (hs.map PyData.int).length := by rw [len_i, len_i, V.len]
  have lz : (zipD (hs.map PyData.int) (rooms.map PyData.int)).length = rooms.length := zip_len (by rw [len_i, V.len]) (len_i _)
  unfold F_is_standing
  refine ⟨rfl, ?_⟩
  show F_is_tuple_of [.dt (.tuple (hs.map PyData.int)), .dt (.int (((rooms.map PyData.int).length : Nat) : Int))] _
  rw [e]
  refine tupleOf_of ?_
  refine (show (zipD (hs.map PyData.int) (rooms.map PyData.int)).length ≤ 1000000 ∧ _ from ⟨by omega, comp_at (fun _ => .bool true) _ [] 0 (fun i d hd P hp => ?_) ?_⟩)
  · obtain ⟨x, y, e1, e2, rfl⟩ := zip_at hd
    obtain ⟨i1, rfl⟩ := map_at e1
    obtain ⟨i2, rfl⟩ := map_at e2
    refine numFrom_of (V.lo i i2) ?_
    show P (.bool (decide (hs.getD i 0 ≤ rooms.getD i 0)))
    rw [decide_eq_true (V.hi i i2)]
    exact hp
  · refine ⟨List.replicate rooms.length true, ?_, ?_⟩
    · rw [List.nil_append, bools_all, List.length_range', lz]
    · show Q (.bool ((List.replicate rooms.length true).all id))
      rw [all_true]
      exact q
end Kd
/-! done, taken back and done once more: beats forth and back are mates -/
namespace Kd
open PySem PySem.Spec PyProof.Rows L2 Xg Dv
section
variable {row : Bool} {rooms h0 x y : List Int} {ws : List (Option Int)}
/-- y is led to from x at most, by counts told from a standing h0 on -/
structure Fth (row : Bool) (rooms h0 : List Int) (ws : List (Option Int)) (x y : List Int) : Prop where
  w : ∀ j a, j < gts row rooms.length → ws.getD j none = some a → y.getD j 0 - x.getD j 0 ≤ a
  b : ∀ i, i < rooms.length → y.getD ((i + 1) % gts row rooms.length) 0 ≤ x.getD i 0 + h0.getD i 0
  a : ∀ i, i < rooms.length → y.getD i 0 ≤ x.getD ((i + 1) % gts row rooms.length) 0 + (rooms.getD i 0 - h0.getD i 0)
/-- the bin ahead of which a gate lies -/
theorem bin_of {n j : Nat} {be : List Int} (n0 : 0 < n) (lb : be.length = n) (hj : j < gts row n) (hc : ((!row) || decide (0 < j)) = true) : ∃ i, i < n ∧ (i + 1) % gts row n = j ∧ prev be j = be.getD i 0 := by
  have key : ∀ i, i < n → (i + 1) % gts row n = j → ∃ i, i < n ∧ (i + 1) % gts row n = j ∧ prev be j = be.getD i 0 := fun i hi e => by
    have z := (next_prev (row := row) hi lb).2.1
    rw [e] at z
    exact ⟨i, hi, e, z⟩
  cases row with
  | true =>
    have hj : j < n + 1 := hj
    have hc : (false || decide (0 < j)) = true := hc
    rw [Bool.false_or, decide_eq_true_eq] at hc
    exact key (j - 1) (by omega) (by show (j - 1 + 1) % (n + 1) = j; rw [Nat.mod_eq_of_lt (by omega)]; omega)
  | false =>
    have hj : j < n := hj
    by_cases z : j = 0
    · subst z
      exact key (n - 1) (by omega) (by show (n - 1 + 1) % n = 0; rw [show n - 1 + 1 = n by omega, Nat.mod_self])
    · exact key (j - 1) (by omega) (by show (j - 1 + 1) % n = j; rw [Nat.mod_eq_of_lt (by omega)]; omega)
theorem le_mn {l : List Int} {m : Int} (h : l ≠ []) : m ≤ mn l ↔ ∀ z ∈ l, m ≤ z := ⟨fun g z hz => Int.le_trans g (mn_le hz), fun g => g _ (mn_mem h)⟩
/-- fits, for counts -/
structure Fc (row : Bool) (rooms : List Int) (ws : List (Option Int)) (h0 x : List Int) : Prop where
  n0 : 0 < rooms.length
  lw : ws.length = gts row rooms.length
  lh : h0.length = rooms.length
  lx : x.length = gts row rooms.length
theorem st_get (F : Fc row rooms ws h0 x) {i : Nat} (hi : i < rooms.length) : (ledL h0 x).getD i 0 = h0.getD i 0 + x.getD i 0 - x.getD ((i + 1) % gts row rooms.length) 0 := by
  rw [ld_get (by rw [F.lh]; exact hi), F.lx]
theorem st_lack (F : Fc row rooms ws h0 x) {i : Nat} (hi : i < rooms.length) : (lackL rooms (ledL h0 x)).getD i 0 = rooms.getD i 0 - (h0.getD i 0 + x.getD i 0 - x.getD ((i + 1) % gts row rooms.length) 0) := by
  rw [lack_get hi, st_get F hi]
theorem forth_iff (F : Fc row rooms ws h0 x) : (∀ j, j < gts row rooms.length → y.getD j 0 ≤ x.getD j 0 + (cnt row rooms ws (ledL h0 x) true).getD j 0) ↔ Fth row rooms h0 ws x y := by
  have n0 := F.n0
  have lh : (ledL h0 x).length = rooms.length := by rw [ld_len, F.lh]
  have one : ∀ j, j < gts row rooms.length → (y.getD j 0 ≤ x.getD j 0 + (cnt row rooms ws (ledL h0 x) true).getD j 0 ↔ ∀ z ∈ bnd (!row) (ledL h0 x) (lackL rooms (ledL h0 x)) j (ws.getD j none), y.getD j 0 - x.getD j 0 ≤ z) := fun j hj => by
    rw [cnt_get (by rw [F.lw]; exact hj), if_pos rfl]
    unfold gone
    rw [← le_mn (bnd_ne (ws := ws) lh lack_len n0)]
    constructor <;> intro h <;> omega
  constructor
  · intro h
    refine ⟨fun j a hj e => ((one j hj).mp (h j hj)) a (mem_bnd.mpr (.inl e)), fun i hi => ?_, fun i hi => ?_⟩
    · obtain ⟨p1, p2, p3⟩ := next_prev (row := row) (be := ledL h0 x) hi lh
      have z := ((one _ p3).mp (h _ p3)) _ (mem_bnd.mpr (.inr (.inl ⟨p1, rfl⟩)))
      rw [p2, st_get F hi] at z
      omega
    · have hj : i < gts row rooms.length := Nat.lt_of_lt_of_le hi gts_le
      have z := ((one _ hj).mp (h _ hj)) _ (mem_bnd.mpr (.inr (.inr ⟨by rw [lack_len]; exact hi, rfl⟩)))
      rw [st_lack F hi] at z
      omega
  · intro f j hj
    refine (one j hj).mpr fun z hz => ?_
    rcases mem_bnd.mp hz with e | ⟨c, e⟩ | ⟨c, e⟩
    · exact f.w j z hj e
    · obtain ⟨i, hi, e1, e2⟩ := bin_of (row := row) n0 lh hj c
      have g := f.b i hi
      rw [e1] at g
      rw [e, e2, st_get F hi, e1]
      omega
    · rw [lack_len] at c
      have g := f.a j c
      rw [e, st_lack F c]
      omega
theorem back_iff (F : Fc row rooms ws h0 y) : (∀ j, j < gts row rooms.length → y.getD j 0 + (cnt row rooms ws (ledL h0 y) false).getD j 0 ≤ x.getD j 0) ↔ Fth row rooms h0 ws x y := by
  have n0 := F.n0
  have lh : (ledL h0 y).length = rooms.length := by rw [ld_len, F.lh]
  have one : ∀ j, j < gts row rooms.length → (y.getD j 0 + (cnt row rooms ws (ledL h0 y) false).getD j 0 ≤ x.getD j 0 ↔ ∀ z ∈ bnd (!row) (lackL rooms (ledL h0 y)) (ledL h0 y) j (ws.getD j none), y.getD j 0 - x.getD j 0 ≤ z) := fun j hj => by
    rw [cnt_get (by rw [F.lw]; exact hj), if_neg Bool.false_ne_true]
    unfold gone
    rw [← le_mn (bnd_ne (ws := ws) lack_len lh n0)]
    constructor <;> intro h <;> omega
  constructor
  · intro h
    refine ⟨fun j a hj e => ((one j hj).mp (h j hj)) a (mem_bnd.mpr (.inl e)), fun i hi => ?_, fun i hi => ?_⟩
    · have hj : i < gts row rooms.length := Nat.lt_of_lt_of_le hi gts_le
      have z := ((one _ hj).mp (h _ hj)) _ (mem_bnd.mpr (.inr (.inr ⟨by rw [lh]; exact hi, rfl⟩)))
      rw [st_get F hi] at z
      omega
    · obtain ⟨p1, p2, p3⟩ := next_prev (row := row) (be := lackL rooms (ledL h0 y)) hi lack_len
      have z := ((one _ p3).mp (h _ p3)) _ (mem_bnd.mpr (.inr (.inl ⟨p1, rfl⟩)))
      rw [p2, st_lack F hi] at z
      omega
  · intro f j hj
    refine (one j hj).mpr fun z hz => ?_
    rcases mem_bnd.mp hz with e | ⟨c, e⟩ | ⟨c, e⟩
    · exact f.w j z hj e
    · obtain ⟨i, hi, e1, e2⟩ := bin_of (row := row) (be := lackL rooms (ledL h0 y)) n0 lack_len hj c
      have g := f.a i hi
      rw [e1] at g
      rw [e, e2, st_lack F hi, e1]
      omega
    · rw [lh] at c
      have g := f.b j c
      rw [e, st_get F c]
      omega
/-- part by part no more -/
def Le (n : Nat) (x y : List Int) : Prop := ∀ j, j < n → x.getD j 0 ≤ y.getD j 0
theorem Le.refl {n : Nat} {x : List Int} : Le n x x := fun _ _ => Int.le_refl _
theorem Le.trans {n : Nat} {x y z : List Int} (a : Le n x y) (b : Le n y z) : Le n x z := fun j h => Int.le_trans (a j h) (b j h)
theorem Le.anti {n : Nat} {x y : List Int} (lx : x.length = n) (ly : y.length = n) (a : Le n x y) (b : Le n y x) : x = y := ext_get (by rw [lx, ly]) fun i hi => Int.le_antisymm (a i (by omega)) (b i (by omega))
/-- counts behind a run, told from h0 on -/
def runX (row : Bool) (rooms h0 : List Int) : List (Bool × List (Option Int)) → List Int → List Int
  | [], x => x
  | (b, ws) :: r, x => runX row rooms h0 r (addL x (cnt row rooms ws (ledL h0 x) b))
theorem runX_len : ∀ {run : List (Bool × List (Option Int))} {x : List Int}, (runX row rooms h0 run x).length = x.length
  | [], x => rfl
  | (b, ws) :: r, x => by
    unfold runX
    rw [runX_len, add_len]
theorem runX_app : ∀ {r1 r2 : List (Bool × List (Option Int))} {x : List Int}, runX row rooms h0 (r1 ++ r2) x = runX row rooms h0 r2 (runX row rooms h0 r1 x)
  | [], r2, x => rfl
  | (b, ws) :: r, r2, x => by
    show runX row rooms h0 (r ++ r2) (addL x (cnt row rooms ws (ledL h0 x) b)) = _
    rw [runX_app]
    rfl
/-- a run taken back -/
def tb (run : List (Bool × List (Option Int))) : List (Bool × List (Option Int)) := run.reverse.map fun s => (!s.1, s.2)
theorem tb_cons {s : Bool × List (Option Int)} {r : List (Bool × List (Option Int))} : tb (s :: r) = tb r ++ [(!s.1, s.2)] := by
  unfold tb
  rw [List.reverse_cons, List.map_append]
  rfl
theorem tb_app {a b : List (Bool × List (Option Int))} : tb (a ++ b) = tb b ++ tb a := by
  unfold tb
  rw [List.reverse_append, List.map_append]
theorem tb_tb : ∀ {run : List (Bool × List (Option Int))}, tb (tb run) = run
  | [] => rfl
  | s :: r => by
    rw [tb_cons, tb_app, tb_tb]
    show [(!!s.1, s.2)] ++ r = s :: r
    rw [Bool.not_not]
    rfl
theorem add_le {n : Nat} {a b c : List Int} (la : a.length = n) : Le n c (addL a b) ↔ ∀ j, j < n → c.getD j 0 ≤ a.getD j 0 + b.getD j 0 := by
  unfold Le
  constructor
  · intro h j hj
    have z := h j hj
    rw [add_get (by omega)] at z
    exact z
  · intro h j hj
    rw [add_get (by omega)]
    exact h j hj
theorem le_add {n : Nat} {a b c : List Int} (la : a.length = n) : Le n (addL a b) c ↔ ∀ j, j < n → a.getD j 0 + b.getD j 0 ≤ c.getD j 0 := by
  unfold Le
  constructor
  · intro h j hj
    have z := h j hj
    rw [add_get (by omega)] at z
    exact z
  · intro h j hj
    rw [add_get (by omega)]
    exact h j hj
/-- forth and taken back are mates -/
theorem mates (n0 : 0 < rooms.length) (lh : h0.length = rooms.length) : ∀ (run : List (Bool × List (Option Int))) (x y : List Int), (∀ s ∈ run, s.1 = true ∧ s.2.length = gts row rooms.length) → x.length = gts row rooms.length → y.length = gts row rooms.length →
    (Le (gts row rooms.length) y (runX row rooms h0 run x) ↔ Le (gts row rooms.length) (runX row rooms h0 (tb run) y) x)
  | [], x, y, _, _, _ => Iff.rfl
  | (b, ws) :: r, x, y, hr, lx, ly => by
    obtain ⟨hb, lw⟩ := hr _ (List.mem_cons_self ..)
    have hb : b = true := hb
    subst hb
    have lw : ws.length = gts row rooms.length := lw
    have lx' : (addL x (cnt row rooms ws (ledL h0 x) true)).length = gts row rooms.length := by rw [add_len, lx]
    have ih := mates n0 lh r (addL x (cnt row rooms ws (ledL h0 x) true)) y (fun s m => hr s (List.mem_cons_of_mem _ m)) lx' ly
    have lv : (runX row rooms h0 (tb r) y).length = gts row rooms.length := by rw [runX_len, ly]
    rw [tb_cons, runX_app]
    show Le _ y (runX row rooms h0 r (addL x (cnt row rooms ws (ledL h0 x) true))) ↔ Le _ (addL (runX row rooms h0 (tb r) y) (cnt row rooms ws (ledL h0 (runX row rooms h0 (tb r) y)) false)) x
    rw [ih, add_le lx, le_add lv, forth_iff ⟨n0, lw, lh, lx⟩, back_iff ⟨n0, lw, lh, lv⟩]
/-- done, taken back and done once more -/
theorem thrice (n0 : 0 < rooms.length) (lh : h0.length = rooms.length) {run : List (Bool × List (Option Int))} (hr : ∀ s ∈ run, s.1 = true ∧ s.2.length = gts row rooms.length) {x : List Int} (lx : x.length = gts row rooms.length) :
    runX row rooms h0 run (runX row rooms h0 (tb run) (runX row rooms h0 run x)) = runX row rooms h0 run x := by
  have l1 : (runX row rooms h0 run x).length = gts row rooms.length := by rw [runX_len, lx]
  have l2 : (runX row rooms h0 (tb run) (runX row rooms h0 run x)).length = gts row rooms.length := by rw [runX_len, l1]
  have l3 : (runX row rooms h0 run (runX row rooms h0 (tb run) (runX row rooms h0 run x))).length = gts row rooms.length := by rw [runX_len, l2]
  refine Le.anti l3 l1 ?_ ?_
  · refine (mates n0 lh run _ _ hr lx l3).mpr ?_
    exact ((mates n0 lh run _ _ hr l2 l3).mp Le.refl).trans ((mates n0 lh run _ _ hr lx l1).mp Le.refl)
  · exact (mates n0 lh run _ _ hr l2 l1).mpr Le.refl
theorem thriceB (n0 : 0 < rooms.length) (lh : h0.length = rooms.length) {run : List (Bool × List (Option Int))} (hr : ∀ s ∈ run, s.1 = true ∧ s.2.length = gts row rooms.length) {y : List Int} (ly : y.length = gts row rooms.length) :
    runX row rooms h0 (tb run) (runX row rooms h0 run (runX row rooms h0 (tb run) y)) = runX row rooms h0 (tb run) y := by
  have l1 : (runX row rooms h0 (tb run) y).length = gts row rooms.length := by rw [runX_len, ly]
  have l2 : (runX row rooms h0 run (runX row rooms h0 (tb run) y)).length = gts row rooms.length := by rw [runX_len, l1]
  have l3 : (runX row rooms h0 (tb run) (runX row rooms h0 run (runX row rooms h0 (tb run) y))).length = gts row rooms.length := by rw [runX_len, l2]
  refine Le.anti l3 l1 ?_ ?_
  · exact (mates n0 lh run _ _ hr l1 l2).mp Le.refl
  · have up : Le (gts row rooms.length) y (runX row rooms h0 run (runX row rooms h0 (tb run) y)) := (mates n0 lh run _ _ hr l1 ly).mpr Le.refl
    refine (mates n0 lh run _ _ hr l3 ly).mp ?_
    exact up.trans ((mates n0 lh run _ _ hr l3 l2).mpr Le.refl)
/-- .. whichever way -/
theorem thrice2 (n0 : 0 < rooms.length) (lh : h0.length = rooms.length) {b : Bool} {run : List (Bool × List (Option Int))} (hr : ∀ s ∈ run, s.1 = b ∧ s.2.length = gts row rooms.length) {x : List Int} (lx : x.length = gts row rooms.length) :
    runX row rooms h0 run (runX row rooms h0 (tb run) (runX row rooms h0 run x)) = runX row rooms h0 run x := by
  cases b with
  | true => exact thrice n0 lh hr lx
  | false =>
    have hr' : ∀ s ∈ tb run, s.1 = true ∧ s.2.length = gts row rooms.length := fun s m => by
      unfold tb at m
      obtain ⟨t, ht, rfl⟩ := List.mem_map.mp m
      obtain ⟨e1, e2⟩ := hr t (List.mem_reverse.mp ht)
      exact ⟨by show (!t.1) = true; rw [e1]; rfl, e2⟩
    have z := thriceB n0 lh hr' lx
    rw [tb_tb] at z
    exact z
/-- runs told by counts alone -/
theorem led_run : ∀ (run : List (Bool × List (Option Int))) (x : List Int), (∀ s ∈ run, s.2.length = x.length) → h0.length ≤ x.length → ledR row rooms run (ledL h0 x) x = (ledL h0 (runX row rooms h0 run x), runX row rooms h0 run x)
  | [], x, _, _ => rfl
  | (b, ws) :: r, x, hw, hl => by
    have lw : ws.length = x.length := hw _ (List.mem_cons_self ..)
    unfold ledR runX
    rw [led_add hl (by rw [cnt_len, lw])]
    exact led_run r _ (fun s m => by rw [add_len]; exact hw s (List.mem_cons_of_mem _ m)) (by rw [add_len]; exact hl)
/-- counts told from another beginning -/
theorem led_shift {c d : List Int} : ∀ (run : List (Bool × List (Option Int))) (h c d : List Int), (∀ s ∈ run, s.2.length = d.length) → c.length = d.length → (ledR row rooms run h (addL c d)).2 = addL c (ledR row rooms run h d).2
  | [], h, c, d, _, _ => rfl
  | (b, ws) :: r, h, c, d, hw, hl => by
    have lw : ws.length = d.length := hw _ (List.mem_cons_self ..)
    unfold ledR
    have e : addL (addL c d) (cnt row rooms ws h b) = addL c (addL d (cnt row rooms ws h b)) := by
      refine ext_get (by rw [add_len, add_len, add_len]) fun i hi => ?_
      rw [add_len, add_len] at hi
      rw [add_get (by rw [add_len]; exact hi), add_get hi, add_get hi, add_get (by omega)]
      omega
    rw [e]
    exact led_shift (c := c) (d := d) r _ c _ (fun s m => by rw [add_len]; exact hw s (List.mem_cons_of_mem _ m)) (by rw [add_len]; exact hl)
end
end Kd
/-! readings of the defs that the laws share -/
namespace Kd
open PySem PySem.Spec PyProof.Rows L2 Xg Dv
theorem wide_of {n : Int} {Q : PyData → Prop} (hn : 0 < n) (q : ∀ r, 0 ≤ r → r < n → Q (.int r)) : F__law_wide [.box, .dt (.int n)] Q := by
  unfold F__law_wide
  refine ⟨rfl, ⟨by decide, by decide, by decide⟩, ⟨by decide, by decide⟩, fun r r0 r1 => ⟨⟨by decide, by decide, by decide⟩, .inr ⟨by decide, by decide⟩, ⟨by decide, by decide, by decide⟩, ⟨by decide, by decide⟩, fun s s0 s1 => ⟨hn, q _ (Int.emod_nonneg _ (by omega)) (Int.emod_lt_of_pos _ hn)⟩⟩⟩
theorem same_of {x y : PyData} {Q : PyData → Prop} (e : x = y) (hs : shal 5 x = true) (q : Q (.bool true)) : F_same [.dt x, .dt y] Q := ⟨⟨e, hs⟩, q⟩
/-- one of some -/
theorem one_of_ {ds : List PyData} {Q : PyData → Prop} (h0 : 0 < ds.length) (hz : ds.length < 1000) (q : ∀ d ∈ ds, Q d) : F__law_of [.box, .dt (.list ds)] Q := by
  unfold F__law_of
  refine ⟨rfl, ⟨⟨by omega, by omega⟩, fun r r0 r1 => ?_⟩⟩
  show atQ (L2.atI ds r) Q
  have e : r = ((r.toNat : Nat) : Int) := by omega
  have l : r.toNat < ds.length := by omega
  rw [e, atI_nat (List.getElem?_eq_getElem l)]
  exact q _ (List.getElem_mem l)
theorem ints_ex {R : Int → Prop} : ∀ {ys : List PyData}, (∀ y ∈ ys, ∃ x, y = .int x ∧ R x) → ∃ ns : List Int, ys = ns.map PyData.int ∧ ∀ x ∈ ns, R x
  | [], _ => ⟨[], rfl, fun x h => nomatch h⟩
  | y :: ys, h => by
    obtain ⟨x, rfl, hx⟩ := h y (List.mem_cons_self ..)
    obtain ⟨ns, rfl, hn⟩ := ints_ex fun z hz => h z (List.mem_cons_of_mem _ hz)
    refine ⟨x :: ns, rfl, fun z hz => ?_⟩
    rcases List.mem_cons.mp hz with rfl | hz
    · exact hx
    · exact hn z hz
theorem wids_ex {R : Option Int → Prop} : ∀ {ys : List PyData}, (∀ y ∈ ys, ∃ x, y = oI x ∧ R x) → ∃ ns : List (Option Int), ys = ns.map oI ∧ ∀ x ∈ ns, R x
  | [], _ => ⟨[], rfl, fun x h => nomatch h⟩
  | y :: ys, h => by
    obtain ⟨x, rfl, hx⟩ := h y (List.mem_cons_self ..)
    obtain ⟨ns, rfl, hn⟩ := wids_ex fun z hz => h z (List.mem_cons_of_mem _ hz)
    refine ⟨x :: ns, rfl, fun z hz => ?_⟩
    rcases List.mem_cons.mp hz with rfl | hz
    · exact hx
    · exact hn z hz
/-- rooms, widths -/
def Rm (rooms : List Int) : Prop := ∀ x ∈ rooms, 1 ≤ x ∧ x ≤ 1000000000
def Dr (w : Option Int) : Prop := ∀ x, w = some x → 0 ≤ x ∧ x ≤ 1000000000
theorem dr_none : Dr none := fun x e => nomatch e
theorem dr_some {i : Int} (h : 0 ≤ i ∧ i ≤ 1000000000) : Dr (some i) := fun x e => by
  cases e
  exact h
def Dw (ws : List (Option Int)) : Prop := ∀ w ∈ ws, Dr w
theorem Dw.wn {ws : List (Option Int)} (h : Dw ws) : Wn ws := fun j x e => by
  rw [List.getD_eq_getElem?_getD] at e
  cases z : ws[j]? with
  | none => rw [z] at e; cases e
  | some w =>
    rw [z] at e
    exact (h w (List.mem_of_getElem? z) x e).1
/-- a line as the laws draw it -/
structure Ln (row : Bool) (rooms : List Int) (most : Nat) : Prop where
  n0 : 0 < rooms.length
  n2 : row = false → 2 ≤ rooms.length
  nz : rooms.length ≤ most
  rm : Rm rooms
theorem line_of {most : Nat} {Q : PyData → Prop} (h0 : 0 < most) (hm : most ≤ 90) (q : ∀ row rooms, Ln row rooms most → Q (ln true row rooms)) : F__law_line [.box, .dt (.int (most : Nat))] Q := by
  unfold F__law_line
  refine ⟨rfl, ⟨⟨by omega, by omega⟩, fun r r0 r1 => ?_⟩⟩
  show f__law_line_1 [.box, .dt (.int (most : Nat)), .dt (.int (1 + r)), .no, .no] _
  unfold f__law_line_1
  refine ⟨⟨by omega, by omega⟩, ⟨by rw [range_len]; omega, ?_⟩⟩
  unfold rangeD
  refine comp_any (fun k : Nat => .int (0 + (k : Nat))) (fun y => ∃ x : Int, y = .int x ∧ 1 ≤ x ∧ x ≤ 1000000000) _ [] (fun x hx P hp => ?_) (fun ys hl hr => ?_)
  · refine ⟨⟨by decide, by decide⟩, fun s s0 s1 => ⟨⟨by decide, by decide⟩, fun t t0 t1 => ?_⟩⟩
    have c : t = 0 ∨ t = 1 ∨ t = 2 ∨ t = 3 := by omega
    rcases c with rfl | rfl | rfl | rfl
    · exact hp _ ⟨1, rfl, by omega, by omega⟩
    · exact hp _ ⟨2, rfl, by omega, by omega⟩
    · exact hp _ ⟨3, rfl, by omega, by omega⟩
    · exact hp _ ⟨1 + s, rfl, by omega, by omega⟩
  obtain ⟨rooms, rfl, hR⟩ := ints_ex hr
  rw [List.length_map, List.length_range] at hl
  have hl : rooms.length = (1 + r).toNat := hl
  show f__law_line_0 [.box, .dt (.int (most : Nat)), .dt (.int (1 + r)), .dt (iq true rooms), .no] _
  unfold f__law_line_0
  show if decide (1 < 1 + r) = true then _ else _
  by_cases z : 1 < 1 + r
  · rw [if_pos (decide_eq_true z)]
    refine ⟨⟨by decide, by decide⟩, fun t t0 t1 => ?_⟩
    show if decide (t = 0) = true then _ else _
    by_cases y : t = 0
    · rw [if_pos (decide_eq_true y)]
      exact q false rooms ⟨by omega, fun _ => by omega, by omega, hR⟩
    · rw [if_neg (by rw [decide_eq_true_eq]; exact y)]
      exact q true rooms ⟨by omega, (fun w => by cases w), by omega, hR⟩
  · rw [if_neg (by rw [decide_eq_true_eq]; exact z)]
    exact q true rooms ⟨by omega, (fun w => by cases w), by omega, hR⟩
theorem size_of {row : Bool} {rooms : List Int} {Q : PyData → Prop} (q : Q (.int (gts row rooms.length : Nat))) : Q (.int (((rooms.map PyData.int).length : Nat) + (if decide (fm row = "row") = true then 1 else 0))) := by
  rw [fm_row, len_i]
  cases row with
  | true => exact q
  | false => exact q
theorem doors_of {row : Bool} {rooms : List Int} {Q : PyData → Prop} (hz : rooms.length ≤ 90) (q : ∀ ws, ws.length = gts row rooms.length → Dw ws → Q (sqd true (ws.map oI))) : F__law_doors [.box, .dt (ln true row rooms)] Q := by
  have gb : gts row rooms.length ≤ 91 := by
    unfold gts
    split <;> omega
  unfold F__law_doors
  refine ⟨rfl, ?_⟩
  refine size_of (Q := fun d => gN 2 d [.box, .dt (ln true row rooms), .no, .no] fun ρ' => f__law_doors_0 ρ' { nx := fun _ => Q .none, rt := Q, rl := fun ds => Q (.list ds) }) ?_
  show f__law_doors_0 [.box, .dt (ln true row rooms), .dt (.int (gts row rooms.length : Nat)), .no] _
  unfold f__law_doors_0
  refine ⟨⟨by omega, by omega⟩, ⟨by rw [range_len]; omega, ?_⟩⟩
  unfold rangeD
  refine comp_any (fun k : Nat => .int (0 + (k : Nat))) (fun y => ∃ x, y = oI x ∧ Dr x) _ [] (fun x hx P hp => ?_) (fun ys hl hr => ?_)
  · refine ⟨⟨by decide, by decide⟩, fun s s0 s1 => ⟨⟨by decide, by decide⟩, fun u u0 u1 => ⟨⟨by decide, by decide⟩, fun t t0 t1 => ?_⟩⟩⟩
    have c : t = 0 ∨ t = 1 ∨ t = 2 ∨ t = 3 ∨ t = 4 := by omega
    rcases c with rfl | rfl | rfl | rfl | rfl
    · exact hp _ ⟨none, rfl, dr_none⟩
    · exact hp _ ⟨some 0, rfl, dr_some ⟨by decide, by decide⟩⟩
    · exact hp _ ⟨some (1 + s), rfl, dr_some ⟨by omega, by omega⟩⟩
    · exact hp _ ⟨none, rfl, dr_none⟩
    · exact hp _ ⟨some u, rfl, dr_some ⟨by omega, by omega⟩⟩
  obtain ⟨ws, rfl, hR⟩ := wids_ex hr
  rw [List.length_map, List.length_range] at hl
  exact q ws (by omega) hR
theorem vd_of {rooms hs : List Int} (hl : hs.length = rooms.length) (h : ∀ i, i < rooms.length → 0 ≤ hs.getD i 0 ∧ hs.getD i 0 ≤ rooms.getD i 0) : Vd rooms hs := ⟨hl, fun i hi => (h i hi).1, fun i hi => (h i hi).2⟩
theorem get_mem {l : List Int} {i : Nat} (h : i < l.length) : l.getD i 0 ∈ l := by
  rw [List.getD_eq_getElem?_getD, List.getElem?_eq_getElem h]
  exact List.getElem_mem h
inductive All2 {α β : Type} (R : α → β → Prop) : List α → List β → Prop
  | nil : All2 R [] []
  | cons {a : α} {b : β} {as : List α} {bs : List β} : R a b → All2 R as bs → All2 R (a :: as) (b :: bs)
/-- part by part, something of R -/
theorem comp_each {α : Type} {g : FG} {te : FE} {ρ : List Sl} {Q : List PyData → Prop} (e : α → PyData) (R : α → Int → Prop) : ∀ (xs : List α) (acc : List PyData), (∀ x ∈ xs, ∀ P : PyData → Prop, (∀ y, R x y → P (.int y)) → g (e x) ρ fun ρ' => te ρ' P) →
    (∀ ys : List Int, All2 R xs ys → Q (acc ++ ys.map PyData.int)) → compD g fYes te ρ (xs.map e) acc Q
  | [], acc, _, q => by
    have z := q [] .nil
    rw [List.map_nil, List.append_nil] at z
    exact z
  | x :: xs, acc, hs, q => hs x (List.mem_cons_self ..) (fun y => compD g fYes te ρ (xs.map e) (acc ++ [y]) Q) fun y hy => comp_each e R xs _ (fun z hz => hs z (List.mem_cons_of_mem _ hz)) fun ys hr => by
    rw [List.append_assoc]
    exact q (y :: ys) (.cons hy hr)
theorem vd_all : ∀ {rooms hs : List Int}, All2 (fun r h => 0 ≤ h ∧ h ≤ r) rooms hs → Vd rooms hs
  | _, _, .nil => ⟨rfl, fun i hi => absurd hi (Nat.not_lt_zero _), fun i hi => absurd hi (Nat.not_lt_zero _)⟩
  | r :: rooms, h :: hs, .cons a b => by
    have v := vd_all b
    refine vd_of (by rw [List.length_cons, List.length_cons, v.len]) fun i hi => ?_
    cases i with
    | zero => exact a
    | succ i => exact ⟨v.lo i (by rw [List.length_cons] at hi; omega), v.hi i (by rw [List.length_cons] at hi; omega)⟩
theorem lies_of {row : Bool} {rooms : List Int} {Q : PyData → Prop} (hz : rooms.length ≤ 90) (R : Rm rooms) (q : ∀ hs, Vd rooms hs → Q (iq true hs)) : F__law_lies [.box, .dt (ln true row rooms)] Q := by
  unfold F__law_lies
  refine ⟨rfl, ⟨⟨by decide, by decide⟩, fun t t0 t1 => ?_⟩⟩
  show f__law_lies_1 [.box, .dt (ln true row rooms), .dt (.int t), .no] _
  unfold f__law_lies_1
  show if decide (t < 2) = true then _ else _
  by_cases z : t < 2
  · rw [if_pos (decide_eq_true z)]
    refine (show (rooms.map PyData.int).length ≤ 1000000 ∧ _ from ⟨by rw [len_i]; omega, ?_⟩)
    refine comp_each PyData.int (fun r h => 0 ≤ h ∧ h ≤ r) rooms [] (fun x hx P hp => ?_) (fun ys hr => q ys (vd_all hr))
    have hx := R x hx
    refine (show CMul x t ∧ _ from ⟨.inr ⟨by omega, by omega⟩, hp _ ?_⟩)
    have c : t = 0 ∨ t = 1 := by omega
    rcases c with rfl | rfl
    · rw [Int.mul_zero]; omega
    · rw [Int.mul_one]; omega
  · rw [if_neg (by rw [decide_eq_true_eq]; exact z)]
    show f__law_lies_0 [.box, .dt (ln true row rooms), .dt (.int t), .no] _
    unfold f__law_lies_0
    refine (show (rooms.map PyData.int).length ≤ 100 ∧ _ from ⟨by rw [len_i]; omega, ?_⟩)
    refine comp_each PyData.int (fun r h => 0 ≤ h ∧ h ≤ r) rooms [] (fun x hx P hp => ?_) (fun ys hr => q ys (vd_all hr))
    have hx := R x hx
    exact ⟨⟨by omega, by omega⟩, fun s s0 s1 => hp _ ⟨s0, by omega⟩⟩
abbrev grBody : FS := (sApp 5 (eBin gIx (eLst (dCons (eC .none) (dCons (eCall F__law_wide (aBox 0 (aCons (eBin (gIc CPow fun i j => i ^ j.toNat) (eC (.int 10)) (eC (.int 9))) aNil))) (dCons (eBin gAdd (eC (.int 1)) (eCall F_take (aBox 0 (aCons (eC (.int 9)) aNil)))) (dCons (eC (.int 0)) dNil))))) (eBin gIx (eLst (dCons (eC (.int 0)) (dCons (eC (.int 0)) (dCons (eC (.int 1)) (dCons (eC (.int 1)) (dCons (eC (.int 2)) (dCons (eC (.int 3)) dNil))))))) (eCall F_take (aBox 0 (aCons (eC (.int 6)) aNil))))))
theorem great_of {most : Nat} {Q : PyData → Prop} (h0 : 2 ≤ most) (hm : most ≤ 90) (q : ∀ row rooms ws hs, Ln row rooms most → ws.length = gts row rooms.length → Dw ws → Vd rooms hs → Q (.tuple [ln true row rooms, sqd true (ws.map oI), iq true hs])) : F__law_great_line [.box, .dt (.int (most : Nat))] Q := by
  unfold F__law_great_line
  refine ⟨rfl, (show (0 < (most : Int) - 1 ∧ (most : Int) - 1 < 1073741824) ∧ _ from ⟨⟨by omega, by omega⟩, fun r r0 r1 => ?_⟩)⟩
  have r1 : r < (most : Int) - 1 := r1
  show f__law_great_line_4 [.box, .dt (.int (most : Nat)), .dt (.int (2 + r)), .no, .no, .no, .no, .no, .no] _
  unfold f__law_great_line_4
  refine ⟨⟨by omega, by omega⟩, ⟨by rw [range_len]; omega, ?_⟩⟩
  unfold rangeD
  refine comp_any (fun k : Nat => .int (0 + (k : Nat))) (fun y => ∃ x : Int, y = .int x ∧ 1 ≤ x ∧ x ≤ 1000000000) _ [] (fun x hx P hp => ?_) (fun ys hl hr => ?_)
  · exact ⟨⟨by decide, by decide, by decide⟩, wide_of (by decide) fun s s0 s1 => hp _ ⟨1 + s, rfl, by omega, by have s2 : s < 1000000000 := s1; omega⟩⟩
  obtain ⟨rooms, rfl, hR⟩ := ints_ex hr
  rw [List.length_map, List.length_range] at hl
  have hl : rooms.length = (2 + r).toNat := hl
  show f__law_great_line_3 [.box, .dt (.int (most : Nat)), .dt (.int (2 + r)), .dt (iq true rooms), .no, .no, .no, .no, .no] _
  unfold f__law_great_line_3
  refine ⟨⟨by decide, by decide⟩, fun t t0 t1 => ?_⟩
  have main : ∀ row : Bool, f__law_great_line_2 [.box, .dt (.int (most : Nat)), .dt (.int (2 + r)), .dt (iq true rooms), .dt (ln true row rooms), .no, .no, .no, .no] { nx := fun _ => Q .none, rt := Q, rl := fun ds => Q (.list ds) } := fun row => by
    have L : Ln row rooms most := ⟨by omega, fun _ => by omega, by omega, hR⟩
    have gb : gts row rooms.length ≤ 91 := by
      unfold gts
      split <;> omega
    unfold f__law_great_line_2
    show f__law_great_line_1 [.box, .dt (.int (most : Nat)), .dt (.int (2 + r)), .dt (iq true rooms), .dt (ln true row rooms), .own [], .no, .no, .no] _
    unfold f__law_great_line_1
    have e : 2 + r + (if decide (fm row = "row") = true then 1 else 0) = ((gts row rooms.length : Nat) : Int) := by
      rw [fm_row, hl]
      cases row with
      | true => show 2 + r + 1 = (((2 + r).toNat + 1 : Nat) : Int); omega
      | false => show 2 + r + 0 = (((2 + r).toNat : Nat) : Int); omega
    have loop : ∀ (n : Nat) (ks : List PyData), ks.length = n → n ≤ 100 → ∀ (acc : List (Option Int)) (s6 : Sl), Dw acc → acc.length + n = gts row rooms.length →
        forD (gN 6) grBody
          ks [.box, .dt (.int (most : Nat)), .dt (.int (2 + r)), .dt (iq true rooms), .dt (ln true row rooms), .own (acc.map oI), s6, .no, .no] { nx := fun ρ' => f__law_great_line_0 ρ' { nx := fun _ => Q .none, rt := Q, rl := fun ds => Q (.list ds) }, rt := Q, rl := fun ds => Q (.list ds) } := by
      intro n
      induction n with
      | zero =>
        intro ks hk _ acc s6 hA hlA
        cases ks with
        | cons => cases hk
        | nil =>
        show f__law_great_line_0 _ _
        unfold f__law_great_line_0
        refine (show (rooms.map PyData.int).length ≤ 100 ∧ _ from ⟨by rw [len_i]; omega, ?_⟩)
        refine comp_each PyData.int (fun r h => 0 ≤ h ∧ h ≤ r) rooms [] (fun x hx P hp => ?_) (fun ys hr => q row rooms acc ys L (by omega) hA (vd_all hr))
        have hx := hR x hx
        exact wide_of (by omega) fun s s0 s1 => hp _ ⟨s0, by omega⟩
      | succ n ih =>
        intro ks hk hn acc s6 hA hlA
        cases ks with
        | nil => cases hk
        | cons d ks =>
        rw [List.length_cons] at hk
        refine (show _ ∧ _ from ⟨⟨by decide, by decide, by decide⟩, wide_of (by decide) fun s s0 s1 => ⟨⟨by decide, by decide⟩, fun u u0 u1 => ⟨⟨by decide, by decide⟩, fun v v0 v1 => ?_⟩⟩⟩)
        have s2 : s < 1000000000 := s1
        have add : ∀ w : Option Int, Dr w → (acc.map oI).length < 1000000 ∧ forD (gN 6) _ ks ([.box, .dt (.int (most : Nat)), .dt (.int (2 + r)), .dt (iq true rooms), .dt (ln true row rooms), .own (acc.map oI ++ [oI w]), .dt d, .no, .no] : List Sl) _ := fun w hw => by
          refine ⟨by rw [List.length_map]; omega, ?_⟩
          have z := ih ks (by omega) (by omega) (acc ++ [w]) (.dt d) (fun x hx => by
            rcases List.mem_append.mp hx with hx | hx
            · exact hA x hx
            · rw [List.mem_singleton.mp hx]; exact hw) (by rw [List.length_append, List.length_singleton]; omega)
          rw [List.map_append] at z
          exact z
        have c : v = 0 ∨ v = 1 ∨ v = 2 ∨ v = 3 ∨ v = 4 ∨ v = 5 := by omega
        rcases c with rfl | rfl | rfl | rfl | rfl | rfl
        · exact add none dr_none
        · exact add none dr_none
        · exact add (some s) (dr_some ⟨s0, by omega⟩)
        · exact add (some s) (dr_some ⟨s0, by omega⟩)
        · exact add (some (1 + u)) (dr_some ⟨by omega, by omega⟩)
        · exact add (some 0) (dr_some ⟨by decide, by decide⟩)
    have key : ∀ m : Int, m = ((gts row rooms.length : Nat) : Int) → (-(2 ^ 62) ≤ m ∧ m < 2 ^ 62) ∧ (rangeD 0 m.toNat).length ≤ 100 ∧ forD (gN 6) grBody (rangeD 0 m.toNat) [.box, .dt (.int (most : Nat)), .dt (.int (2 + r)), .dt (iq true rooms), .dt (ln true row rooms), .own [], .no, .no, .no]
        { nx := fun ρ' => f__law_great_line_0 ρ' { nx := fun _ => Q .none, rt := Q, rl := fun ds => Q (.list ds) }, rt := Q, rl := fun ds => Q (.list ds) } := fun m hm => by
      subst hm
      exact ⟨⟨by omega, by omega⟩, by rw [range_len]; omega, loop (gts row rooms.length) _ (by rw [range_len]; omega) (by omega) [] .no (fun w hw => nomatch hw) (by simp)⟩
    exact key _ e
  show if decide (t = 0) = true then _ else _
  by_cases y : t = 0
  · rw [if_pos (decide_eq_true y)]
    exact main false
  · rw [if_neg (by rw [decide_eq_true_eq]; exact y)]
    exact main true
theorem sense_of {ds : List PyData} {Q : PyData → Prop} (h0 : 0 < ds.length) (hz : ds.length < 1000) (hd : ∀ d ∈ ds, d = .str "forth" ∨ d = .str "back") (q : ∀ b, Q (.str (wy b))) : F__law_of [.box, .dt (.list ds)] Q := one_of_ h0 hz fun d hm => by
  rcases hd d hm with rfl | rfl
  · exact q true
  · exact q false
end Kd
namespace Kd
open PySem PySem.Spec PyProof.Rows L2 Xg Dv
def f_between : FS := (sSeq (sAsg (eVar 0) (gT (gsCons (gN 3) (gsCons (gN 4) gsNil)))) (sSeq (sIf (fAnd (fTest (eBin gEq (eVar 3) (eC (.str "ring")))) (fTest (eBin gNe (eCB (g1 sumX) (dCons (eVar 1) dNil)) (eCB (g1 sumX) (dCons (eVar 2) dNil))))) sNever sSkip) (sSeq (sOwn (dCons (eC (.int 0)) dNil) 5) (sSeq (sFor 1000000 (fZip (eVar 1) (eVar 2)) (gT (gsCons (gN 6) (gsCons (gN 7) gsNil))) (sApp 5 (eBin (gI fun i j => i - j) (eBin gAdd (eBin gIx (eVarV 5) (eUn negD (eC (.int 1)))) (eVar 6)) (eVar 7)))) (sRet (eUn tupD (eSl (eVarV 5) oNone (oSome (eCall F_gates (aCons (eVar 0) aNil))))))))))
@[irreducible] def F_between : FF := mkF 3 8 f_between
def t_between (K : PySem.W.Frag) : TS := (tSeq (tAsg (tVar 0) (fun v σ H Q => gTup K 2 (gCons (gName 3) (gCons (gName 4) gNil)) v σ H Q ∨ gLst K 2 (gCons (gName 3) (gCons (gName 4) gNil)) v σ H Q)) (tSeq (tIfS (tAnd (tTest (tOp (rEqX K) (tVar 3) (tC (.str "ring")))) (tTest (tOp (rNeX K) (tCB (rSumX K) (tCons (tVar 1) tNil)) (tCB (rSumX K) (tCons (tVar 2) tNil))))) (fun _ _ _ => False) tNext) (tSeq (tAsg (tLst (tCons (tC (.int 0)) tNil)) (gName 5)) (tSeq (tFor (Pw.iZipX K (tCons (tVar 1) (tCons (tVar 2) tNil))) (fun v σ H Q => gTup K 2 (gCons (gName 6) (gCons (gName 7) gNil)) v σ H Q ∨ gLst K 2 (gCons (gName 6) (gCons (gName 7) gNil)) v σ H Q) (tDrop (tBM K "list" rAppend (tVar 5) (tCons (tOp (rI0 fun i j => .int (i - j)) (tOp (rAdd K) (tOp (rIx K) (tVar 5) (tUn (rU fun i => .int (-i)) (tC (.int 1)))) (tVar 6)) (tVar 7)) tNil)))) (tRet (tThen (tSl (rSlX K) (tVar 5) tNoPart (tPart (tCallG (spD K 0 F_gates) (tCons (tVar 0) tNil)))) (kTup K)))))))
theorem s_between (K : PySem.W.Frag) : SndS K (t_between K) 0 f_between := (snds_seq (snds_asg (vs := [3, 4]) snd_var (sndg_tup (sndgs_cons (sndg_name (by decide)) (sndgs_cons (sndg_name (by decide)) sndgs_nil)) (gs_lenS gN_some (gs_lenS gN_some gs_len0)))) (snds_seq (snds_if (sndt_and (sndt_test (snd_op ops_eq snd_var snd_str)) (sndt_test (snd_op ops_ne (snd_cb cs_sumX (sndd_cons snd_var sndd_nil)) (snd_cb cs_sumX (sndd_cons snd_var sndd_nil))))) snds_never snds_nil) (snds_seq (snds_own (sndl_lst (sndd_cons snd_int sndd_nil) (by decide))) (snds_seq (snds_for (vs := [6, 7]) (N := 1000000) (sndi_zip snd_var snd_var) (sndg_tup (sndgs_cons (sndg_name (by decide)) (sndgs_cons (sndg_name (by decide)) sndgs_nil)) (gs_lenS gN_some (gs_lenS gN_some gs_len0))) (snds_app (snd_op ops_I (snd_op ops_add (snd_op ops_ix sndV_var (snd_un us_neg snd_int)) snd_var) snd_var))) (snds_ret (snd_tupOf (snd_sl sndV_var sndo_none (sndo_some (snd_call (m_gates K) (snda_cons snd_var snda_nil))))))))))
theorem m_between (K : PySem.W.Frag) : MonoF F_between := by
  unfold F_between
  exact mkF_mono (s_between K)
def f_apart : FS := (sSeq (sAsg (eCall F_between (aCons (eVar 0) (aCons (eVar 1) (aCons (eVar 2) aNil)))) (gN 3)) (sRet (eBin (gI fun i j => i - j) (eCB (g1 maxX) (dCons (eVar 3) dNil)) (eCB (g1 minX) (dCons (eVar 3) dNil)))))
@[irreducible] def F_apart : FF := mkF 3 4 f_apart
def t_apart (K : PySem.W.Frag) : TS := (tSeq (tAsg (tCallG (spD K 0 F_between) (tCons (tVar 0) (tCons (tVar 1) (tCons (tVar 2) tNil)))) (gName 3)) (tRet (tOp (rI0 fun i j => .int (i - j)) (tCB (rMaxX K) (tCons (tVar 3) tNil)) (tCB (rMinX K) (tCons (tVar 3) tNil)))))
theorem s_apart (K : PySem.W.Frag) : SndS K (t_apart K) 0 f_apart := (snds_seq (snds_asg (vs := [3]) (snd_call (m_between K) (snda_cons snd_var (snda_cons snd_var (snda_cons snd_var snda_nil)))) (sndg_name (by decide))) (snds_ret (snd_op ops_I (snd_cb cs_maxX (sndd_cons snd_var sndd_nil)) (snd_cb cs_minX (sndd_cons snd_var sndd_nil)))))
theorem m_apart (K : PySem.W.Frag) : MonoF F_apart := by
  unfold F_apart
  exact mkF_mono (s_apart K)
def f_is_further : FS := (sRet (eBin (gC fun i j => decide (j ≤ i)) (eCB (g1 minX) (dCons (eCall F_between (aCons (eVar 0) (aCons (eVar 1) (aCons (eVar 2) aNil)))) dNil)) (eC (.int 0))))
@[irreducible] def F_is_further : FF := mkF 3 3 f_is_further
def t_is_further (K : PySem.W.Frag) : TS := (tRet (tOp (rI0 fun i j => .bl (decide (j ≤ i))) (tCB (rMinX K) (tCons (tCallG (spD K 0 F_between) (tCons (tVar 0) (tCons (tVar 1) (tCons (tVar 2) tNil)))) tNil)) (tC (.int 0))))
theorem s_is_further (K : PySem.W.Frag) : SndS K (t_is_further K) 0 f_is_further := (snds_ret (snd_op ops_C (snd_cb cs_minX (sndd_cons (snd_call (m_between K) (snda_cons snd_var (snda_cons snd_var (snda_cons snd_var snda_nil)))) sndd_nil)) snd_int))
theorem m_is_further (K : PySem.W.Frag) : MonoF F_is_further := by
  unfold F_is_further
  exact mkF_mono (s_is_further K)
def f_lesser : FS := (sRet (eCall F_led_to (aCons (eVar 1) (aCons (eL (fComp 1000000 (fIt (eCall F_between (aCons (eVar 0) (aCons (eVar 1) (aCons (eVar 2) aNil))))) [3] (gN 3) fYes (eCB (g2 (gI fun i j => if j < i then j else i)) (dCons (eC (.int 0)) (dCons (eVar 3) dNil))))) aNil))))
@[irreducible] def F_lesser : FF := mkF 3 4 f_lesser
def t_lesser (K : PySem.W.Frag) : TS := (tRet (tCallG (spD K 0 F_led_to) (tCons (tVar 1) (tCons (tLc (Pw.iSeq K (tCallG (spD K 0 F_between) (tCons (tVar 0) (tCons (tVar 1) (tCons (tVar 2) tNil))))) (gName 3) tYes (tCB (fun xs H Q => ∃ i j, xs = [.int i, .int j] ∧ Q (.int (if j < i then j else i)) H) (tCons (tC (.int 0)) (tCons (tVar 3) tNil))) [3]) tNil))))
theorem s_lesser (K : PySem.W.Frag) : SndS K (t_lesser K) 0 f_lesser := (snds_ret (snd_call (m_led_to K) (snda_cons snd_var (snda_cons (SndL.d (sndl_comp (N := 1000000) (by decide) (sndi_seq (Snd.v (snd_call (m_between K) (snda_cons snd_var (snda_cons snd_var (snda_cons snd_var snda_nil)))))) (sndg_name (by decide)) sndt_yes (snd_cb cs_min2 (sndd_cons snd_int (sndd_cons snd_var sndd_nil))))) snda_nil))))
theorem m_lesser (K : PySem.W.Frag) : MonoF F_lesser := by
  unfold F_lesser
  exact mkF_mono (s_lesser K)
def f_greater : FS := (sRet (eCall F_led_to (aCons (eVar 1) (aCons (eL (fComp 1000000 (fIt (eCall F_between (aCons (eVar 0) (aCons (eVar 1) (aCons (eVar 2) aNil))))) [3] (gN 3) fYes (eCB (g2 (gI fun i j => if j > i then j else i)) (dCons (eC (.int 0)) (dCons (eVar 3) dNil))))) aNil))))
@[irreducible] def F_greater : FF := mkF 3 4 f_greater
def t_greater (K : PySem.W.Frag) : TS := (tRet (tCallG (spD K 0 F_led_to) (tCons (tVar 1) (tCons (tLc (Pw.iSeq K (tCallG (spD K 0 F_between) (tCons (tVar 0) (tCons (tVar 1) (tCons (tVar 2) tNil))))) (gName 3) tYes (tCB (fun xs H Q => ∃ i j, xs = [.int i, .int j] ∧ Q (.int (if j > i then j else i)) H) (tCons (tC (.int 0)) (tCons (tVar 3) tNil))) [3]) tNil))))
theorem s_greater (K : PySem.W.Frag) : SndS K (t_greater K) 0 f_greater := (snds_ret (snd_call (m_led_to K) (snda_cons snd_var (snda_cons (SndL.d (sndl_comp (N := 1000000) (by decide) (sndi_seq (Snd.v (snd_call (m_between K) (snda_cons snd_var (snda_cons snd_var (snda_cons snd_var snda_nil)))))) (sndg_name (by decide)) sndt_yes (snd_cb cs_max2 (sndd_cons snd_int (sndd_cons snd_var sndd_nil))))) snda_nil))))
theorem m_greater (K : PySem.W.Frag) : MonoF F_greater := by
  unfold F_greater
  exact mkF_mono (s_greater K)
end Kd
/-! how far two are apart -/
namespace Kd
open PySem PySem.Spec PyProof.Rows L2 Xg Dv
/-- how many more lie in the first bins -/
def pre (hs ks : List Int) (j : Nat) : Int := (vec j fun i => hs.getD i 0 - ks.getD i 0).sum
theorem pre_zero {hs ks : List Int} : pre hs ks 0 = 0 := rfl
theorem pre_succ {hs ks : List Int} {j : Nat} : pre hs ks (j + 1) = pre hs ks j + (hs.getD j 0 - ks.getD j 0) := vec_sum
theorem pre_sum : ∀ {n : Nat} {hs ks : List Int}, hs.length = n → ks.length = n → pre hs ks n = hs.sum - ks.sum := by
  intro n hs ks lh lk
  rw [sum_vec hs, sum_vec ks, lh, lk]
  unfold pre
  induction n generalizing hs ks with
  | zero => rfl
  | succ n ih =>
    have z : ∀ m, (vec m fun i => hs.getD i 0 - ks.getD i 0).sum = (vec m fun i => hs.getD i 0).sum - (vec m fun i => ks.getD i 0).sum := by
      intro m
      induction m with
      | zero => rfl
      | succ m ih =>
        rw [vec_sum, vec_sum, vec_sum, ih]
        omega
    exact z _
def btw (row : Bool) (n : Nat) (hs ks : List Int) : List Int := vec (gts row n) (pre hs ks)
theorem btw_len {row : Bool} {n : Nat} {hs ks : List Int} : (btw row n hs ks).length = gts row n := vec_len
/-- these counts lead from the one to the other -/
theorem btw_led {row : Bool} {n : Nat} {hs ks : List Int} (n0 : 0 < n) (lh : hs.length = n) (lk : ks.length = n) (hr : row = false → hs.sum = ks.sum) : ledL hs (btw row n hs ks) = ks := by
  refine ext_get (by rw [ld_len, lh, lk]) fun i hi => ?_
  rw [ld_len, lh] at hi
  have g := gts_le (row := row) (n := n)
  rw [ld_get (by omega), btw_len]
  unfold btw
  rw [vec_get (by omega), vec_get (Nat.mod_lt _ (by omega))]
  have e : pre hs ks ((i + 1) % gts row n) = pre hs ks (i + 1) := by
    cases row with
    | true =>
      show pre hs ks ((i + 1) % (n + 1)) = _
      rw [Nat.mod_eq_of_lt (by omega)]
    | false =>
      show pre hs ks ((i + 1) % n) = _
      by_cases z : i + 1 = n
      · rw [z, Nat.mod_self, pre_zero, pre_sum lh lk, hr rfl]
        omega
      · rw [Nat.mod_eq_of_lt (by omega)]
  rw [e, pre_succ]
  omega
theorem between_of {row : Bool} {rooms hs ks : List Int} {Q : PyData → Prop} (n0 : 0 < rooms.length) (nz : rooms.length ≤ 900) (lh : hs.length = rooms.length) (lk : ks.length = rooms.length) (hr : row = false → hs.sum = ks.sum) (q : Q (iq true (btw row rooms.length hs ks))) :
    F_between [.dt (ln true row rooms), .dt (iq true hs), .dt (iq true ks)] Q := by
  have gz : gts row rooms.length ≤ rooms.length + 1 := by
    unfold gts
    split <;> omega
  have fin : ∀ (s6 s7 : Sl) (rr : PyData), sRet (eUn tupD (eSl (eVarV 5) oNone (oSome (eCall F_gates (aCons (eVar 0) aNil))))) [.dt (ln true row rooms), .dt (iq true hs), .dt (iq true ks), .dt (.str (fm row)), .dt rr, .own ((vec (rooms.length + 1) (pre hs ks)).map PyData.int), s6, s7] { nx := fun _ => Q .none, rt := Q, rl := fun ds => Q (.list ds) } := fun s6 s7 rr => by
    refine gates_of ?_
    show Q (.tuple (Dv.cutD ((vec (rooms.length + 1) (pre hs ks)).map PyData.int) none (some ((gts row rooms.length : Nat) : Int))))
    unfold Dv.cutD
    rw [HT.sIx_none, HT.sIx_nat, List.drop_zero, Nat.sub_zero, len_i, vec_len, Nat.min_eq_left gz, ← List.map_take]
    have e : (vec (rooms.length + 1) (pre hs ks)).take (gts row rooms.length) = btw row rooms.length hs ks := by
      unfold btw vec
      rw [← List.map_take, List.take_range, Nat.min_eq_left gz]
    rw [e]
    exact q
  have loop : ∀ (rr : PyData) (m : Nat) (ds : List PyData) (s6 s7 : Sl), m ≤ rooms.length → ds = (zipD (hs.map PyData.int) (ks.map PyData.int)).drop m →
      forD (gT (gsCons (gN 6) (gsCons (gN 7) gsNil))) (sApp 5 (eBin (gI fun i j => i - j) (eBin gAdd (eBin gIx (eVarV 5) (eUn negD (eC (.int 1)))) (eVar 6)) (eVar 7))) ds [.dt (ln true row rooms), .dt (iq true hs), .dt (iq true ks), .dt (.str (fm row)), .dt rr, .own ((vec (m + 1) (pre hs ks)).map PyData.int), s6, s7]
        { nx := fun ρ' => sRet (eUn tupD (eSl (eVarV 5) oNone (oSome (eCall F_gates (aCons (eVar 0) aNil))))) ρ' { nx := fun _ => Q .none, rt := Q, rl := fun ds => Q (.list ds) }, rt := Q, rl := fun ds => Q (.list ds) } := by
    intro rr m ds
    have lz : (zipD (hs.map PyData.int) (ks.map PyData.int)).length = rooms.length := zip_len (by rw [len_i, lh]) (by rw [len_i, lk])
    induction ds generalizing m with
    | nil =>
      intro s6 s7 hm e
      have z : rooms.length ≤ m := by
        have := congrArg List.length e
        rw [List.length_drop, lz] at this
        simp at this
        omega
      obtain rfl : m = rooms.length := by omega
      exact fin s6 s7 rr
    | cons d ds ih =>
      intro s6 s7 hm e
      have hl : m < rooms.length := by
        have := congrArg List.length e
        rw [List.length_drop, lz, List.length_cons] at this
        omega
      have ed : (zipD (hs.map PyData.int) (ks.map PyData.int))[m]? = some d := by
        have := congrArg (fun l => l[0]?) e
        simp only [List.getElem?_cons_zero, List.getElem?_drop, Nat.add_zero] at this
        exact this.symm
      have et : ds = (zipD (hs.map PyData.int) (ks.map PyData.int)).drop (m + 1) := by
        have := congrArg (List.drop 1) e
        rw [List.drop_drop] at this
        exact this
      obtain ⟨x, y, e1, e2, rfl⟩ := zip_at ed
      obtain ⟨_, rfl⟩ := map_at e1
      obtain ⟨_, rfl⟩ := map_at e2
      have la : L2.atI ((vec (m + 1) (pre hs ks)).map PyData.int) (-1) = some (.int (pre hs ks m)) := by
        have z : (vec (m + 1) (pre hs ks)).map PyData.int = (vec m (pre hs ks)).map PyData.int ++ [.int (pre hs ks m)] := by
          unfold vec
          rw [List.range_succ, List.map_append, List.map_append]
          rfl
        rw [z]
        exact atI_last _ _
      show atQ (L2.atI ((vec (m + 1) (pre hs ks)).map PyData.int) (-1)) _
      rw [la]
      refine (show ((vec (m + 1) (pre hs ks)).map PyData.int).length < 1000000 ∧ _ from ⟨by rw [len_i, vec_len]; omega, ?_⟩)
      have nx : (vec (m + 1) (pre hs ks)).map PyData.int ++ [.int (pre hs ks m + hs.getD m 0 - ks.getD m 0)] = (vec (m + 1 + 1) (pre hs ks)).map PyData.int := by
        have z : pre hs ks m + hs.getD m 0 - ks.getD m 0 = pre hs ks (m + 1) := by rw [pre_succ]; omega
        rw [z]
        unfold vec
        rw [List.range_succ (n := m + 1), List.map_append, List.map_append]
        rfl
      have z := ih (m + 1) (.dt (.int (hs.getD m 0))) (.dt (.int (ks.getD m 0))) (by omega) et
      rw [← nx] at z
      exact z
  have go : ∀ rr : PyData, sSeq (sOwn (dCons (eC (.int 0)) dNil) 5) (sSeq (sFor 1000000 (fZip (eVar 1) (eVar 2)) (gT (gsCons (gN 6) (gsCons (gN 7) gsNil))) (sApp 5 (eBin (gI fun i j => i - j) (eBin gAdd (eBin gIx (eVarV 5) (eUn negD (eC (.int 1)))) (eVar 6)) (eVar 7)))) (sRet (eUn tupD (eSl (eVarV 5) oNone (oSome (eCall F_gates (aCons (eVar 0) aNil)))))))
      [.dt (ln true row rooms), .dt (iq true hs), .dt (iq true ks), .dt (.str (fm row)), .dt rr, .no, .no, .no] { nx := fun _ => Q .none, rt := Q, rl := fun ds => Q (.list ds) } := fun rr => by
    refine (show (zipD (hs.map PyData.int) (ks.map PyData.int)).length ≤ 1000000 ∧ _ from ⟨by rw [zip_len (n := rooms.length) (by rw [len_i, lh]) (by rw [len_i, lk])]; omega, ?_⟩)
    exact loop rr 0 _ .no .no (Nat.zero_le _) rfl
  unfold F_between
  refine ⟨rfl, ?_⟩
  show if decide (fm row = "ring") = true then _ else _
  rw [fm_ring]
  cases row with
  | true =>
    rw [if_neg (by decide)]
    exact go _
  | false =>
    rw [if_pos (show (!false) = true from rfl)]
    refine ⟨hs, rfl, ks, rfl, ?_⟩
    show if (!decide (hs.sum = ks.sum)) = true then _ else _
    rw [decide_eq_true (hr rfl), if_neg (by decide)]
    exact go _
def loL (t : List Int) : List Int := t.map fun x => if x < 0 then x else 0
def hiL (t : List Int) : List Int := t.map fun x => if x > 0 then x else 0
theorem lo_len {t : List Int} : (loL t).length = t.length := List.length_map ..
theorem hi_len {t : List Int} : (hiL t).length = t.length := List.length_map ..
theorem map_get0 {f : Int → Int} (h0 : f 0 = 0) {t : List Int} {i : Nat} : (t.map f).getD i 0 = f (t.getD i 0) := by
  rw [List.getD_eq_getElem?_getD, List.getD_eq_getElem?_getD, List.getElem?_map]
  cases t[i]? with
  | none => exact h0.symm
  | some x => rfl
theorem lesser_of {row : Bool} {rooms hs ks : List Int} {Q : PyData → Prop} (n0 : 0 < rooms.length) (nz : rooms.length ≤ 900) (lh : hs.length = rooms.length) (lk : ks.length = rooms.length) (hr : row = false → hs.sum = ks.sum) (q : Q (iq true (ledL hs (loL (btw row rooms.length hs ks))))) :
    F_lesser [.dt (ln true row rooms), .dt (iq true hs), .dt (iq true ks)] Q := by
  have g := gts_le (row := row) (n := rooms.length)
  have gz : gts row rooms.length ≤ rooms.length + 1 := by
    unfold gts
    split <;> omega
  unfold F_lesser
  refine ⟨rfl, between_of n0 nz lh lk hr ?_⟩
  refine (show ((btw row rooms.length hs ks).map PyData.int).length ≤ 1000000 ∧ _ from ⟨by rw [len_i, btw_len]; omega, comp_enc PyData.int (fun x => .int (if x < 0 then x else 0)) (btw row rooms.length hs ks) [] (fun x _ P hp => hp) ?_⟩)
  have e : (btw row rooms.length hs ks).map (fun x => PyData.int (if x < 0 then x else 0)) = (loL (btw row rooms.length hs ks)).map PyData.int := by
    unfold loL
    rw [List.map_map]
    rfl
  rw [List.nil_append, e]
  exact ledTo_of (ks := true) (kc := false) (by rw [lo_len, btw_len]; omega) (by rw [lo_len, btw_len]; omega) (by omega) q
theorem greater_of {row : Bool} {rooms hs ks : List Int} {Q : PyData → Prop} (n0 : 0 < rooms.length) (nz : rooms.length ≤ 900) (lh : hs.length = rooms.length) (lk : ks.length = rooms.length) (hr : row = false → hs.sum = ks.sum) (q : Q (iq true (ledL hs (hiL (btw row rooms.length hs ks))))) :
    F_greater [.dt (ln true row rooms), .dt (iq true hs), .dt (iq true ks)] Q := by
  have g := gts_le (row := row) (n := rooms.length)
  have gz : gts row rooms.length ≤ rooms.length + 1 := by
    unfold gts
    split <;> omega
  unfold F_greater
  refine ⟨rfl, between_of n0 nz lh lk hr ?_⟩
  refine (show ((btw row rooms.length hs ks).map PyData.int).length ≤ 1000000 ∧ _ from ⟨by rw [len_i, btw_len]; omega, comp_enc PyData.int (fun x => .int (if x > 0 then x else 0)) (btw row rooms.length hs ks) [] (fun x _ P hp => hp) ?_⟩)
  have e : (btw row rooms.length hs ks).map (fun x => PyData.int (if x > 0 then x else 0)) = (hiL (btw row rooms.length hs ks)).map PyData.int := by
    unfold hiL
    rw [List.map_map]
    rfl
  rw [List.nil_append, e]
  exact ledTo_of (ks := true) (kc := false) (by rw [hi_len, btw_len]; omega) (by rw [hi_len, btw_len]; omega) (by omega) q
end Kd
namespace Kd
open PySem PySem.Spec PyProof.Rows L2 Xg Dv
theorem between_k {k k1 k2 row : Bool} {rooms hs ks : List Int} {Q : PyData → Prop} (hk : k1 = true ∨ k2 = false) (n0 : 0 < rooms.length) (nz : rooms.length ≤ 900) (lh : hs.length = rooms.length) (lk : ks.length = rooms.length) (hr : row = false → hs.sum = ks.sum) (q : Q (iq true (btw row rooms.length hs ks))) :
    F_between [.dt (ln k row rooms), .dt (iq k1 hs), .dt (iq k2 ks)] Q := by
  have gz : gts row rooms.length ≤ rooms.length + 1 := by
    unfold gts
    split <;> omega
  have fin : ∀ (s6 s7 : Sl) (rr : PyData), sRet (eUn tupD (eSl (eVarV 5) oNone (oSome (eCall F_gates (aCons (eVar 0) aNil))))) [.dt (ln k row rooms), .dt (iq k1 hs), .dt (iq k2 ks), .dt (.str (fm row)), .dt rr, .own ((vec (rooms.length + 1) (pre hs ks)).map PyData.int), s6, s7] { nx := fun _ => Q .none, rt := Q, rl := fun ds => Q (.list ds) } := fun s6 s7 rr => by
    refine gates_of ?_
    show Q (.tuple (Dv.cutD ((vec (rooms.length + 1) (pre hs ks)).map PyData.int) none (some ((gts row rooms.length : Nat) : Int))))
    unfold Dv.cutD
    rw [HT.sIx_none, HT.sIx_nat, List.drop_zero, Nat.sub_zero, len_i, vec_len, Nat.min_eq_left gz, ← List.map_take]
    have e : (vec (rooms.length + 1) (pre hs ks)).take (gts row rooms.length) = btw row rooms.length hs ks := by
      unfold btw vec
      rw [← List.map_take, List.take_range, Nat.min_eq_left gz]
    rw [e]
    exact q
  have loop : ∀ (rr : PyData) (m : Nat) (ds : List PyData) (s6 s7 : Sl), m ≤ rooms.length → ds = (zipD (hs.map PyData.int) (ks.map PyData.int)).drop m →
      forD (gT (gsCons (gN 6) (gsCons (gN 7) gsNil))) (sApp 5 (eBin (gI fun i j => i - j) (eBin gAdd (eBin gIx (eVarV 5) (eUn negD (eC (.int 1)))) (eVar 6)) (eVar 7))) ds [.dt (ln k row rooms), .dt (iq k1 hs), .dt (iq k2 ks), .dt (.str (fm row)), .dt rr, .own ((vec (m + 1) (pre hs ks)).map PyData.int), s6, s7]
        { nx := fun ρ' => sRet (eUn tupD (eSl (eVarV 5) oNone (oSome (eCall F_gates (aCons (eVar 0) aNil))))) ρ' { nx := fun _ => Q .none, rt := Q, rl := fun ds => Q (.list ds) }, rt := Q, rl := fun ds => Q (.list ds) } := by
    intro rr m ds
    have lz : (zipD (hs.map PyData.int) (ks.map PyData.int)).length = rooms.length := zip_len (by rw [len_i, lh]) (by rw [len_i, lk])
    induction ds generalizing m with
    | nil =>
      intro s6 s7 hm e
      have z : rooms.length ≤ m := by
        have := congrArg List.length e
        rw [List.length_drop, lz] at this
        simp at this
        omega
      obtain rfl : m = rooms.length := by omega
      exact fin s6 s7 rr
    | cons d ds ih =>
      intro s6 s7 hm e
      have hl : m < rooms.length := by
        have := congrArg List.length e
        rw [List.length_drop, lz, List.length_cons] at this
        omega
      have ed : (zipD (hs.map PyData.int) (ks.map PyData.int))[m]? = some d := by
        have := congrArg (fun l => l[0]?) e
        simp only [List.getElem?_cons_zero, List.getElem?_drop, Nat.add_zero] at this
        exact this.symm
      have et : ds = (zipD (hs.map PyData.int) (ks.map PyData.int)).drop (m + 1) := by
        have := congrArg (List.drop 1) e
        rw [List.drop_drop] at this
        exact this
      obtain ⟨x, y, e1, e2, rfl⟩ := zip_at ed
      obtain ⟨_, rfl⟩ := map_at e1
      obtain ⟨_, rfl⟩ := map_at e2
      have la : L2.atI ((vec (m + 1) (pre hs ks)).map PyData.int) (-1) = some (.int (pre hs ks m)) := by
        have z : (vec (m + 1) (pre hs ks)).map PyData.int = (vec m (pre hs ks)).map PyData.int ++ [.int (pre hs ks m)] := by
          unfold vec
          rw [List.range_succ, List.map_append, List.map_append]
          rfl
        rw [z]
        exact atI_last _ _
      show atQ (L2.atI ((vec (m + 1) (pre hs ks)).map PyData.int) (-1)) _
      rw [la]
      refine (show ((vec (m + 1) (pre hs ks)).map PyData.int).length < 1000000 ∧ _ from ⟨by rw [len_i, vec_len]; omega, ?_⟩)
      have nx : (vec (m + 1) (pre hs ks)).map PyData.int ++ [.int (pre hs ks m + hs.getD m 0 - ks.getD m 0)] = (vec (m + 1 + 1) (pre hs ks)).map PyData.int := by
        have z : pre hs ks m + hs.getD m 0 - ks.getD m 0 = pre hs ks (m + 1) := by rw [pre_succ]; omega
        rw [z]
        unfold vec
        rw [List.range_succ (n := m + 1), List.map_append, List.map_append]
        rfl
      have z := ih (m + 1) (.dt (.int (hs.getD m 0))) (.dt (.int (ks.getD m 0))) (by omega) et
      rw [← nx] at z
      exact z
  have go : ∀ rr : PyData, sSeq (sOwn (dCons (eC (.int 0)) dNil) 5) (sSeq (sFor 1000000 (fZip (eVar 1) (eVar 2)) (gT (gsCons (gN 6) (gsCons (gN 7) gsNil))) (sApp 5 (eBin (gI fun i j => i - j) (eBin gAdd (eBin gIx (eVarV 5) (eUn negD (eC (.int 1)))) (eVar 6)) (eVar 7)))) (sRet (eUn tupD (eSl (eVarV 5) oNone (oSome (eCall F_gates (aCons (eVar 0) aNil)))))))
      [.dt (ln k row rooms), .dt (iq k1 hs), .dt (iq k2 ks), .dt (.str (fm row)), .dt rr, .no, .no, .no] { nx := fun _ => Q .none, rt := Q, rl := fun ds => Q (.list ds) } := fun rr => by
    have z : (zipD (hs.map PyData.int) (ks.map PyData.int)).length ≤ 1000000 ∧ _ := ⟨by rw [zip_len (n := rooms.length) (by rw [len_i, lh]) (by rw [len_i, lk])]; omega, loop rr 0 _ .no .no (Nat.zero_le _) rfl⟩
    cases k1 with
    | true =>
      cases k2 with
      | true => exact z
      | false => exact z
    | false =>
      cases k2 with
      | true => exact absurd hk (by simp)
      | false => exact z
  have sx : ∀ (kk : Bool) (l : List Int) (P : PyData → Prop), P (.int l.sum) → sumX (iq kk l) P := fun kk l P hp => by
    cases kk with
    | true => exact ⟨l, rfl, hp⟩
    | false => exact ⟨l, rfl, hp⟩
  have main : ∀ rr : PyData, sSeq (sIf (fAnd (fTest (eBin gEq (eVar 3) (eC (.str "ring")))) (fTest (eBin gNe (eCB (g1 sumX) (dCons (eVar 1) dNil)) (eCB (g1 sumX) (dCons (eVar 2) dNil))))) sNever sSkip) (sSeq (sOwn (dCons (eC (.int 0)) dNil) 5) (sSeq (sFor 1000000 (fZip (eVar 1) (eVar 2)) (gT (gsCons (gN 6) (gsCons (gN 7) gsNil))) (sApp 5 (eBin (gI fun i j => i - j) (eBin gAdd (eBin gIx (eVarV 5) (eUn negD (eC (.int 1)))) (eVar 6)) (eVar 7)))) (sRet (eUn tupD (eSl (eVarV 5) oNone (oSome (eCall F_gates (aCons (eVar 0) aNil))))))))
      [.dt (ln k row rooms), .dt (iq k1 hs), .dt (iq k2 ks), .dt (.str (fm row)), .dt rr, .no, .no, .no] { nx := fun _ => Q .none, rt := Q, rl := fun ds => Q (.list ds) } := fun rr => by
    show if decide (fm row = "ring") = true then _ else _
    rw [fm_ring]
    cases row with
    | true =>
      rw [if_neg (by decide)]
      exact go rr
    | false =>
      rw [if_pos (show (!false) = true from rfl)]
      refine sx k1 hs _ (sx k2 ks _ ?_)
      show if (!decide (hs.sum = ks.sum)) = true then _ else _
      rw [decide_eq_true (hr rfl), if_neg (by decide)]
      exact go rr
  unfold F_between
  cases k with
  | true => exact ⟨rfl, main _⟩
  | false => exact ⟨rfl, main _⟩
/-- the greatest of some -/
def mx (l : List Int) : Int := -mn (l.map fun x => -x)
theorem mx_is {l : List Int} {m : Int} (h : m ∈ l) (g : ∀ y ∈ l, y ≤ m) : m = mx l := by
  unfold mx
  have z : -m = mn (l.map fun x => -x) := mn_is (List.mem_map.mpr ⟨m, h, rfl⟩) fun y hy => by
    obtain ⟨x, hx, rfl⟩ := List.mem_map.mp hy
    have := g x hx
    show -m ≤ -x
    omega
  omega
theorem mx_mem {l : List Int} (h : l ≠ []) : mx l ∈ l := by
  obtain ⟨x, hx, e⟩ := List.mem_map.mp (mn_mem (l := l.map fun x => -x) (by simpa using h))
  have e : -x = mn (l.map fun x => -x) := e
  unfold mx
  rw [← e, Int.neg_neg]
  exact hx
theorem le_mx {l : List Int} {y : Int} (h : y ∈ l) : y ≤ mx l := by
  have z := mn_le (l := l.map fun x => -x) (y := -y) (List.mem_map.mpr ⟨y, h, rfl⟩)
  unfold mx
  omega
theorem maxX_of {k : Bool} {l : List Int} {Q : PyData → Prop} (h : 0 < l.length) (q : Q (.int (mx l))) : maxX (iq k l) Q := by
  have z : ∀ m, m ∈ l → (∀ y, y ∈ l → y ≤ m) → Q (.int m) := fun m a b => by rw [mx_is a b]; exact q
  cases k with
  | true => exact ⟨l, rfl, h, z⟩
  | false => exact ⟨l, rfl, h, z⟩
theorem minX_of {k : Bool} {l : List Int} {Q : PyData → Prop} (h : 0 < l.length) (q : Q (.int (mn l))) : minX (iq k l) Q := by
  have z : ∀ m, m ∈ l → (∀ y, y ∈ l → m ≤ y) → Q (.int m) := fun m a b => by rw [mn_is a b]; exact q
  cases k with
  | true => exact ⟨l, rfl, h, z⟩
  | false => exact ⟨l, rfl, h, z⟩
section
variable {k k1 k2 row : Bool} {rooms hs ks : List Int} {Q : PyData → Prop}
theorem apart_of (hk : k1 = true ∨ k2 = false) (n0 : 0 < rooms.length) (nz : rooms.length ≤ 900) (lh : hs.length = rooms.length) (lk : ks.length = rooms.length) (hr : row = false → hs.sum = ks.sum) (q : Q (.int (mx (btw row rooms.length hs ks) - mn (btw row rooms.length hs ks)))) :
    F_apart [.dt (ln k row rooms), .dt (iq k1 hs), .dt (iq k2 ks)] Q := by
  have g : 0 < (btw row rooms.length hs ks).length := by
    rw [btw_len]
    exact Nat.lt_of_lt_of_le n0 gts_le
  unfold F_apart
  refine ⟨rfl, between_k hk n0 nz lh lk hr ?_⟩
  exact maxX_of (k := true) (Q := fun x => minX (iq true (btw row rooms.length hs ks)) fun y => gI (fun i j => i - j) x y Q) g (minX_of (k := true) (Q := fun y => gI (fun i j => i - j) (.int (mx (btw row rooms.length hs ks))) y Q) g q)
theorem further_of (hk : k1 = true ∨ k2 = false) (n0 : 0 < rooms.length) (nz : rooms.length ≤ 900) (lh : hs.length = rooms.length) (lk : ks.length = rooms.length) (hr : row = false → hs.sum = ks.sum) (q : Q (.bool (decide (0 ≤ mn (btw row rooms.length hs ks))))) :
    F_is_further [.dt (ln k row rooms), .dt (iq k1 hs), .dt (iq k2 ks)] Q := by
  have g : 0 < (btw row rooms.length hs ks).length := by
    rw [btw_len]
    exact Nat.lt_of_lt_of_le n0 gts_le
  unfold F_is_further
  refine ⟨rfl, between_k hk n0 nz lh lk hr ?_⟩
  exact minX_of (k := true) (Q := fun x => gC (fun i j => decide (j ≤ i)) x (.int 0) Q) g q
theorem ls_line (nz : rooms.length ≤ 900) (q : Q (ln false row rooms)) : F_ls 5 [.dt (ln true row rooms)] Q := by
  have e : lsD (ln true row rooms) = ln false row rooms := by
    show lsD (.tuple [.str (fm row), .tuple (rooms.map PyData.int)]) = .list [.str (fm row), .list (rooms.map PyData.int)]
    have m : ∀ l : List Int, lsL (l.map PyData.int) = l.map PyData.int := by
      intro l
      induction l with
      | nil => rw [List.map_nil, lsL]
      | cons a l ih => rw [List.map_cons, lsL, ih, lsD]
    rw [lsD, lsL, lsL, lsL, lsD, lsD, m]
  have z : shal 4 (iq true rooms) = true := shal_iq (by omega)
  refine (show shal 5 (ln true row rooms) = true ∧ Q (lsD (ln true row rooms)) from ⟨?_, by rw [e]; exact q⟩)
  show (decide (2 ≤ 1000) && (true && (shal 4 (iq true rooms) && true))) = true
  rw [z]
  rfl
end
end Kd

/-! two standings handled alike -/
namespace Kd
open PySem PySem.Spec PyProof.Rows L2 Xg Dv
section
variable {row : Bool} {rooms h0 : List Int} {run : List (Bool × List (Option Int))}
theorem tb_hr {b : Bool} {n : Nat} (h : ∀ s ∈ run, s.1 = b ∧ s.2.length = n) : ∀ s ∈ tb run, s.1 = (!b) ∧ s.2.length = n := fun s m => by
  unfold tb at m
  obtain ⟨t, ht, rfl⟩ := List.mem_map.mp m
  obtain ⟨e1, e2⟩ := h t (List.mem_reverse.mp ht)
  exact ⟨by show (!t.1) = (!b); rw [e1], e2⟩
/-- the other way's mates -/
theorem matesB (n0 : 0 < rooms.length) (lh : h0.length = rooms.length) (hr : ∀ s ∈ run, s.1 = false ∧ s.2.length = gts row rooms.length) {x y : List Int} (lx : x.length = gts row rooms.length) (ly : y.length = gts row rooms.length) :
    Le (gts row rooms.length) (runX row rooms h0 run y) x ↔ Le (gts row rooms.length) y (runX row rooms h0 (tb run) x) := by
  have z := mates n0 lh (tb run) x y (tb_hr hr) lx ly
  rw [tb_tb] at z
  exact z.symm
theorem runX_mono (n0 : 0 < rooms.length) (lh : h0.length = rooms.length) {b : Bool} (hr : ∀ s ∈ run, s.1 = b ∧ s.2.length = gts row rooms.length) {x y : List Int} (lx : x.length = gts row rooms.length) (ly : y.length = gts row rooms.length) (h : Le (gts row rooms.length) x y) :
    Le (gts row rooms.length) (runX row rooms h0 run x) (runX row rooms h0 run y) := by
  have l1 : (runX row rooms h0 run x).length = gts row rooms.length := by rw [runX_len, lx]
  have l2 : (runX row rooms h0 run y).length = gts row rooms.length := by rw [runX_len, ly]
  cases b with
  | true => exact (mates n0 lh run y _ hr ly l1).mpr (((mates n0 lh run x _ hr lx l1).mp Le.refl).trans h)
  | false => exact (matesB n0 lh hr l2 lx).mpr (h.trans ((matesB n0 lh hr l2 ly).mp Le.refl))
def mnV (a b : List Int) : List Int := vec a.length fun i => if b.getD i 0 < a.getD i 0 then b.getD i 0 else a.getD i 0
def mxV (a b : List Int) : List Int := vec a.length fun i => if b.getD i 0 > a.getD i 0 then b.getD i 0 else a.getD i 0
theorem mnV_len {a b : List Int} : (mnV a b).length = a.length := vec_len
theorem mxV_len {a b : List Int} : (mxV a b).length = a.length := vec_len
theorem mnV_get {a b : List Int} {i : Nat} (h : i < a.length) : (mnV a b).getD i 0 = if b.getD i 0 < a.getD i 0 then b.getD i 0 else a.getD i 0 := vec_get h
theorem mxV_get {a b : List Int} {i : Nat} (h : i < a.length) : (mxV a b).getD i 0 = if b.getD i 0 > a.getD i 0 then b.getD i 0 else a.getD i 0 := vec_get h
theorem le_mnV {n : Nat} {a b c : List Int} (la : a.length = n) : Le n c (mnV a b) ↔ Le n c a ∧ Le n c b := by
  constructor
  · intro h
    refine ⟨fun j hj => ?_, fun j hj => ?_⟩ <;> (have z := h j hj; rw [mnV_get (by omega)] at z; split at z <;> omega)
  · intro h j hj
    have z1 := h.1 j hj
    have z2 := h.2 j hj
    rw [mnV_get (by omega)]
    split <;> omega
theorem mxV_le {n : Nat} {a b c : List Int} (la : a.length = n) : Le n (mxV a b) c ↔ Le n a c ∧ Le n b c := by
  constructor
  · intro h
    refine ⟨fun j hj => ?_, fun j hj => ?_⟩ <;> (have z := h j hj; rw [mxV_get (by omega)] at z; split at z <;> omega)
  · intro h j hj
    have z1 := h.1 j hj
    have z2 := h.2 j hj
    rw [mxV_get (by omega)]
    split <;> omega
/-- of the lesser one -/
theorem run_min (n0 : 0 < rooms.length) (lh : h0.length = rooms.length) (hr : ∀ s ∈ run, s.1 = true ∧ s.2.length = gts row rooms.length) {a b : List Int} (la : a.length = gts row rooms.length) (lb : b.length = gts row rooms.length) :
    runX row rooms h0 run (mnV a b) = mnV (runX row rooms h0 run a) (runX row rooms h0 run b) := by
  have l0 : (mnV a b).length = gts row rooms.length := by rw [mnV_len, la]
  have l1 : (runX row rooms h0 run a).length = gts row rooms.length := by rw [runX_len, la]
  have l2 : (mnV (runX row rooms h0 run a) (runX row rooms h0 run b)).length = gts row rooms.length := by rw [mnV_len, l1]
  obtain ⟨p1, p2⟩ := (le_mnV la).mp (Le.refl (n := gts row rooms.length) (x := mnV a b))
  obtain ⟨q1, q2⟩ := (le_mnV l1).mp (Le.refl (n := gts row rooms.length) (x := mnV (runX row rooms h0 run a) (runX row rooms h0 run b)))
  refine Le.anti (by rw [runX_len, l0]) l2 ((le_mnV l1).mpr ⟨runX_mono n0 lh hr l0 la p1, runX_mono n0 lh hr l0 lb p2⟩) ?_
  exact (mates n0 lh run _ _ hr l0 l2).mpr ((le_mnV la).mpr ⟨(mates n0 lh run _ _ hr la l2).mp q1, (mates n0 lh run _ _ hr lb l2).mp q2⟩)
theorem run_max (n0 : 0 < rooms.length) (lh : h0.length = rooms.length) (hr : ∀ s ∈ run, s.1 = false ∧ s.2.length = gts row rooms.length) {a b : List Int} (la : a.length = gts row rooms.length) (lb : b.length = gts row rooms.length) :
    runX row rooms h0 run (mxV a b) = mxV (runX row rooms h0 run a) (runX row rooms h0 run b) := by
  have l0 : (mxV a b).length = gts row rooms.length := by rw [mxV_len, la]
  have l1 : (runX row rooms h0 run a).length = gts row rooms.length := by rw [runX_len, la]
  have l2 : (mxV (runX row rooms h0 run a) (runX row rooms h0 run b)).length = gts row rooms.length := by rw [mxV_len, l1]
  obtain ⟨p1, p2⟩ := (mxV_le la).mp (Le.refl (n := gts row rooms.length) (x := mxV a b))
  obtain ⟨q1, q2⟩ := (mxV_le l1).mp (Le.refl (n := gts row rooms.length) (x := mxV (runX row rooms h0 run a) (runX row rooms h0 run b)))
  refine Le.anti (by rw [runX_len, l0]) l2 ?_ ((mxV_le l1).mpr ⟨runX_mono n0 lh hr la l0 p1, runX_mono n0 lh hr lb l0 p2⟩)
  exact (matesB n0 lh hr l2 l0).mpr ((mxV_le la).mpr ⟨(matesB n0 lh hr l2 la).mp q1, (matesB n0 lh hr l2 lb).mp q2⟩)
def subL (a b : List Int) : List Int := vec a.length fun i => a.getD i 0 - b.getD i 0
theorem sub_len {a b : List Int} : (subL a b).length = a.length := vec_len
theorem sub_get {a b : List Int} {i : Nat} (h : i < a.length) : (subL a b).getD i 0 = a.getD i 0 - b.getD i 0 := vec_get h
/-- from another standing on -/
theorem led_rel {z : List Int} (lh : h0.length = rooms.length) (lz : z.length = gts row rooms.length) (hw : ∀ s ∈ run, s.2.length = gts row rooms.length) :
    ledR row rooms run (ledL h0 z) (vec (gts row rooms.length) fun _ => 0) = (ledL h0 (runX row rooms h0 run z), subL (runX row rooms h0 run z) z) := by
  have gg := gts_le (row := row) (n := rooms.length)
  have l1 : (runX row rooms h0 run z).length = gts row rooms.length := by rw [runX_len, lz]
  have e1 := led_run (row := row) (rooms := rooms) (h0 := h0) run z (fun s m => by rw [lz]; exact hw s m) (by omega)
  have e2 := led_shift (row := row) (rooms := rooms) (c := z) (d := vec (gts row rooms.length) fun _ => 0) run (ledL h0 z) z (vec (gts row rooms.length) fun _ => 0) (fun s m => by rw [vec_len]; exact hw s m) (by rw [lz, vec_len])
  have an : addL z (vec (gts row rooms.length) fun _ => 0) = z := ext_get add_len fun i hi => by
    rw [add_len] at hi
    rw [add_get hi, vec_get (by omega)]
    omega
  rw [an, e1] at e2
  have f1 : (ledR row rooms run (ledL h0 z) (vec (gts row rooms.length) fun _ => 0)).1 = ledL h0 (runX row rooms h0 run z) := by
    rw [led_fst, ← led_fst (c := z), e1]
  have l3 := (led_len (row := row) (rooms := rooms) (run := run) (h := ledL h0 z) (c := vec (gts row rooms.length) fun _ => 0)).2
  rw [vec_len] at l3
  have f2 : (ledR row rooms run (ledL h0 z) (vec (gts row rooms.length) fun _ => 0)).2 = subL (runX row rooms h0 run z) z := by
    refine ext_get (by rw [sub_len, l1, l3]) fun i hi => ?_
    have w := congrArg (fun l => l.getD i 0) e2
    dsimp only at w
    rw [add_get (by omega)] at w
    rw [sub_get (by omega)]
    omega
  exact Prod.ext f1 f2
end
end Kd
/-! two standings, handled alike: how far they are apart -/
namespace Kd
open PySem PySem.Spec PyProof.Rows L2 Xg Dv
section
variable {row : Bool} {rooms h0 hs ks x y : List Int}
/-- so many more by each gate -/
def plL (x : List Int) (c : Int) : List Int := vec x.length fun i => x.getD i 0 + c
theorem pl_len {c : Int} : (plL x c).length = x.length := vec_len
theorem pl_get {c : Int} {i : Nat} (h : i < x.length) : (plL x c).getD i 0 = x.getD i 0 + c := vec_get h
theorem ledL_len {h c : List Int} : (ledL h c).length = h.length := vec_len
theorem ledL_get {h c : List Int} {i : Nat} (hi : i < h.length) : (ledL h c).getD i 0 = h.getD i 0 + c.getD i 0 - c.getD ((i + 1) % c.length) 0 := vec_get hi
theorem led_pl {c : Int} (hl : h0.length ≤ x.length) : ledL h0 (plL x c) = ledL h0 x := by
  refine ext_get (by rw [ledL_len, ledL_len]) fun i hi => ?_
  rw [ledL_len] at hi
  have l0 : 0 < x.length := by omega
  have lm : (i + 1) % x.length < x.length := Nat.mod_lt _ l0
  rw [ledL_get hi, ledL_get hi, pl_len, pl_get (by omega), pl_get lm]
  omega
theorem runX_pl {c : Int} : ∀ {run : List (Bool × List (Option Int))} {x : List Int}, h0.length ≤ x.length → (∀ s ∈ run, s.2.length = x.length) → runX row rooms h0 run (plL x c) = plL (runX row rooms h0 run x) c
  | [], x, _, _ => rfl
  | (b, ws) :: r, x, hl, hw => by
    have e : addL (plL x c) (cnt row rooms ws (ledL h0 x) b) = plL (addL x (cnt row rooms ws (ledL h0 x) b)) c := by
      refine ext_get (by rw [add_len, pl_len, pl_len, add_len]) fun i hi => ?_
      rw [add_len, pl_len] at hi
      rw [add_get (by rw [pl_len]; exact hi), pl_get hi, pl_get (by rw [add_len]; exact hi), add_get hi]
      omega
    show runX row rooms h0 r (addL (plL x c) (cnt row rooms ws (ledL h0 (plL x c)) b)) = plL (runX row rooms h0 r (addL x (cnt row rooms ws (ledL h0 x) b))) c
    rw [led_pl hl, e, runX_pl (by rw [add_len]; exact hl) fun s hs => by rw [add_len]; exact hw s (List.mem_cons_of_mem _ hs)]
/-- between what two counts lead to -/
theorem btw_diff (n0 : 0 < rooms.length) (lh : h0.length = rooms.length) (lx : x.length = gts row rooms.length) (ly : y.length = gts row rooms.length) :
    btw row rooms.length (ledL h0 x) (ledL h0 y) = vec (gts row rooms.length) fun j => (y.getD j 0 - x.getD j 0) - (y.getD 0 0 - x.getD 0 0) := by
  have gg := gts_le (row := row) (n := rooms.length)
  have key : ∀ j, j < gts row rooms.length → pre (ledL h0 x) (ledL h0 y) j = (y.getD j 0 - x.getD j 0) - (y.getD 0 0 - x.getD 0 0) := by
    intro j
    induction j with
    | zero => intro _; rw [pre_zero]; omega
    | succ j ih =>
      intro hj
      have jn : j < rooms.length := by
        unfold gts at hj
        split at hj <;> omega
      have m : (j + 1) % gts row rooms.length = j + 1 := Nat.mod_eq_of_lt hj
      rw [pre_succ, ih (by omega), ledL_get (by omega), ledL_get (by omega), lx, ly, m]
      omega
  exact vec_ext key
theorem mono1 (n0 : 0 < rooms.length) (lh : h0.length = rooms.length) {s : Bool × List (Option Int)} (hs : s.2.length = gts row rooms.length) (lx : x.length = gts row rooms.length) (ly : y.length = gts row rooms.length) (h : Le (gts row rooms.length) x y) :
    Le (gts row rooms.length) (runX row rooms h0 [s] x) (runX row rooms h0 [s] y) := runX_mono (b := s.1) n0 lh (fun t ht => by rw [List.mem_singleton.mp ht]; exact ⟨rfl, hs⟩) lx ly h
theorem runX_cons {s : Bool × List (Option Int)} {r : List (Bool × List (Option Int))} : runX row rooms h0 (s :: r) x = runX row rooms h0 r (runX row rooms h0 [s] x) := rfl
theorem monoR (n0 : 0 < rooms.length) (lh : h0.length = rooms.length) : ∀ {run : List (Bool × List (Option Int))} {x y : List Int}, (∀ s ∈ run, s.2.length = gts row rooms.length) → x.length = gts row rooms.length → y.length = gts row rooms.length → Le (gts row rooms.length) x y → Le (gts row rooms.length) (runX row rooms h0 run x) (runX row rooms h0 run y)
  | [], x, y, _, _, _, h => h
  | s :: r, x, y, hw, lx, ly, h => by
    have l1 : (runX row rooms h0 [s] x).length = gts row rooms.length := (runX_len (run := [s])).trans lx
    have l2 : (runX row rooms h0 [s] y).length = gts row rooms.length := (runX_len (run := [s])).trans ly
    exact monoR n0 lh (run := r) (x := runX row rooms h0 [s] x) (y := runX row rooms h0 [s] y) (fun t ht => hw t (List.mem_cons_of_mem _ ht)) l1 l2 (mono1 n0 lh (hw s (List.mem_cons_self ..)) lx ly h)
/-- never further -/
theorem apart_run (n0 : 0 < rooms.length) (lh : h0.length = rooms.length) {run : List (Bool × List (Option Int))} (hw : ∀ s ∈ run, s.2.length = gts row rooms.length) {t : List Int} (lt : t.length = gts row rooms.length) {a b : Int} (h : ∀ j, j < gts row rooms.length → a ≤ t.getD j 0 ∧ t.getD j 0 ≤ b) :
    ∀ j, j < gts row rooms.length → a ≤ (runX row rooms h0 run t).getD j 0 - (runX row rooms h0 run (vec (gts row rooms.length) fun _ => 0)).getD j 0 ∧ (runX row rooms h0 run t).getD j 0 - (runX row rooms h0 run (vec (gts row rooms.length) fun _ => 0)).getD j 0 ≤ b := by
  have gg := gts_le (row := row) (n := rooms.length)
  let z := vec (gts row rooms.length) fun _ => (0 : Int)
  have lz : z.length = gts row rooms.length := vec_len
  have hz : ∀ s ∈ run, s.2.length = z.length := fun s hs => by rw [lz]; exact hw s hs
  have lX : (runX row rooms h0 run z).length = gts row rooms.length := by rw [runX_len, lz]
  have pa : (plL z a).length = gts row rooms.length := by rw [pl_len, lz]
  have pb : (plL z b).length = gts row rooms.length := by rw [pl_len, lz]
  have u1 := monoR (run := run) n0 lh hw pa lt fun j hj => by
    rw [pl_get (by rw [lz]; exact hj)]
    show (vec (gts row rooms.length) fun _ => (0 : Int)).getD j 0 + a ≤ _
    rw [vec_get hj]
    have := (h j hj).1
    omega
  have u2 := monoR (run := run) n0 lh hw lt pb fun j hj => by
    rw [pl_get (by rw [lz]; exact hj)]
    show _ ≤ (vec (gts row rooms.length) fun _ => (0 : Int)).getD j 0 + b
    rw [vec_get hj]
    have := (h j hj).2
    omega
  rw [runX_pl (by rw [lz]; omega) hz] at u1 u2
  intro j hj
  have v1 := u1 j hj
  have v2 := u2 j hj
  rw [pl_get (by rw [lX]; exact hj)] at v1 v2
  exact ⟨by show a ≤ _ - (runX row rooms h0 run z).getD j 0; omega, by show _ - (runX row rooms h0 run z).getD j 0 ≤ b; omega⟩
/-- least and greatest -/
theorem mn_get {l : List Int} (h : 0 < l.length) : ∃ j, j < l.length ∧ mn l = l.getD j 0 := by
  have m := mn_mem (l := l) (fun e => by rw [e] at h; cases h)
  obtain ⟨j, hj, e⟩ := List.getElem_of_mem m
  exact ⟨j, hj, by rw [List.getD_eq_getElem?_getD, List.getElem?_eq_getElem hj]; exact e.symm⟩
theorem mx_get {l : List Int} (h : 0 < l.length) : ∃ j, j < l.length ∧ mx l = l.getD j 0 := by
  have m := mx_mem (l := l) (fun e => by rw [e] at h; cases h)
  obtain ⟨j, hj, e⟩ := List.getElem_of_mem m
  exact ⟨j, hj, by rw [List.getD_eq_getElem?_getD, List.getElem?_eq_getElem hj]; exact e.symm⟩
theorem mn_le' {l : List Int} {j : Nat} (h : j < l.length) : mn l ≤ l.getD j 0 := mn_le (get_mem h)
theorem le_mx' {l : List Int} {j : Nat} (h : j < l.length) : l.getD j 0 ≤ mx l := le_mx (get_mem h)
/-- a pair of standings, and what comes of them -/
structure Pr (row : Bool) (rooms hs ks : List Int) : Prop where
  lh : hs.length = rooms.length
  lk : ks.length = rooms.length
  sm : row = false → hs.sum = ks.sum
theorem ring_sum (n0 : 0 < rooms.length) (lh : h0.length = rooms.length) (lx : x.length = gts false rooms.length) : (ledL h0 x).sum = h0.sum := by
  have z := led_sum (row := false) n0 lh lx
  rw [z]
  simp
structure Two2 (row : Bool) (rooms hs ks : List Int) (run : List (Bool × List (Option Int))) (hs' ks' X Y : List Int) : Prop where
  eh : hs' = ledL hs X
  ek : ks' = ledL hs Y
  lX : X.length = gts row rooms.length
  lY : Y.length = gts row rooms.length
  e1 : ledR row rooms run hs (vec (gts row rooms.length) fun _ => 0) = (hs', X)
  e2 : ledR row rooms run ks (vec (gts row rooms.length) fun _ => 0) = (ks', subL Y (btw row rooms.length hs ks))
  pr : Pr row rooms hs' ks'
  rng : ∀ a b, (∀ j, j < gts row rooms.length → a ≤ (btw row rooms.length hs ks).getD j 0 ∧ (btw row rooms.length hs ks).getD j 0 ≤ b) → ∀ j, j < gts row rooms.length → a ≤ Y.getD j 0 - X.getD j 0 ∧ Y.getD j 0 - X.getD j 0 ≤ b
  dif : btw row rooms.length hs' ks' = vec (gts row rooms.length) fun j => (Y.getD j 0 - X.getD j 0) - (Y.getD 0 0 - X.getD 0 0)
theorem two_run (n0 : 0 < rooms.length) (P : Pr row rooms hs ks) {run : List (Bool × List (Option Int))} (hw : ∀ s ∈ run, s.2.length = gts row rooms.length) : ∃ hs' ks' X Y, Two2 row rooms hs ks run hs' ks' X Y := by
  have gg := gts_le (row := row) (n := rooms.length)
  let z := vec (gts row rooms.length) fun _ => (0 : Int)
  have lz : z.length = gts row rooms.length := vec_len
  let t := btw row rooms.length hs ks
  have lt : t.length = gts row rooms.length := btw_len
  have kt : ledL hs t = ks := btw_led n0 P.lh P.lk P.sm
  let X := runX row rooms hs run z
  let Y := runX row rooms hs run t
  have lX : X.length = gts row rooms.length := by show (runX row rooms hs run z).length = _; rw [runX_len, lz]
  have lY : Y.length = gts row rooms.length := by show (runX row rooms hs run t).length = _; rw [runX_len, lt]
  have r1 := led_run (row := row) (rooms := rooms) (h0 := hs) run z (fun s h => by rw [lz]; exact hw s h) (by rw [lz, P.lh]; exact gg)
  have hz : ledL hs z = hs := led_nought
  rw [hz] at r1
  have r2 := led_rel (row := row) (rooms := rooms) (h0 := hs) (run := run) (z := t) P.lh lt hw
  rw [kt] at r2
  refine ⟨ledL hs X, ledL hs Y, X, Y, rfl, rfl, lX, lY, r1, r2, ⟨by rw [ledL_len, P.lh], by rw [ledL_len, P.lh], fun e => ?_⟩, fun a b h => ?_, btw_diff n0 P.lh lX lY⟩
  · subst e
    rw [ring_sum n0 P.lh lX, ring_sum n0 P.lh lY]
  · exact apart_run n0 P.lh hw lt h
end
end Kd
namespace Kd
open PySem PySem.Spec PyProof.Rows L2 Xg Dv
def f_gate_behind : FS := (sSeq (sAsg (eVar 0) (gT (gsCons (gN 2) (gsCons (gN 3) gsNil)))) (sRet (eIf (fTest (eBin gEq (eVar 2) (eC (.str "ring")))) (eBin (gIc (fun _ j => 0 < j) fun i j => i % j) (eBin (gI fun i j => i - j) (eVar 1) (eC (.int 1))) (eCB (g1 lenD) (dCons (eVar 3) dNil))) (eBin (gI fun i j => i - j) (eVar 1) (eC (.int 1))))))
@[irreducible] def F_gate_behind : FF := mkF 2 4 f_gate_behind
def t_gate_behind (K : PySem.W.Frag) : TS := (tSeq (tAsg (tVar 0) (fun v σ H Q => gTup K 2 (gCons (gName 2) (gCons (gName 3) gNil)) v σ H Q ∨ gLst K 2 (gCons (gName 2) (gCons (gName 3) gNil)) v σ H Q)) (tRet (tIf (tTest (tOp (rEqX K) (tVar 2) (tC (.str "ring")))) (tOp (rI (fun _ j => 0 < j) fun i j => .int (i % j)) (tOp (rI0 fun i j => .int (i - j)) (tVar 1) (tC (.int 1))) (tCB (fun xs H Q => ∃ x n, xs = [x] ∧ LenV K x H n ∧ Q (.int n) H) (tCons (tVar 3) tNil))) (tOp (rI0 fun i j => .int (i - j)) (tVar 1) (tC (.int 1))))))
theorem s_gate_behind (K : PySem.W.Frag) : SndS K (t_gate_behind K) 0 f_gate_behind := (snds_seq (snds_asg (vs := [2, 3]) snd_var (sndg_tup (sndgs_cons (sndg_name (by decide)) (sndgs_cons (sndg_name (by decide)) sndgs_nil)) (gs_lenS gN_some (gs_lenS gN_some gs_len0)))) (snds_ret (snd_if (sndt_test (snd_op ops_eq snd_var snd_str)) (snd_op ops_Ic (snd_op ops_I snd_var snd_int) (snd_cb cs_len (sndd_cons snd_var sndd_nil))) (snd_op ops_I snd_var snd_int))))
theorem m_gate_behind (K : PySem.W.Frag) : MonoF F_gate_behind := by
  unfold F_gate_behind
  exact mkF_mono (s_gate_behind K)
def f_costs : FS := (sSeq (sAsg (eVar 0) (gT (gsCons (gN 5) (gsCons (gN 6) gsNil)))) (sSeq (sOwn dNil 7) (sSeq (sIf (fAnd (fTest (eBin gEq (eVar 3) (eVar 4))) (fTest (eBin gIsNot (eBin gIx (eVar 1) (eVar 3)) (eC .none)))) (sApp 7 (eBin gIx (eVar 1) (eVar 3))) sSkip) (sSeq (sIf (fTest (eBin gEq (eVar 4) (eCall F_gate_behind (aCons (eVar 0) (aCons (eVar 3) aNil))))) (sApp 7 (eBin gIx (eVar 2) (eVar 4))) sSkip) (sSeq (sIf (fTest (eBin gEq (eVar 3) (eCall F_gate_behind (aCons (eVar 0) (aCons (eVar 4) aNil))))) (sApp 7 (eBin (gI fun i j => i - j) (eBin gIx (eVar 6) (eVar 3)) (eBin gIx (eVar 2) (eVar 3)))) sSkip) (sRetO 7))))))
@[irreducible] def F_costs : FF := mkF 5 8 f_costs
@[irreducible] def L_costs : FFL := mkL 5 8 f_costs
def t_costs (K : PySem.W.Frag) : TS := (tSeq (tAsg (tVar 0) (fun v σ H Q => gTup K 2 (gCons (gName 5) (gCons (gName 6) gNil)) v σ H Q ∨ gLst K 2 (gCons (gName 5) (gCons (gName 6) gNil)) v σ H Q)) (tSeq (tAsg (tLst tNil) (gName 7)) (tSeq (tIfS (tAnd (tTest (tOp (rEqX K) (tVar 3) (tVar 4))) (tTest (tOp (fun x y H Q => y = .non ∧ Q (.bl (!decide (x = .non))) H) (tOp (rIx K) (tVar 1) (tVar 3)) (tC .non)))) (tDrop (tBM K "list" rAppend (tVar 7) (tCons (tOp (rIx K) (tVar 1) (tVar 3)) tNil))) tNext) (tSeq (tIfS (tTest (tOp (rEqX K) (tVar 4) (tCallG (spD K 0 F_gate_behind) (tCons (tVar 0) (tCons (tVar 3) tNil))))) (tDrop (tBM K "list" rAppend (tVar 7) (tCons (tOp (rIx K) (tVar 2) (tVar 4)) tNil))) tNext) (tSeq (tIfS (tTest (tOp (rEqX K) (tVar 3) (tCallG (spD K 0 F_gate_behind) (tCons (tVar 0) (tCons (tVar 4) tNil))))) (tDrop (tBM K "list" rAppend (tVar 7) (tCons (tOp (rI0 fun i j => .int (i - j)) (tOp (rIx K) (tVar 6) (tVar 3)) (tOp (rIx K) (tVar 2) (tVar 3))) tNil))) tNext) (tRet (tVar 7)))))))
theorem s_costs (K : PySem.W.Frag) : SndS K (t_costs K) 0 f_costs := (snds_seq (snds_asg (vs := [5, 6]) snd_var (sndg_tup (sndgs_cons (sndg_name (by decide)) (sndgs_cons (sndg_name (by decide)) sndgs_nil)) (gs_lenS gN_some (gs_lenS gN_some gs_len0)))) (snds_seq (snds_own (sndl_lst sndd_nil (by decide))) (snds_seq (snds_if (sndt_and (sndt_test (snd_op ops_eq snd_var snd_var)) (sndt_test (snd_op ops_isnot (snd_op ops_ix snd_var snd_var) snd_non))) (snds_app (snd_op ops_ix snd_var snd_var)) snds_nil) (snds_seq (snds_if (sndt_test (snd_op ops_eq snd_var (snd_call (m_gate_behind K) (snda_cons snd_var (snda_cons snd_var snda_nil))))) (snds_app (snd_op ops_ix snd_var snd_var)) snds_nil) (snds_seq (snds_if (sndt_test (snd_op ops_eq snd_var (snd_call (m_gate_behind K) (snda_cons snd_var (snda_cons snd_var snda_nil))))) (snds_app (snd_op ops_I (snd_op ops_ix snd_var snd_var) (snd_op ops_ix snd_var snd_var))) snds_nil) snds_retO)))))
theorem m_costs (K : PySem.W.Frag) : MonoF F_costs := by
  unfold F_costs
  exact mkF_mono (s_costs K)
theorem mL_costs (K : PySem.W.Frag) : MonoL L_costs := by
  unfold L_costs
  exact mkL_mono (s_costs K)
def f_is_gate : FS := (sRet (eAnd (eCall F_is_number (aCons (eVar 1) aNil)) (eChain (gC fun i j => decide (i ≤ j)) (gC fun i j => decide (i < j)) (eC (.int 0)) (eVar 1) (eCall F_gates (aCons (eVar 0) aNil)))))
@[irreducible] def F_is_gate : FF := mkF 2 2 f_is_gate
def t_is_gate (K : PySem.W.Frag) : TS := (tRet (tAndV (tCallG (spD K 0 F_is_number) (tCons (tVar 1) tNil)) (tChain (rI0 fun i j => .bl (decide (i ≤ j))) (rI0 fun i j => .bl (decide (i < j))) (tC (.int 0)) (tVar 1) (tCallG (spD K 0 F_gates) (tCons (tVar 0) tNil)))))
theorem s_is_gate (K : PySem.W.Frag) : SndS K (t_is_gate K) 0 f_is_gate := (snds_ret (snd_and (snd_call (m_is_number K) (snda_cons snd_var snda_nil)) (snd_chain ops_C ops_C snd_int snd_var (snd_call (m_gates K) (snda_cons snd_var snda_nil)))))
theorem m_is_gate (K : PySem.W.Frag) : MonoF F_is_gate := by
  unfold F_is_gate
  exact mkF_mono (s_is_gate K)
def f_cost : FS := (sSeq (sIf (fNot (fAnd (fTest (eCall F_is_gate (aCons (eVar 0) (aCons (eVar 3) aNil)))) (fTest (eCall F_is_gate (aCons (eVar 0) (aCons (eVar 4) aNil)))))) (sRet (eC .none)) sSkip) (sRet (eMinD (eCall F_costs (aCons (eVar 0) (aCons (eVar 1) (aCons (eVar 2) (aCons (eVar 3) (aCons (eVar 4) aNil)))))) (eC .none))))
@[irreducible] def F_cost : FF := mkF 5 5 f_cost
def t_cost (K : PySem.W.Frag) : TS := (tSeq (tIfS (tNot (tAnd (tB (tCallG (spD K 0 F_is_gate) (tCons (tVar 0) (tCons (tVar 3) tNil)))) (tB (tCallG (spD K 0 F_is_gate) (tCons (tVar 0) (tCons (tVar 4) tNil)))))) (tRet (tC .non)) tNext) (tRet (tCKw (rMinD K) (tCons (tCallG (spD K 0 F_costs) (tCons (tVar 0) (tCons (tVar 1) (tCons (tVar 2) (tCons (tVar 3) (tCons (tVar 4) tNil)))))) tNil) (tCons (tC .non) tNil))))
theorem s_cost (K : PySem.W.Frag) : SndS K (t_cost K) 0 f_cost := (snds_seq (snds_if (sndt_not (sndt_and (sndt_B (snd_call (m_is_gate K) (snda_cons snd_var (snda_cons snd_var snda_nil)))) (sndt_B (snd_call (m_is_gate K) (snda_cons snd_var (snda_cons snd_var snda_nil)))))) (snds_ret snd_non) snds_nil) (snds_ret (snd_minD (snd_call (m_costs K) (snda_cons snd_var (snda_cons snd_var (snda_cons snd_var (snda_cons snd_var (snda_cons snd_var snda_nil)))))) snd_non)))
theorem m_cost (K : PySem.W.Frag) : MonoF F_cost := by
  unfold F_cost
  exact mkF_mono (s_cost K)
def f_grid_of_one : FS := (sSeq (sAsg (eCall F_gates (aCons (eVar 0) aNil)) (gN 3)) (sRetL (fComp 1000000 (fRange1 (eVar 3)) [4] (gN 4) fYes (eL (fComp 1000000 (fRange1 (eVar 3)) [5] (gN 5) fYes (eCall F_cost (aCons (eVar 0) (aCons (eVar 1) (aCons (eVar 2) (aCons (eVar 4) (aCons (eVar 5) aNil)))))))))))
@[irreducible] def F_grid_of_one : FF := mkF 3 6 f_grid_of_one
@[irreducible] def L_grid_of_one : FFL := mkL 3 6 f_grid_of_one
def t_grid_of_one (K : PySem.W.Frag) : TS := (tSeq (tAsg (tCallG (spD K 0 F_gates) (tCons (tVar 0) tNil)) (gName 3)) (tRet (tLc (iRng1 (tCons (tVar 3) tNil)) (gName 4) tYes (tLc (iRng1 (tCons (tVar 3) tNil)) (gName 5) tYes (tCallG (spD K 0 F_cost) (tCons (tVar 0) (tCons (tVar 1) (tCons (tVar 2) (tCons (tVar 4) (tCons (tVar 5) tNil)))))) [5]) [4])))
theorem s_grid_of_one (K : PySem.W.Frag) : SndS K (t_grid_of_one K) 0 f_grid_of_one := (snds_seq (snds_asg (vs := [3]) (snd_call (m_gates K) (snda_cons snd_var snda_nil)) (sndg_name (by decide))) (snds_retL (sndl_comp (N := 1000000) (by decide) (sndi_range1 snd_var) (sndg_name (by decide)) sndt_yes (SndL.d (sndl_comp (N := 1000000) (by decide) (sndi_range1 snd_var) (sndg_name (by decide)) sndt_yes (snd_call (m_cost K) (snda_cons snd_var (snda_cons snd_var (snda_cons snd_var (snda_cons snd_var (snda_cons snd_var snda_nil)))))))))))
theorem m_grid_of_one (K : PySem.W.Frag) : MonoF F_grid_of_one := by
  unfold F_grid_of_one
  exact mkF_mono (s_grid_of_one K)
theorem mL_grid_of_one (K : PySem.W.Frag) : MonoL L_grid_of_one := by
  unfold L_grid_of_one
  exact mkL_mono (s_grid_of_one K)
def f_columns_of : FS := (sRetL (fComp 1000000 (fZipN (eVar 0)) [1] (gN 1) fYes (eL (fListOf (eVar 1)))))
@[irreducible] def F_columns_of : FF := mkF 1 2 f_columns_of
@[irreducible] def L_columns_of : FFL := mkL 1 2 f_columns_of
def t_columns_of (K : PySem.W.Frag) : TS := (tRet (tLc (Zn.iZipN K (tVar 0)) (gName 1) tYes (tCB (fun xs H Q => ∃ p ys, xs = [.ref p] ∧ (SqL K H p ys ∨ SqT K H p ys) ∧ ∀ l, H l = none → Q (.ref l) (upd H l (.lst ys))) (tCons (tVar 1) tNil)) [1]))
theorem s_columns_of (K : PySem.W.Frag) : SndS K (t_columns_of K) 0 f_columns_of := (snds_retL (sndl_comp (N := 1000000) (by decide) (sndi_zipN (Snd.v snd_var)) (sndg_name (by decide)) sndt_yes (SndL.d (sndl_listOf snd_var))))
theorem m_columns_of (K : PySem.W.Frag) : MonoF F_columns_of := by
  unfold F_columns_of
  exact mkF_mono (s_columns_of K)
theorem mL_columns_of (K : PySem.W.Frag) : MonoL L_columns_of := by
  unfold L_columns_of
  exact mkL_mono (s_columns_of K)
def f_least_sum : FS := (sSeq (sAsg (eL (fComp 1000000 (fZip (eVar 0) (eVar 1)) [3, 4] (gT (gsCons (gN 3) (gsCons (gN 4) gsNil))) (fAnd (fTest (eBin gIsNot (eVar 3) (eC .none))) (fTest (eBin gIsNot (eVar 4) (eC .none)))) (eBin gAdd (eVar 3) (eVar 4)))) (gN 2)) (sRet (eMinD (eVar 2) (eC .none))))
@[irreducible] def F_least_sum : FF := mkF 2 5 f_least_sum
def t_least_sum (K : PySem.W.Frag) : TS := (tSeq (tAsg (tLc (Pw.iZipX K (tCons (tVar 0) (tCons (tVar 1) tNil))) (fun v σ H Q => gTup K 2 (gCons (gName 3) (gCons (gName 4) gNil)) v σ H Q ∨ gLst K 2 (gCons (gName 3) (gCons (gName 4) gNil)) v σ H Q) (tAnd (tTest (tOp (fun x y H Q => y = .non ∧ Q (.bl (!decide (x = .non))) H) (tVar 3) (tC .non))) (tTest (tOp (fun x y H Q => y = .non ∧ Q (.bl (!decide (x = .non))) H) (tVar 4) (tC .non)))) (tOp (rAdd K) (tVar 3) (tVar 4)) [3, 4]) (gName 2)) (tRet (tCKw (rMinD K) (tCons (tVar 2) tNil) (tCons (tC .non) tNil))))
theorem s_least_sum (K : PySem.W.Frag) : SndS K (t_least_sum K) 0 f_least_sum := (snds_seq (snds_asg (vs := [2]) (SndL.d (sndl_comp (N := 1000000) (by decide) (sndi_zip (Snd.v snd_var) (Snd.v snd_var)) (sndg_tup (sndgs_cons (sndg_name (by decide)) (sndgs_cons (sndg_name (by decide)) sndgs_nil)) (gs_lenS gN_some (gs_lenS gN_some gs_len0))) (sndt_and (sndt_test (snd_op ops_isnot snd_var snd_non)) (sndt_test (snd_op ops_isnot snd_var snd_non))) (snd_op ops_add snd_var snd_var))) (sndg_name (by decide))) (snds_ret (snd_minD snd_var snd_non)))
theorem m_least_sum (K : PySem.W.Frag) : MonoF F_least_sum := by
  unfold F_least_sum
  exact mkF_mono (s_least_sum K)
def f_chained : FS := (sSeq (sAsg (eCall F_columns_of (aCons (eVar 1) aNil)) (gN 2)) (sRetL (fComp 1000000 (fIt (eVar 0)) [3] (gN 3) fYes (eL (fComp 1000000 (fIt (eVar 2)) [4] (gN 4) fYes (eCall F_least_sum (aCons (eVar 3) (aCons (eVar 4) aNil))))))))
@[irreducible] def F_chained : FF := mkF 2 5 f_chained
@[irreducible] def L_chained : FFL := mkL 2 5 f_chained
def t_chained (K : PySem.W.Frag) : TS := (tSeq (tAsg (tCallG (spD K 0 F_columns_of) (tCons (tVar 1) tNil)) (gName 2)) (tRet (tLc (Pw.iSeq K (tVar 0)) (gName 3) tYes (tLc (Pw.iSeq K (tVar 2)) (gName 4) tYes (tCallG (spD K 0 F_least_sum) (tCons (tVar 3) (tCons (tVar 4) tNil))) [4]) [3])))
theorem s_chained (K : PySem.W.Frag) : SndS K (t_chained K) 0 f_chained := (snds_seq (snds_asg (vs := [2]) (snd_call (m_columns_of K) (snda_cons snd_var snda_nil)) (sndg_name (by decide))) (snds_retL (sndl_comp (N := 1000000) (by decide) (sndi_seq (Snd.v snd_var)) (sndg_name (by decide)) sndt_yes (SndL.d (sndl_comp (N := 1000000) (by decide) (sndi_seq (Snd.v snd_var)) (sndg_name (by decide)) sndt_yes (snd_call (m_least_sum K) (snda_cons snd_var (snda_cons snd_var snda_nil))))))))
theorem m_chained (K : PySem.W.Frag) : MonoF F_chained := by
  unfold F_chained
  exact mkF_mono (s_chained K)
theorem mL_chained (K : PySem.W.Frag) : MonoL L_chained := by
  unfold L_chained
  exact mkL_mono (s_chained K)
def f_doubled_grids : FS := (sSeq (sOwn (dCons (eCall F_grid_of_one (aCons (eVar 0) (aCons (eVar 1) (aCons (eVar 2) aNil)))) dNil) 4) (sSeq (sWhile (fTest (eBin (gC fun i j => decide (i < j)) (eCB (g1 lenD) (dCons (eVarV 4) dNil)) (eBits (eVar 3)))) (sApp 4 (eCall F_chained (aCons (eBin gIx (eVarV 4) (eUn negD (eC (.int 1)))) (aCons (eBin gIx (eVarV 4) (eUn negD (eC (.int 1)))) aNil))))) (sRetO 4)))
@[irreducible] def F_doubled_grids : FF := mkF 4 5 f_doubled_grids
@[irreducible] def L_doubled_grids : FFL := mkL 4 5 f_doubled_grids
def t_doubled_grids (K : PySem.W.Frag) : TS := (tSeq (tAsg (tLst (tCons (tCallG (spD K 0 F_grid_of_one) (tCons (tVar 0) (tCons (tVar 1) (tCons (tVar 2) tNil)))) tNil)) (gName 4)) (tSeq (tWhile (tTest (tOp (rI0 fun i j => .bl (decide (i < j))) (tCB (fun xs H Q => ∃ x n, xs = [x] ∧ LenV K x H n ∧ Q (.int n) H) (tCons (tVar 4) tNil)) (tBits (tVar 3)))) (tDrop (tBM K "list" rAppend (tVar 4) (tCons (tCallG (spD K 0 F_chained) (tCons (tOp (rIx K) (tVar 4) (tUn (rU fun i => .int (-i)) (tC (.int 1)))) (tCons (tOp (rIx K) (tVar 4) (tUn (rU fun i => .int (-i)) (tC (.int 1)))) tNil))) tNil)))) (tRet (tVar 4))))
theorem s_doubled_grids (K : PySem.W.Frag) : SndS K (t_doubled_grids K) 0 f_doubled_grids := (snds_seq (snds_own (sndl_lst (sndd_cons (snd_call (m_grid_of_one K) (snda_cons snd_var (snda_cons snd_var (snda_cons snd_var snda_nil)))) sndd_nil) (by decide))) (snds_seq (snds_while (sndt_test (snd_op ops_C (snd_cb cs_len (sndd_cons sndV_var sndd_nil)) (snd_bits snd_var))) (snds_app (snd_call (m_chained K) (snda_cons (snd_op ops_ix sndV_var (snd_un us_neg snd_int)) (snda_cons (snd_op ops_ix sndV_var (snd_un us_neg snd_int)) snda_nil))))) snds_retO))
theorem m_doubled_grids (K : PySem.W.Frag) : MonoF F_doubled_grids := by
  unfold F_doubled_grids
  exact mkF_mono (s_doubled_grids K)
theorem mL_doubled_grids (K : PySem.W.Frag) : MonoL L_doubled_grids := by
  unfold L_doubled_grids
  exact mkL_mono (s_doubled_grids K)
def f_grids_in : FS := (sRetL (fComp 1000000 (fEnum (eVar 0)) [2, 3] (gT (gsCons (gN 2) (gsCons (gN 3) gsNil))) (fTru (eBin gOdd (eBin (gIc (fun _ j => 0 ≤ j) fun i j => i / 2 ^ j.toNat) (eVar 1) (eVar 2)) (eC (.int 1)))) (eVar 3)))
@[irreducible] def F_grids_in : FF := mkF 2 4 f_grids_in
@[irreducible] def L_grids_in : FFL := mkL 2 4 f_grids_in
def t_grids_in (K : PySem.W.Frag) : TS := (tRet (tLc (Pw.iEnumX K (tCons (tVar 0) tNil)) (fun v σ H Q => gTup K 2 (gCons (gName 2) (gCons (gName 3) gNil)) v σ H Q ∨ gLst K 2 (gCons (gName 2) (gCons (gName 3) gNil)) v σ H Q) (fun σ H Q => (tOp (fun x y H Q => ∃ n : Nat, x = .int (n : Int) ∧ y = .int 1 ∧ Q (.int ((n % 2 : Nat) : Int)) H) (tOp (rI (fun _ j => 0 ≤ j) fun i j => .int (i / 2 ^ j.toNat)) (tVar 1) (tVar 2)) (tC (.int 1))) σ H fun x H' => ∃ k, TruV K x H' k ∧ Q k H') (tVar 3) [2, 3]))
theorem s_grids_in (K : PySem.W.Frag) : SndS K (t_grids_in K) 0 f_grids_in := (snds_retL (sndl_comp (N := 1000000) (by decide) (sndi_enum (Snd.v snd_var)) (sndg_tup (sndgs_cons (sndg_name (by decide)) (sndgs_cons (sndg_name (by decide)) sndgs_nil)) (gs_lenS gN_some (gs_lenS gN_some gs_len0))) (sndt_tru (snd_op ops_odd (snd_op ops_Ic snd_var snd_var) snd_int)) snd_var))
theorem m_grids_in (K : PySem.W.Frag) : MonoF F_grids_in := by
  unfold F_grids_in
  exact mkF_mono (s_grids_in K)
theorem mL_grids_in (K : PySem.W.Frag) : MonoL L_grids_in := by
  unfold L_grids_in
  exact mkL_mono (s_grids_in K)
def f_led_by : FS := (sRetL (fComp 1000000 (fIt (eVar 0)) [2] (gN 2) fYes (eCall F_least_sum (aCons (eVar 2) (aCons (eVar 1) aNil)))))
@[irreducible] def F_led_by : FF := mkF 2 3 f_led_by
@[irreducible] def L_led_by : FFL := mkL 2 3 f_led_by
def t_led_by (K : PySem.W.Frag) : TS := (tRet (tLc (Pw.iSeq K (tVar 0)) (gName 2) tYes (tCallG (spD K 0 F_least_sum) (tCons (tVar 2) (tCons (tVar 1) tNil))) [2]))
theorem s_led_by (K : PySem.W.Frag) : SndS K (t_led_by K) 0 f_led_by := (snds_retL (sndl_comp (N := 1000000) (by decide) (sndi_seq (Snd.v snd_var)) (sndg_name (by decide)) sndt_yes (snd_call (m_least_sum K) (snda_cons snd_var (snda_cons snd_var snda_nil)))))
theorem m_led_by (K : PySem.W.Frag) : MonoF F_led_by := by
  unfold F_led_by
  exact mkF_mono (s_led_by K)
theorem mL_led_by (K : PySem.W.Frag) : MonoL L_led_by := by
  unfold L_led_by
  exact mkL_mono (s_led_by K)
def f_led_back_by : FS := (sSeq (sAsg (eL (fComp 1000000 (fIt (eVar 1)) [3] (gN 3) fYes (eUn negD (eVar 3)))) (gN 2)) (sRetL (fComp 1000000 (fIt (eCall F_columns_of (aCons (eVar 0) aNil))) [4] (gN 4) fYes (eUn negD (eCall F_least_sum (aCons (eVar 4) (aCons (eVar 2) aNil)))))))
@[irreducible] def F_led_back_by : FF := mkF 2 5 f_led_back_by
@[irreducible] def L_led_back_by : FFL := mkL 2 5 f_led_back_by
def t_led_back_by (K : PySem.W.Frag) : TS := (tSeq (tAsg (tLc (Pw.iSeq K (tVar 1)) (gName 3) tYes (tUn (rU fun i => .int (-i)) (tVar 3)) [3]) (gName 2)) (tRet (tLc (Pw.iSeq K (tCallG (spD K 0 F_columns_of) (tCons (tVar 0) tNil))) (gName 4) tYes (tUn (rU fun i => .int (-i)) (tCallG (spD K 0 F_least_sum) (tCons (tVar 4) (tCons (tVar 2) tNil)))) [4])))
theorem s_led_back_by (K : PySem.W.Frag) : SndS K (t_led_back_by K) 0 f_led_back_by := (snds_seq (snds_asg (vs := [2]) (SndL.d (sndl_comp (N := 1000000) (by decide) (sndi_seq (Snd.v snd_var)) (sndg_name (by decide)) sndt_yes (snd_un us_neg snd_var))) (sndg_name (by decide))) (snds_retL (sndl_comp (N := 1000000) (by decide) (sndi_seq (Snd.v (snd_call (m_columns_of K) (snda_cons snd_var snda_nil)))) (sndg_name (by decide)) sndt_yes (snd_un us_neg (snd_call (m_least_sum K) (snda_cons snd_var (snda_cons snd_var snda_nil)))))))
theorem m_led_back_by (K : PySem.W.Frag) : MonoF F_led_back_by := by
  unfold F_led_back_by
  exact mkF_mono (s_led_back_by K)
theorem mL_led_back_by (K : PySem.W.Frag) : MonoL L_led_back_by := by
  unfold L_led_back_by
  exact mkL_mono (s_led_back_by K)
def f_gone_on : FS := (sSeq (sFor 1000000 (fIt (eCall F_grids_in (aCons (eVar 0) (aCons (eVar 2) aNil)))) (gN 4) (sAsg (eIf (fTest (eBin gEq (eVar 1) (eC (.str "forth")))) (eCall F_led_by (aCons (eVar 4) (aCons (eVar 3) aNil))) (eCall F_led_back_by (aCons (eVar 4) (aCons (eVar 3) aNil)))) (gN 3))) (sRet (eVar 3)))
@[irreducible] def F_gone_on : FF := mkF 4 5 f_gone_on
def t_gone_on (K : PySem.W.Frag) : TS := (tSeq (tFor (Pw.iSeq K (tCallG (spD K 0 F_grids_in) (tCons (tVar 0) (tCons (tVar 2) tNil)))) (gName 4) (tAsg (tIf (tTest (tOp (rEqX K) (tVar 1) (tC (.str "forth")))) (tCallG (spD K 0 F_led_by) (tCons (tVar 4) (tCons (tVar 3) tNil))) (tCallG (spD K 0 F_led_back_by) (tCons (tVar 4) (tCons (tVar 3) tNil)))) (gName 3))) (tRet (tVar 3)))
theorem s_gone_on (K : PySem.W.Frag) : SndS K (t_gone_on K) 0 f_gone_on := (snds_seq (snds_for (vs := [4]) (N := 1000000) (sndi_seq (snd_call (m_grids_in K) (snda_cons snd_var (snda_cons snd_var snda_nil)))) (sndg_name (by decide)) (snds_asg (vs := [3]) (snd_if (sndt_test (snd_op ops_eq snd_var snd_str)) (snd_call (m_led_by K) (snda_cons snd_var (snda_cons snd_var snda_nil))) (snd_call (m_led_back_by K) (snda_cons snd_var (snda_cons snd_var snda_nil)))) (sndg_name (by decide)))) (snds_ret snd_var))
theorem m_gone_on (K : PySem.W.Frag) : MonoF F_gone_on := by
  unfold F_gone_on
  exact mkF_mono (s_gone_on K)
def f_noughts : FS := (sRet (eBin gMul (eLst (dCons (eC (.int 0)) dNil)) (eCall F_gates (aCons (eVar 0) aNil))))
@[irreducible] def F_noughts : FF := mkF 1 1 f_noughts
def t_noughts (K : PySem.W.Frag) : TS := (tRet (tOp (rMul K) (tLst (tCons (tC (.int 0)) tNil)) (tCallG (spD K 0 F_gates) (tCons (tVar 0) tNil))))
theorem s_noughts (K : PySem.W.Frag) : SndS K (t_noughts K) 0 f_noughts := (snds_ret (snd_op ops_mul (SndL.d (sndl_lst (sndd_cons snd_int sndd_nil) (by decide))) (snd_call (m_gates K) (snda_cons snd_var snda_nil))))
theorem m_noughts (K : PySem.W.Frag) : MonoF F_noughts := by
  unfold F_noughts
  exact mkF_mono (s_noughts K)
def f_counts : FS := (sSeq (sAsg (eCall F_doubled_grids (aCons (eVar 0) (aCons (eVar 1) (aCons (eVar 2) (aCons (eVar 4) aNil))))) (gN 5)) (sRet (eUn tupD (eCall F_gone_on (aCons (eVar 5) (aCons (eVar 3) (aCons (eVar 4) (aCons (eCall F_noughts (aCons (eVar 0) aNil)) aNil))))))))
@[irreducible] def F_counts : FF := mkF 5 6 f_counts
def t_counts (K : PySem.W.Frag) : TS := (tSeq (tAsg (tCallG (spD K 0 F_doubled_grids) (tCons (tVar 0) (tCons (tVar 1) (tCons (tVar 2) (tCons (tVar 4) tNil))))) (gName 5)) (tRet (tThen (tCallG (spD K 0 F_gone_on) (tCons (tVar 5) (tCons (tVar 3) (tCons (tVar 4) (tCons (tCallG (spD K 0 F_noughts) (tCons (tVar 0) tNil)) tNil))))) (kTup K))))
theorem s_counts (K : PySem.W.Frag) : SndS K (t_counts K) 0 f_counts := (snds_seq (snds_asg (vs := [5]) (snd_call (m_doubled_grids K) (snda_cons snd_var (snda_cons snd_var (snda_cons snd_var (snda_cons snd_var snda_nil))))) (sndg_name (by decide))) (snds_ret (snd_tupOf (snd_call (m_gone_on K) (snda_cons snd_var (snda_cons snd_var (snda_cons snd_var (snda_cons (snd_call (m_noughts K) (snda_cons snd_var snda_nil)) snda_nil))))))))
theorem m_counts (K : PySem.W.Frag) : MonoF F_counts := by
  unfold F_counts
  exact mkF_mono (s_counts K)
def f_far : FS := (sRet (eCall F_led_to (aCons (eVar 2) (aCons (eCall F_counts (aCons (eVar 0) (aCons (eVar 1) (aCons (eVar 2) (aCons (eVar 3) (aCons (eVar 4) aNil)))))) aNil))))
@[irreducible] def F_far : FF := mkF 5 5 f_far
def t_far (K : PySem.W.Frag) : TS := (tRet (tCallG (spD K 0 F_led_to) (tCons (tVar 2) (tCons (tCallG (spD K 0 F_counts) (tCons (tVar 0) (tCons (tVar 1) (tCons (tVar 2) (tCons (tVar 3) (tCons (tVar 4) tNil)))))) tNil))))
theorem s_far (K : PySem.W.Frag) : SndS K (t_far K) 0 f_far := (snds_ret (snd_call (m_led_to K) (snda_cons snd_var (snda_cons (snd_call (m_counts K) (snda_cons snd_var (snda_cons snd_var (snda_cons snd_var (snda_cons snd_var (snda_cons snd_var snda_nil)))))) snda_nil))))
theorem m_far (K : PySem.W.Frag) : MonoF F_far := by
  unfold F_far
  exact mkF_mono (s_far K)
def f_far_turns : FS := (sSeq (sAsg (eMaxD (eL (fComp 1000000 (fIt (eVar 3)) [7, 8] (gT (gsCons (gN 7) (gsCons (gN 8) gsNil))) fYes (eVar 8))) (eC (.int 0))) (gN 4)) (sSeq (sAsg (eCall F_doubled_grids (aCons (eVar 0) (aCons (eVar 1) (aCons (eVar 2) (aCons (eVar 4) aNil))))) (gN 5)) (sSeq (sAsg (eCall F_noughts (aCons (eVar 0) aNil)) (gN 6)) (sSeq (sFor 1000000 (fIt (eVar 3)) (gT (gsCons (gN 7) (gsCons (gN 8) gsNil))) (sAsg (eCall F_gone_on (aCons (eVar 5) (aCons (eVar 7) (aCons (eVar 8) (aCons (eVar 6) aNil))))) (gN 6))) (sRet (eTup (dCons (eCall F_led_to (aCons (eVar 2) (aCons (eVar 6) aNil))) (dCons (eUn tupD (eVar 6)) dNil))))))))
@[irreducible] def F_far_turns : FF := mkF 4 9 f_far_turns
def t_far_turns (K : PySem.W.Frag) : TS := (tSeq (tAsg (tCKw (rMaxD K) (tCons (tLc (Pw.iSeq K (tVar 3)) (fun v σ H Q => gTup K 2 (gCons (gName 7) (gCons (gName 8) gNil)) v σ H Q ∨ gLst K 2 (gCons (gName 7) (gCons (gName 8) gNil)) v σ H Q) tYes (tVar 8) [7, 8]) tNil) (tCons (tC (.int 0)) tNil)) (gName 4)) (tSeq (tAsg (tCallG (spD K 0 F_doubled_grids) (tCons (tVar 0) (tCons (tVar 1) (tCons (tVar 2) (tCons (tVar 4) tNil))))) (gName 5)) (tSeq (tAsg (tCallG (spD K 0 F_noughts) (tCons (tVar 0) tNil)) (gName 6)) (tSeq (tFor (Pw.iSeq K (tVar 3)) (fun v σ H Q => gTup K 2 (gCons (gName 7) (gCons (gName 8) gNil)) v σ H Q ∨ gLst K 2 (gCons (gName 7) (gCons (gName 8) gNil)) v σ H Q) (tAsg (tCallG (spD K 0 F_gone_on) (tCons (tVar 5) (tCons (tVar 7) (tCons (tVar 8) (tCons (tVar 6) tNil))))) (gName 6))) (tRet (tTup (tCons (tCallG (spD K 0 F_led_to) (tCons (tVar 2) (tCons (tVar 6) tNil))) (tCons (tThen (tVar 6) (kTup K)) tNil))))))))
theorem s_far_turns (K : PySem.W.Frag) : SndS K (t_far_turns K) 0 f_far_turns := (snds_seq (snds_asg (vs := [4]) (snd_maxD (SndL.d (sndl_comp (N := 1000000) (by decide) (sndi_seq (Snd.v snd_var)) (sndg_tup (sndgs_cons (sndg_name (by decide)) (sndgs_cons (sndg_name (by decide)) sndgs_nil)) (gs_lenS gN_some (gs_lenS gN_some gs_len0))) sndt_yes snd_var)) snd_int) (sndg_name (by decide))) (snds_seq (snds_asg (vs := [5]) (snd_call (m_doubled_grids K) (snda_cons snd_var (snda_cons snd_var (snda_cons snd_var (snda_cons snd_var snda_nil))))) (sndg_name (by decide))) (snds_seq (snds_asg (vs := [6]) (snd_call (m_noughts K) (snda_cons snd_var snda_nil)) (sndg_name (by decide))) (snds_seq (snds_for (vs := [7, 8]) (N := 1000000) (sndi_seq snd_var) (sndg_tup (sndgs_cons (sndg_name (by decide)) (sndgs_cons (sndg_name (by decide)) sndgs_nil)) (gs_lenS gN_some (gs_lenS gN_some gs_len0))) (snds_asg (vs := [6]) (snd_call (m_gone_on K) (snda_cons snd_var (snda_cons snd_var (snda_cons snd_var (snda_cons snd_var snda_nil))))) (sndg_name (by decide)))) (snds_ret (snd_tup (sndd_cons (snd_call (m_led_to K) (snda_cons snd_var (snda_cons snd_var snda_nil))) (sndd_cons (snd_tupOf snd_var) sndd_nil)) (by decide)))))))
theorem m_far_turns (K : PySem.W.Frag) : MonoF F_far_turns := by
  unfold F_far_turns
  exact mkF_mono (s_far_turns K)
end Kd
namespace Ke
open PySem PySem.Spec PyProof.Rows L2 Xg Dv Kd
def f__law_pick : FS := (sRet (eBin gIx (eVar 1) (eCall F_take (aBox 0 (aCons (eCB (g1 lenD) (dCons (eVar 1) dNil)) aNil)))))
@[irreducible] def F__law_pick : FF := mkF 2 2 f__law_pick
def t__law_pick (K : PySem.W.Frag) : TS := (tRet (tOp (rIx K) (tVar 1) (tCallG (spD K 1 F_take) (tCons (tVar 0) (tCons (tCB (fun xs H Q => ∃ x n, xs = [x] ∧ LenV K x H n ∧ Q (.int n) H) (tCons (tVar 1) tNil)) tNil)))))
theorem s__law_pick (K : PySem.W.Frag) : SndS K (t__law_pick K) 1 f__law_pick := (snds_ret (snd_op ops_ix snd_var (snd_call m_take (snda_box (snda_cons (snd_cb cs_len (sndd_cons snd_var sndd_nil)) snda_nil)))))
theorem m__law_pick (K : PySem.W.Frag) : MonoF F__law_pick := by
  unfold F__law_pick
  exact mkF_mono (s__law_pick K)
@[irreducible] def f__law_line_0 : FS := (sRet (eTup (dCons (eVar 3) (dCons (eUn tupD (eL (fComp 100 (fRange1 (eVar 6)) [7] (gN 7) fYes (eBin gAdd (eC (.int 1)) (eCall F_take (aBox 0 (aCons (eVar 4) aNil))))))) dNil))))
def t__law_line_0 (K : PySem.W.Frag) : TS := (tRet (tTup (tCons (tVar 3) (tCons (tThen (tLc (iRng1 (tCons (tVar 6) tNil)) (gName 7) tYes (tOp (rAdd K) (tC (.int 1)) (tCallG (spD K 1 F_take) (tCons (tVar 0) (tCons (tVar 4) tNil)))) [7]) (kTup K)) tNil))))
theorem s__law_line_0 (K : PySem.W.Frag) : SndS K (t__law_line_0 K) 100 f__law_line_0 := by
  unfold f__law_line_0
  exact (snds_ret (snd_tup (sndd_cons snd_var (sndd_cons (snd_tupOf (SndL.d (sndl_comp (N := 100) (by decide) (sndi_range1 snd_var) (sndg_name (by decide)) sndt_yes (snd_op ops_add snd_int (snd_call m_take (snda_box (snda_cons snd_var snda_nil))))))) sndd_nil)) (by decide)))
@[irreducible] def f__law_line_1 : FS := (sSeq (sAsg (eBin gAdd (eVar 5) (eCall F_take (aBox 0 (aCons (eBin (gI fun i j => i - j) (eBin gAdd (eVar 1) (eC (.int 1))) (eVar 5)) aNil)))) (gN 6)) f__law_line_0)
def t__law_line_1 (K : PySem.W.Frag) : TS := (tSeq (tAsg (tOp (rAdd K) (tVar 5) (tCallG (spD K 1 F_take) (tCons (tVar 0) (tCons (tOp (rI0 fun i j => .int (i - j)) (tOp (rAdd K) (tVar 1) (tC (.int 1))) (tVar 5)) tNil)))) (gName 6)) (t__law_line_0 K))
theorem s__law_line_1 (K : PySem.W.Frag) : SndS K (t__law_line_1 K) 101 f__law_line_1 := by
  unfold f__law_line_1
  exact (snds_seq (snds_asg (vs := [6]) (snd_op ops_add snd_var (snd_call m_take (snda_box (snda_cons (snd_op ops_I (snd_op ops_add snd_var snd_int) snd_var) snda_nil)))) (sndg_name (by decide))) (s__law_line_0 K))
@[irreducible] def f__law_line_2 : FS := (sSeq (sAsg (eBin gAdd (eC (.int 1)) (eCB (g1 intD) (dCons (eBin gEq (eVar 3) (eC (.str "ring"))) dNil))) (gN 5)) f__law_line_1)
def t__law_line_2 (K : PySem.W.Frag) : TS := (tSeq (tAsg (tOp (rAdd K) (tC (.int 1)) (tCB (fun xs H Q => (∃ i, xs = [.int i] ∧ Q (.int i) H) ∨ ∃ k, xs = [.bl k] ∧ Q (.int (if k then 1 else 0)) H) (tCons (tOp (rEqX K) (tVar 3) (tC (.str "ring"))) tNil))) (gName 5)) (t__law_line_1 K))
theorem s__law_line_2 (K : PySem.W.Frag) : SndS K (t__law_line_2 K) 101 f__law_line_2 := by
  unfold f__law_line_2
  exact (snds_seq (snds_asg (vs := [5]) (snd_op ops_add snd_int (snd_cb cs_int (sndd_cons (snd_op ops_eq snd_var snd_str) sndd_nil))) (sndg_name (by decide))) (s__law_line_1 K))
def f__law_line : FS := (sSeq (sAsg (eTup (dCons (eCall F__law_pick (aBox 0 (aCons (eLst (dCons (eC (.str "row")) (dCons (eC (.str "row")) (dCons (eC (.str "ring")) dNil)))) aNil))) (dCons (eCall F__law_pick (aBox 0 (aCons (eLst (dCons (eC (.int 1)) (dCons (eC (.int 2)) (dCons (eVar 2) (dCons (eVar 2) dNil))))) aNil))) dNil))) (gT (gsCons (gN 3) (gsCons (gN 4) gsNil)))) f__law_line_2)
@[irreducible] def F__law_line : FF := mkF 3 8 f__law_line
def t__law_line (K : PySem.W.Frag) : TS := (tSeq (tAsg (tTup (tCons (tCallG (spD K 1 F__law_pick) (tCons (tVar 0) (tCons (tLst (tCons (tC (.str "row")) (tCons (tC (.str "row")) (tCons (tC (.str "ring")) tNil)))) tNil))) (tCons (tCallG (spD K 1 F__law_pick) (tCons (tVar 0) (tCons (tLst (tCons (tC (.int 1)) (tCons (tC (.int 2)) (tCons (tVar 2) (tCons (tVar 2) tNil))))) tNil))) tNil))) (fun v σ H Q => gTup K 2 (gCons (gName 3) (gCons (gName 4) gNil)) v σ H Q ∨ gLst K 2 (gCons (gName 3) (gCons (gName 4) gNil)) v σ H Q)) (t__law_line_2 K))
theorem s__law_line (K : PySem.W.Frag) : SndS K (t__law_line K) 103 f__law_line := (snds_seq (snds_asg (vs := [3, 4]) (snd_tup (sndd_cons (snd_call (m__law_pick K) (snda_box (snda_cons (SndL.d (sndl_lst (sndd_cons snd_str (sndd_cons snd_str (sndd_cons snd_str sndd_nil))) (by decide))) snda_nil))) (sndd_cons (snd_call (m__law_pick K) (snda_box (snda_cons (SndL.d (sndl_lst (sndd_cons snd_int (sndd_cons snd_int (sndd_cons snd_var (sndd_cons snd_var sndd_nil)))) (by decide))) snda_nil))) sndd_nil)) (by decide)) (sndg_tup (sndgs_cons (sndg_name (by decide)) (sndgs_cons (sndg_name (by decide)) sndgs_nil)) (gs_lenS gN_some (gs_lenS gN_some gs_len0)))) (s__law_line_2 K))
theorem m__law_line (K : PySem.W.Frag) : MonoF F__law_line := by
  unfold F__law_line
  exact mkF_mono (s__law_line K)
def f__law_gates : FS := (sRet (eBin gAdd (eCB (g1 lenD) (dCons (eBin gIx (eVar 0) (eC (.int 1))) dNil)) (eCB (g1 intD) (dCons (eBin gEq (eBin gIx (eVar 0) (eC (.int 0))) (eC (.str "row"))) dNil))))
@[irreducible] def F__law_gates : FF := mkF 1 1 f__law_gates
def t__law_gates (K : PySem.W.Frag) : TS := (tRet (tOp (rAdd K) (tCB (fun xs H Q => ∃ x n, xs = [x] ∧ LenV K x H n ∧ Q (.int n) H) (tCons (tOp (rIx K) (tVar 0) (tC (.int 1))) tNil)) (tCB (fun xs H Q => (∃ i, xs = [.int i] ∧ Q (.int i) H) ∨ ∃ k, xs = [.bl k] ∧ Q (.int (if k then 1 else 0)) H) (tCons (tOp (rEqX K) (tOp (rIx K) (tVar 0) (tC (.int 0))) (tC (.str "row"))) tNil))))
theorem s__law_gates (K : PySem.W.Frag) : SndS K (t__law_gates K) 0 f__law_gates := (snds_ret (snd_op ops_add (snd_cb cs_len (sndd_cons (snd_op ops_ix snd_var snd_int) sndd_nil)) (snd_cb cs_int (sndd_cons (snd_op ops_eq (snd_op ops_ix snd_var snd_int) snd_str) sndd_nil))))
theorem m__law_gates (K : PySem.W.Frag) : MonoF F__law_gates := by
  unfold F__law_gates
  exact mkF_mono (s__law_gates K)
@[irreducible] def f__law_widths_0 : FS := (sApp 4 (eIf (fOr (fTest (eBin gIs (eVar 6) (eC .none))) (fTest (eBin (gC fun i j => decide (i < j)) (eVar 6) (eC (.int 3))))) (eVar 6) (eBin gAdd (eC (.int 1)) (eCall F_take (aBox 0 (aCons (eVar 6) aNil))))))
def t__law_widths_0 (K : PySem.W.Frag) : TS := (tDrop (tBM K "list" rAppend (tVar 4) (tCons (tIf (tOr (tTest (tOp (fun x y H Q => y = .non ∧ Q (.bl (decide (x = .non))) H) (tVar 6) (tC .non))) (tTest (tOp (rI0 fun i j => .bl (decide (i < j))) (tVar 6) (tC (.int 3))))) (tVar 6) (tOp (rAdd K) (tC (.int 1)) (tCallG (spD K 1 F_take) (tCons (tVar 0) (tCons (tVar 6) tNil))))) tNil)))
theorem s__law_widths_0 (K : PySem.W.Frag) : SndS K (t__law_widths_0 K) 1 f__law_widths_0 := by
  unfold f__law_widths_0
  exact (snds_app (snd_if (sndt_or (sndt_test (snd_op ops_is snd_var snd_non)) (sndt_test (snd_op ops_C snd_var snd_int))) snd_var (snd_op ops_add snd_int (snd_call m_take (snda_box (snda_cons snd_var snda_nil))))))
@[irreducible] def f__law_widths_1 : FS := (sRet (eUn tupD (eVarV 4)))
def t__law_widths_1 (K : PySem.W.Frag) : TS := (tRet (tThen (tVar 4) (kTup K)))
theorem s__law_widths_1 (K : PySem.W.Frag) : SndS K (t__law_widths_1 K) 0 f__law_widths_1 := by
  unfold f__law_widths_1
  exact (snds_ret (snd_tupOf sndV_var))
@[irreducible] def f__law_widths_2 : FS := (sSeq (sIf (fAnd (fTest (eBin gEq (eBin gIx (eVar 1) (eC (.int 0))) (eC (.str "row")))) (fTest (eBin gEq (eCall F_take (aBox 0 (aCons (eC (.int 4)) aNil))) (eC (.int 0))))) (sOwn (fCat (eBin gAdd (eLst (dCons (eC (.int 0)) dNil)) (eSl (eVarV 4) (oSome (eC (.int 1))) (oSome (eUn negD (eC (.int 1)))))) (eLst (dCons (eC (.int 0)) dNil))) 4) sSkip) f__law_widths_1)
def t__law_widths_2 (K : PySem.W.Frag) : TS := (tSeq (tIfS (tAnd (tTest (tOp (rEqX K) (tOp (rIx K) (tVar 1) (tC (.int 0))) (tC (.str "row")))) (tTest (tOp (rEqX K) (tCallG (spD K 1 F_take) (tCons (tVar 0) (tCons (tC (.int 4)) tNil))) (tC (.int 0))))) (tAsg (tOp rCat (tOp (rAdd K) (tLst (tCons (tC (.int 0)) tNil)) (tSl (rSlX K) (tVar 4) (tPart (tC (.int 1))) (tPart (tUn (rU fun i => .int (-i)) (tC (.int 1)))))) (tLst (tCons (tC (.int 0)) tNil))) (gName 4)) tNext) (t__law_widths_1 K))
theorem s__law_widths_2 (K : PySem.W.Frag) : SndS K (t__law_widths_2 K) 1 f__law_widths_2 := by
  unfold f__law_widths_2
  exact (snds_seq (snds_if (sndt_and (sndt_test (snd_op ops_eq (snd_op ops_ix snd_var snd_int) snd_str)) (sndt_test (snd_op ops_eq (snd_call m_take (snda_box (snda_cons snd_int snda_nil))) snd_int))) (snds_own (sndl_cat (snd_op ops_add (SndL.d (sndl_lst (sndd_cons snd_int sndd_nil) (by decide))) (snd_sl sndV_var (sndo_some snd_int) (sndo_some (snd_un us_neg snd_int)))) (SndL.d (sndl_lst (sndd_cons snd_int sndd_nil) (by decide))))) snds_nil) (s__law_widths_1 K))
@[irreducible] def f__law_widths_3 : FS := (sSeq (sFor 100 (fRange1 (eCall F__law_gates (aCons (eVar 1) aNil))) (gN 5) (sSeq (sAsg (eCall F__law_pick (aBox 0 (aCons (eVar 3) aNil))) (gN 6)) f__law_widths_0)) f__law_widths_2)
def t__law_widths_3 (K : PySem.W.Frag) : TS := (tSeq (tFor (iRng1 (tCons (tCallG (spD K 0 F__law_gates) (tCons (tVar 1) tNil)) tNil)) (gName 5) (tSeq (tAsg (tCallG (spD K 1 F__law_pick) (tCons (tVar 0) (tCons (tVar 3) tNil))) (gName 6)) (t__law_widths_0 K))) (t__law_widths_2 K))
theorem s__law_widths_3 (K : PySem.W.Frag) : SndS K (t__law_widths_3 K) 201 f__law_widths_3 := by
  unfold f__law_widths_3
  exact (snds_seq (snds_for (vs := [5]) (N := 100) (sndi_range1 (snd_call (m__law_gates K) (snda_cons snd_var snda_nil))) (sndg_name (by decide)) (snds_seq (snds_asg (vs := [6]) (snd_call (m__law_pick K) (snda_box (snda_cons snd_var snda_nil))) (sndg_name (by decide))) (s__law_widths_0 K))) (s__law_widths_2 K))
@[irreducible] def f__law_widths_4 : FS := (sSeq (sOwn dNil 4) f__law_widths_3)
def t__law_widths_4 (K : PySem.W.Frag) : TS := (tSeq (tAsg (tLst tNil) (gName 4)) (t__law_widths_3 K))
theorem s__law_widths_4 (K : PySem.W.Frag) : SndS K (t__law_widths_4 K) 201 f__law_widths_4 := by
  unfold f__law_widths_4
  exact (snds_seq (snds_own (sndl_lst sndd_nil (by decide))) (s__law_widths_3 K))
def f__law_widths : FS := (sSeq (sAsg (eCall F__law_pick (aBox 0 (aCons (eLst (dCons (eLst (dCons (eC .none) dNil)) (dCons (eLst (dCons (eC .none) (dCons (eC .none) (dCons (eVar 2) dNil)))) (dCons (eLst (dCons (eVar 2) dNil)) (dCons (eLst (dCons (eC (.int 0)) (dCons (eC (.int 1)) (dCons (eVar 2) (dCons (eC .none) dNil))))) (dCons (eLst (dCons (eC (.int 1)) (dCons (eC (.int 2)) (dCons (eVar 2) dNil)))) dNil)))))) aNil))) (gN 3)) f__law_widths_4)
@[irreducible] def F__law_widths : FF := mkF 3 7 f__law_widths
def t__law_widths (K : PySem.W.Frag) : TS := (tSeq (tAsg (tCallG (spD K 1 F__law_pick) (tCons (tVar 0) (tCons (tLst (tCons (tLst (tCons (tC .non) tNil)) (tCons (tLst (tCons (tC .non) (tCons (tC .non) (tCons (tVar 2) tNil)))) (tCons (tLst (tCons (tVar 2) tNil)) (tCons (tLst (tCons (tC (.int 0)) (tCons (tC (.int 1)) (tCons (tVar 2) (tCons (tC .non) tNil))))) (tCons (tLst (tCons (tC (.int 1)) (tCons (tC (.int 2)) (tCons (tVar 2) tNil)))) tNil)))))) tNil))) (gName 3)) (t__law_widths_4 K))
theorem s__law_widths (K : PySem.W.Frag) : SndS K (t__law_widths K) 202 f__law_widths := (snds_seq (snds_asg (vs := [3]) (snd_call (m__law_pick K) (snda_box (snda_cons (SndL.d (sndl_lst (sndd_cons (SndL.d (sndl_lst (sndd_cons snd_non sndd_nil) (by decide))) (sndd_cons (SndL.d (sndl_lst (sndd_cons snd_non (sndd_cons snd_non (sndd_cons snd_var sndd_nil))) (by decide))) (sndd_cons (SndL.d (sndl_lst (sndd_cons snd_var sndd_nil) (by decide))) (sndd_cons (SndL.d (sndl_lst (sndd_cons snd_int (sndd_cons snd_int (sndd_cons snd_var (sndd_cons snd_non sndd_nil)))) (by decide))) (sndd_cons (SndL.d (sndl_lst (sndd_cons snd_int (sndd_cons snd_int (sndd_cons snd_var sndd_nil))) (by decide))) sndd_nil))))) (by decide))) snda_nil))) (sndg_name (by decide))) (s__law_widths_4 K))
theorem m__law_widths (K : PySem.W.Frag) : MonoF F__law_widths := by
  unfold F__law_widths
  exact mkF_mono (s__law_widths K)
@[irreducible] def f__law_lot_0 : FS := (sApp 3 (eIf (fTest (eBin gEq (eVar 2) (eC (.int 0)))) (eBin gIx (eLst (dCons (eVar 5) (dCons (eC (.int 0)) (dCons (eVar 4) dNil)))) (eCall F_take (aBox 0 (aCons (eC (.int 3)) aNil)))) (eVar 5)))
def t__law_lot_0 (K : PySem.W.Frag) : TS := (tDrop (tBM K "list" rAppend (tVar 3) (tCons (tIf (tTest (tOp (rEqX K) (tVar 2) (tC (.int 0)))) (tOp (rIx K) (tLst (tCons (tVar 5) (tCons (tC (.int 0)) (tCons (tVar 4) tNil)))) (tCallG (spD K 1 F_take) (tCons (tVar 0) (tCons (tC (.int 3)) tNil)))) (tVar 5)) tNil)))
theorem s__law_lot_0 (K : PySem.W.Frag) : SndS K (t__law_lot_0 K) 1 f__law_lot_0 := by
  unfold f__law_lot_0
  exact (snds_app (snd_if (sndt_test (snd_op ops_eq snd_var snd_int)) (snd_op ops_ix (SndL.d (sndl_lst (sndd_cons snd_var (sndd_cons snd_int (sndd_cons snd_var sndd_nil))) (by decide))) (snd_call m_take (snda_box (snda_cons snd_int snda_nil)))) snd_var))
@[irreducible] def f__law_lot_1 : FS := (sRet (eUn tupD (eVarV 3)))
def t__law_lot_1 (K : PySem.W.Frag) : TS := (tRet (tThen (tVar 3) (kTup K)))
theorem s__law_lot_1 (K : PySem.W.Frag) : SndS K (t__law_lot_1 K) 0 f__law_lot_1 := by
  unfold f__law_lot_1
  exact (snds_ret (snd_tupOf sndV_var))
@[irreducible] def f__law_lot_2 : FS := (sSeq (sFor 100 (fIt (eBin gIx (eVar 1) (eC (.int 1)))) (gN 4) (sSeq (sAsg (eCall F_take (aBox 0 (aCons (eBin gAdd (eVar 4) (eC (.int 1))) aNil))) (gN 5)) f__law_lot_0)) f__law_lot_1)
def t__law_lot_2 (K : PySem.W.Frag) : TS := (tSeq (tFor (Pw.iSeq K (tOp (rIx K) (tVar 1) (tC (.int 1)))) (gName 4) (tSeq (tAsg (tCallG (spD K 1 F_take) (tCons (tVar 0) (tCons (tOp (rAdd K) (tVar 4) (tC (.int 1))) tNil))) (gName 5)) (t__law_lot_0 K))) (t__law_lot_1 K))
theorem s__law_lot_2 (K : PySem.W.Frag) : SndS K (t__law_lot_2 K) 200 f__law_lot_2 := by
  unfold f__law_lot_2
  exact (snds_seq (snds_for (vs := [4]) (N := 100) (sndi_seq (snd_op ops_ix snd_var snd_int)) (sndg_name (by decide)) (snds_seq (snds_asg (vs := [5]) (snd_call m_take (snda_box (snda_cons (snd_op ops_add snd_var snd_int) snda_nil))) (sndg_name (by decide))) (s__law_lot_0 K))) (s__law_lot_1 K))
@[irreducible] def f__law_lot_3 : FS := (sSeq (sOwn dNil 3) f__law_lot_2)
def t__law_lot_3 (K : PySem.W.Frag) : TS := (tSeq (tAsg (tLst tNil) (gName 3)) (t__law_lot_2 K))
theorem s__law_lot_3 (K : PySem.W.Frag) : SndS K (t__law_lot_3 K) 200 f__law_lot_3 := by
  unfold f__law_lot_3
  exact (snds_seq (snds_own (sndl_lst sndd_nil (by decide))) (s__law_lot_2 K))
def f__law_lot : FS := (sSeq (sAsg (eCall F_take (aBox 0 (aCons (eC (.int 4)) aNil))) (gN 2)) f__law_lot_3)
@[irreducible] def F__law_lot : FF := mkF 2 6 f__law_lot
def t__law_lot (K : PySem.W.Frag) : TS := (tSeq (tAsg (tCallG (spD K 1 F_take) (tCons (tVar 0) (tCons (tC (.int 4)) tNil))) (gName 2)) (t__law_lot_3 K))
theorem s__law_lot (K : PySem.W.Frag) : SndS K (t__law_lot K) 201 f__law_lot := (snds_seq (snds_asg (vs := [2]) (snd_call m_take (snda_box (snda_cons snd_int snda_nil))) (sndg_name (by decide))) (s__law_lot_3 K))
theorem m__law_lot (K : PySem.W.Frag) : MonoF F__law_lot := by
  unfold F__law_lot
  exact mkF_mono (s__law_lot K)
@[irreducible] def f__law_moved_0 : FS := (sApp 5 (eCB minD (dCons (eVarV 8) dNil)))
def t__law_moved_0 (K : PySem.W.Frag) : TS := (tDrop (tBM K "list" rAppend (tVar 5) (tCons (tCB (rMin K) (tCons (tVar 8) tNil)) tNil)))
theorem s__law_moved_0 (K : PySem.W.Frag) : SndS K (t__law_moved_0 K) 0 f__law_moved_0 := by
  unfold f__law_moved_0
  exact (snds_app (snd_cb cs_min (sndd_cons sndV_var sndd_nil)))
@[irreducible] def f__law_moved_1 : FS := (sSeq (sIf (fOr (fTest (eBin gEq (eBin gIx (eVar 0) (eC (.int 0))) (eC (.str "ring")))) (fTest (eBin (gC fun i j => decide (i < j)) (eVar 6) (eCB (g1 lenD) (dCons (eVar 4) dNil))))) (sApp 8 (eIf (fTest (eBin gEq (eVar 3) (eC (.str "forth")))) (eBin (gI fun i j => i - j) (eBin gIx (eVar 4) (eVar 6)) (eBin gIx (eVar 2) (eVar 6))) (eBin gIx (eVar 2) (eVar 6)))) sSkip) f__law_moved_0)
def t__law_moved_1 (K : PySem.W.Frag) : TS := (tSeq (tIfS (tOr (tTest (tOp (rEqX K) (tOp (rIx K) (tVar 0) (tC (.int 0))) (tC (.str "ring")))) (tTest (tOp (rI0 fun i j => .bl (decide (i < j))) (tVar 6) (tCB (fun xs H Q => ∃ x n, xs = [x] ∧ LenV K x H n ∧ Q (.int n) H) (tCons (tVar 4) tNil))))) (tDrop (tBM K "list" rAppend (tVar 8) (tCons (tIf (tTest (tOp (rEqX K) (tVar 3) (tC (.str "forth")))) (tOp (rI0 fun i j => .int (i - j)) (tOp (rIx K) (tVar 4) (tVar 6)) (tOp (rIx K) (tVar 2) (tVar 6))) (tOp (rIx K) (tVar 2) (tVar 6))) tNil))) tNext) (t__law_moved_0 K))
theorem s__law_moved_1 (K : PySem.W.Frag) : SndS K (t__law_moved_1 K) 0 f__law_moved_1 := by
  unfold f__law_moved_1
  exact (snds_seq (snds_if (sndt_or (sndt_test (snd_op ops_eq (snd_op ops_ix snd_var snd_int) snd_str)) (sndt_test (snd_op ops_C snd_var (snd_cb cs_len (sndd_cons snd_var sndd_nil))))) (snds_app (snd_if (sndt_test (snd_op ops_eq snd_var snd_str)) (snd_op ops_I (snd_op ops_ix snd_var snd_var) (snd_op ops_ix snd_var snd_var)) (snd_op ops_ix snd_var snd_var))) snds_nil) (s__law_moved_0 K))
@[irreducible] def f__law_moved_2 : FS := (sSeq (sIf (fOr (fTest (eBin gEq (eBin gIx (eVar 0) (eC (.int 0))) (eC (.str "ring")))) (fTest (eBin (gC fun i j => decide (j < i)) (eVar 6) (eC (.int 0))))) (sApp 8 (eIf (fTest (eBin gEq (eVar 3) (eC (.str "forth")))) (eBin gIx (eVar 2) (eBin (gI fun i j => i - j) (eVar 6) (eC (.int 1)))) (eBin (gI fun i j => i - j) (eBin gIx (eVar 4) (eBin (gI fun i j => i - j) (eVar 6) (eC (.int 1)))) (eBin gIx (eVar 2) (eBin (gI fun i j => i - j) (eVar 6) (eC (.int 1))))))) sSkip) f__law_moved_1)
def t__law_moved_2 (K : PySem.W.Frag) : TS := (tSeq (tIfS (tOr (tTest (tOp (rEqX K) (tOp (rIx K) (tVar 0) (tC (.int 0))) (tC (.str "ring")))) (tTest (tOp (rI0 fun i j => .bl (decide (j < i))) (tVar 6) (tC (.int 0))))) (tDrop (tBM K "list" rAppend (tVar 8) (tCons (tIf (tTest (tOp (rEqX K) (tVar 3) (tC (.str "forth")))) (tOp (rIx K) (tVar 2) (tOp (rI0 fun i j => .int (i - j)) (tVar 6) (tC (.int 1)))) (tOp (rI0 fun i j => .int (i - j)) (tOp (rIx K) (tVar 4) (tOp (rI0 fun i j => .int (i - j)) (tVar 6) (tC (.int 1)))) (tOp (rIx K) (tVar 2) (tOp (rI0 fun i j => .int (i - j)) (tVar 6) (tC (.int 1)))))) tNil))) tNext) (t__law_moved_1 K))
theorem s__law_moved_2 (K : PySem.W.Frag) : SndS K (t__law_moved_2 K) 0 f__law_moved_2 := by
  unfold f__law_moved_2
  exact (snds_seq (snds_if (sndt_or (sndt_test (snd_op ops_eq (snd_op ops_ix snd_var snd_int) snd_str)) (sndt_test (snd_op ops_C snd_var snd_int))) (snds_app (snd_if (sndt_test (snd_op ops_eq snd_var snd_str)) (snd_op ops_ix snd_var (snd_op ops_I snd_var snd_int)) (snd_op ops_I (snd_op ops_ix snd_var (snd_op ops_I snd_var snd_int)) (snd_op ops_ix snd_var (snd_op ops_I snd_var snd_int))))) snds_nil) (s__law_moved_1 K))
@[irreducible] def f__law_moved_3 : FS := (sRetO 5)
def t__law_moved_3 (K : PySem.W.Frag) : TS := (tRet (tVar 5))
theorem s__law_moved_3 (K : PySem.W.Frag) : SndS K (t__law_moved_3 K) 0 f__law_moved_3 := by
  unfold f__law_moved_3
  exact snds_retO
@[irreducible] def f__law_moved_4 : FS := (sSeq (sFor 1000000 (fEnum (eVar 1)) (gT (gsCons (gN 6) (gsCons (gN 7) gsNil))) (sSeq (sOwn (fIf (fTest (eBin gIs (eVar 7) (eC .none))) dNil (dCons (eVar 7) dNil)) 8) f__law_moved_2)) f__law_moved_3)
def t__law_moved_4 (K : PySem.W.Frag) : TS := (tSeq (tFor (Pw.iEnumX K (tCons (tVar 1) tNil)) (fun v σ H Q => gTup K 2 (gCons (gName 6) (gCons (gName 7) gNil)) v σ H Q ∨ gLst K 2 (gCons (gName 6) (gCons (gName 7) gNil)) v σ H Q) (tSeq (tAsg (tIf (tTest (tOp (fun x y H Q => y = .non ∧ Q (.bl (decide (x = .non))) H) (tVar 7) (tC .non))) (tLst tNil) (tLst (tCons (tVar 7) tNil))) (gName 8)) (t__law_moved_2 K))) (t__law_moved_3 K))
theorem s__law_moved_4 (K : PySem.W.Frag) : SndS K (t__law_moved_4 K) 0 f__law_moved_4 := by
  unfold f__law_moved_4
  exact (snds_seq (snds_for (vs := [6, 7]) (N := 1000000) (sndi_enum snd_var) (sndg_tup (sndgs_cons (sndg_name (by decide)) (sndgs_cons (sndg_name (by decide)) sndgs_nil)) (gs_lenS gN_some (gs_lenS gN_some gs_len0))) (snds_seq (snds_own (sndl_if (sndt_test (snd_op ops_is snd_var snd_non)) (sndl_lst sndd_nil (by decide)) (sndl_lst (sndd_cons snd_var sndd_nil) (by decide)))) (s__law_moved_2 K))) (s__law_moved_3 K))
def f__law_moved : FS := (sSeq (sParP 4 5 (eBin gIx (eVar 0) (eC (.int 1))) dNil) f__law_moved_4)
@[irreducible] def F__law_moved : FF := mkF 4 9 f__law_moved
@[irreducible] def L__law_moved : FFL := mkL 4 9 f__law_moved
def t__law_moved (K : PySem.W.Frag) : TS := (tSeq (tPar 4 5 (tCons (tOp (rIx K) (tVar 0) (tC (.int 1))) (tCons (tLst tNil) tNil))) (t__law_moved_4 K))
theorem s__law_moved (K : PySem.W.Frag) : SndS K (t__law_moved K) 0 f__law_moved := (snds_seq (snds_parP (snd_op ops_ix snd_var snd_int) (sndl_lst sndd_nil (by decide))) (s__law_moved_4 K))
theorem m__law_moved (K : PySem.W.Frag) : MonoF F__law_moved := by
  unfold F__law_moved
  exact mkF_mono (s__law_moved K)
theorem mL__law_moved (K : PySem.W.Frag) : MonoL L__law_moved := by
  unfold L__law_moved
  exact mkL_mono (s__law_moved K)
@[irreducible] def f__law_gone_0 : FS := (sAsg (eL (fComp 1000000 (fZip (eVar 6) (eVar 8)) [9, 10] (gT (gsCons (gN 9) (gsCons (gN 10) gsNil))) fYes (eBin gAdd (eVar 9) (eVar 10)))) (gN 6))
def t__law_gone_0 (K : PySem.W.Frag) : TS := (tAsg (tLc (Pw.iZipX K (tCons (tVar 6) (tCons (tVar 8) tNil))) (fun v σ H Q => gTup K 2 (gCons (gName 9) (gCons (gName 10) gNil)) v σ H Q ∨ gLst K 2 (gCons (gName 9) (gCons (gName 10) gNil)) v σ H Q) tYes (tOp (rAdd K) (tVar 9) (tVar 10)) [9, 10]) (gName 6))
theorem s__law_gone_0 (K : PySem.W.Frag) : SndS K (t__law_gone_0 K) 0 f__law_gone_0 := by
  unfold f__law_gone_0
  exact (snds_asg (vs := [6]) (SndL.d (sndl_comp (N := 1000000) (by decide) (sndi_zip (Snd.v snd_var) (Snd.v snd_var)) (sndg_tup (sndgs_cons (sndg_name (by decide)) (sndgs_cons (sndg_name (by decide)) sndgs_nil)) (gs_lenS gN_some (gs_lenS gN_some gs_len0))) sndt_yes (snd_op ops_add snd_var snd_var))) (sndg_name (by decide)))
@[irreducible] def f__law_gone_1 : FS := (sSeq (sAsg (eUn tupD (eL (fComp 1000000 (fEnum (eVar 2)) [11, 9] (gT (gsCons (gN 11) (gsCons (gN 9) gsNil))) fYes (eBin (gI fun i j => i - j) (eBin gAdd (eVar 9) (eBin gIx (eVar 8) (eVar 11))) (eBin gIx (eVar 8) (eBin (gIc (fun _ j => 0 < j) fun i j => i % j) (eBin gAdd (eVar 11) (eC (.int 1))) (eCB (g1 lenD) (dCons (eVar 8) dNil)))))))) (gN 2)) f__law_gone_0)
def t__law_gone_1 (K : PySem.W.Frag) : TS := (tSeq (tAsg (tThen (tLc (Pw.iEnumX K (tCons (tVar 2) tNil)) (fun v σ H Q => gTup K 2 (gCons (gName 11) (gCons (gName 9) gNil)) v σ H Q ∨ gLst K 2 (gCons (gName 11) (gCons (gName 9) gNil)) v σ H Q) tYes (tOp (rI0 fun i j => .int (i - j)) (tOp (rAdd K) (tVar 9) (tOp (rIx K) (tVar 8) (tVar 11))) (tOp (rIx K) (tVar 8) (tOp (rI (fun _ j => 0 < j) fun i j => .int (i % j)) (tOp (rAdd K) (tVar 11) (tC (.int 1))) (tCB (fun xs H Q => ∃ x n, xs = [x] ∧ LenV K x H n ∧ Q (.int n) H) (tCons (tVar 8) tNil))))) [11, 9]) (kTup K)) (gName 2)) (t__law_gone_0 K))
theorem s__law_gone_1 (K : PySem.W.Frag) : SndS K (t__law_gone_1 K) 0 f__law_gone_1 := by
  unfold f__law_gone_1
  exact (snds_seq (snds_asg (vs := [2]) (snd_tupOf (SndL.d (sndl_comp (N := 1000000) (by decide) (sndi_enum (Snd.v snd_var)) (sndg_tup (sndgs_cons (sndg_name (by decide)) (sndgs_cons (sndg_name (by decide)) sndgs_nil)) (gs_lenS gN_some (gs_lenS gN_some gs_len0))) sndt_yes (snd_op ops_I (snd_op ops_add snd_var (snd_op ops_ix snd_var snd_var)) (snd_op ops_ix snd_var (snd_op ops_Ic (snd_op ops_add snd_var snd_int) (snd_cb cs_len (sndd_cons snd_var sndd_nil)))))))) (sndg_name (by decide))) (s__law_gone_0 K))
@[irreducible] def f__law_gone_2 : FS := (sRet (eTup (dCons (eVar 2) (dCons (eUn tupD (eVar 6)) dNil))))
def t__law_gone_2 (K : PySem.W.Frag) : TS := (tRet (tTup (tCons (tVar 2) (tCons (tThen (tVar 6) (kTup K)) tNil))))
theorem s__law_gone_2 (K : PySem.W.Frag) : SndS K (t__law_gone_2 K) 0 f__law_gone_2 := by
  unfold f__law_gone_2
  exact (snds_ret (snd_tup (sndd_cons snd_var (sndd_cons (snd_tupOf snd_var) sndd_nil)) (by decide)))
@[irreducible] def f__law_gone_3 : FS := (sSeq (sFor 1000000 (fRange1 (eVar 4)) (gN 7) (sSeq (sAsg (eL (fComp 1000000 (fIt (eCall F__law_moved (aCons (eVar 0) (aCons (eVar 1) (aCons (eVar 2) (aCons (eVar 3) aNil)))))) [9] (gN 9) fYes (eBin gMul (eVar 5) (eVar 9)))) (gN 8)) f__law_gone_1)) f__law_gone_2)
def t__law_gone_3 (K : PySem.W.Frag) : TS := (tSeq (tFor (iRng1 (tCons (tVar 4) tNil)) (gName 7) (tSeq (tAsg (tLc (Pw.iSeq K (tCallG (spD K 0 F__law_moved) (tCons (tVar 0) (tCons (tVar 1) (tCons (tVar 2) (tCons (tVar 3) tNil)))))) (gName 9) tYes (tOp (rMul K) (tVar 5) (tVar 9)) [9]) (gName 8)) (t__law_gone_1 K))) (t__law_gone_2 K))
theorem s__law_gone_3 (K : PySem.W.Frag) : SndS K (t__law_gone_3 K) 0 f__law_gone_3 := by
  unfold f__law_gone_3
  exact (snds_seq (snds_for (vs := [7]) (N := 1000000) (sndi_range1 snd_var) (sndg_name (by decide)) (snds_seq (snds_asg (vs := [8]) (SndL.d (sndl_comp (N := 1000000) (by decide) (sndi_seq (Snd.v (snd_call (m__law_moved K) (snda_cons snd_var (snda_cons snd_var (snda_cons snd_var (snda_cons snd_var snda_nil))))))) (sndg_name (by decide)) sndt_yes (snd_op ops_mul snd_var snd_var))) (sndg_name (by decide))) (s__law_gone_1 K))) (s__law_gone_2 K))
def f__law_gone : FS := (sSeq (sAsg (eTup (dCons (eIf (fTest (eBin gEq (eVar 3) (eC (.str "forth")))) (eC (.int 1)) (eUn negD (eC (.int 1)))) (dCons (eBin gMul (eLst (dCons (eC (.int 0)) dNil)) (eCB (g1 lenD) (dCons (eVar 1) dNil))) dNil))) (gT (gsCons (gN 5) (gsCons (gN 6) gsNil)))) f__law_gone_3)
@[irreducible] def F__law_gone : FF := mkF 5 12 f__law_gone
def t__law_gone (K : PySem.W.Frag) : TS := (tSeq (tAsg (tTup (tCons (tIf (tTest (tOp (rEqX K) (tVar 3) (tC (.str "forth")))) (tC (.int 1)) (tUn (rU fun i => .int (-i)) (tC (.int 1)))) (tCons (tOp (rMul K) (tLst (tCons (tC (.int 0)) tNil)) (tCB (fun xs H Q => ∃ x n, xs = [x] ∧ LenV K x H n ∧ Q (.int n) H) (tCons (tVar 1) tNil))) tNil))) (fun v σ H Q => gTup K 2 (gCons (gName 5) (gCons (gName 6) gNil)) v σ H Q ∨ gLst K 2 (gCons (gName 5) (gCons (gName 6) gNil)) v σ H Q)) (t__law_gone_3 K))
theorem s__law_gone (K : PySem.W.Frag) : SndS K (t__law_gone K) 0 f__law_gone := (snds_seq (snds_asg (vs := [5, 6]) (snd_tup (sndd_cons (snd_if (sndt_test (snd_op ops_eq snd_var snd_str)) snd_int (snd_un us_neg snd_int)) (sndd_cons (snd_op ops_mul (SndL.d (sndl_lst (sndd_cons snd_int sndd_nil) (by decide))) (snd_cb cs_len (sndd_cons snd_var sndd_nil))) sndd_nil)) (by decide)) (sndg_tup (sndgs_cons (sndg_name (by decide)) (sndgs_cons (sndg_name (by decide)) sndgs_nil)) (gs_lenS gN_some (gs_lenS gN_some gs_len0)))) (s__law_gone_3 K))
theorem m__law_gone (K : PySem.W.Frag) : MonoF F__law_gone := by
  unfold F__law_gone
  exact mkF_mono (s__law_gone K)
end Ke
namespace Dv
open PySem PySem.Spec PyProof.Rows L2 Xg
section
variable {K : PySem.W.Frag}
theorem un65 {k : Nat} {A : Around} (r : Room k A) : A.units + 65 < cLine := by
  have := r.un
  omega
/-! x in l, x not in l -/
abbrev gIn : GB
  | d, .list ds, Q => SeqAt.shaped d = true ∧ SeqAt.shaped (.list ds) = true ∧ Q (.bool (ds.any fun z => PyData.eqv z d))
  | _, _, _ => False
abbrev gNotIn : GB
  | d, .list ds, Q => SeqAt.shaped d = true ∧ SeqAt.shaped (.list ds) = true ∧ Q (.bool (!ds.any fun z => PyData.eqv z d))
  | _, _, _ => False
theorem ops_in : OpSnd K (rInD K) gIn := ⟨fun x y P P' h q => by
    cases y <;> first | exact ⟨q.1, q.2.1, h _ q.2.2⟩ | exact q.elim, fun {b S H x y dx dy Q P} al hx hy q k => by
    cases dy <;> first | exact q.elim | skip
    exact ⟨_, _, hx.dp, hy.dp, q.1, q.2.1, k _ _ _ q.2.2 (Evl.Ex.refl _) (.bl _)⟩⟩
theorem ops_notIn : OpSnd K (rNotInD K) gNotIn := ⟨fun x y P P' h q => by
    cases y <;> first | exact ⟨q.1, q.2.1, h _ q.2.2⟩ | exact q.elim, fun {b S H x y dx dy Q P} al hx hy q k => by
    cases dy <;> first | exact q.elim | skip
    exact ⟨_, _, hx.dp, hy.dp, q.1, q.2.1, k _ _ _ q.2.2 (Evl.Ex.refl _) (.bl _)⟩⟩
end
end Dv

namespace Ke
open PySem PySem.Spec PyProof.Rows L2 Xg Dv Kd
def f__law_summed : FS := (sRet (eUn tupD (eL (fComp 1000000 (fZip (eVar 0) (eVar 1)) [2, 3] (gT (gsCons (gN 2) (gsCons (gN 3) gsNil))) fYes (eBin gAdd (eVar 2) (eVar 3))))))
@[irreducible] def F__law_summed : FF := mkF 2 4 f__law_summed
def t__law_summed (K : PySem.W.Frag) : TS := (tRet (tThen (tLc (Pw.iZipX K (tCons (tVar 0) (tCons (tVar 1) tNil))) (fun v σ H Q => gTup K 2 (gCons (gName 2) (gCons (gName 3) gNil)) v σ H Q ∨ gLst K 2 (gCons (gName 2) (gCons (gName 3) gNil)) v σ H Q) tYes (tOp (rAdd K) (tVar 2) (tVar 3)) [2, 3]) (kTup K)))
theorem s__law_summed (K : PySem.W.Frag) : SndS K (t__law_summed K) 0 f__law_summed := (snds_ret (snd_tupOf (SndL.d (sndl_comp (N := 1000000) (by decide) (sndi_zip (Snd.v snd_var) (Snd.v snd_var)) (sndg_tup (sndgs_cons (sndg_name (by decide)) (sndgs_cons (sndg_name (by decide)) sndgs_nil)) (gs_lenS gN_some (gs_lenS gN_some gs_len0))) sndt_yes (snd_op ops_add snd_var snd_var)))))
theorem m__law_summed (K : PySem.W.Frag) : MonoF F__law_summed := by
  unfold F__law_summed
  exact mkF_mono (s__law_summed K)
end Ke
namespace Ke
open PySem PySem.Spec PyProof.Rows L2 Xg Dv Kd
@[irreducible] def f__law_right_0 : FS := (sIf (fTest (eBin gIn (eC (.bool false)) (eVar 16))) (sRet (eC (.bool false))) sSkip)
def t__law_right_0 (K : PySem.W.Frag) : TS := (tIfS (tTest (tOp (rInD K) (tC (.bl false)) (tVar 16))) (tRet (tC (.bl false))) tNext)
theorem s__law_right_0 (K : PySem.W.Frag) : SndS K (t__law_right_0 K) 0 f__law_right_0 := by
  unfold f__law_right_0
  exact (snds_if (sndt_test (snd_op ops_in snd_bl snd_var)) (snds_ret snd_bl) snds_nil)
@[irreducible] def f__law_right_1 : FS := (sSeq (sAsg (eL (fComp 1000000 (fIt (eBin gAdd (eBin gAdd (eVar 10) (eVar 12)) (eVar 15))) [17] (gN 17) fYes (eIf (fTest (eBin gEq (eVar 5) (eC (.str "forth")))) (eBin (gC fun i j => decide (j ≤ i)) (eVar 17) (eC (.int 0))) (eBin (gC fun i j => decide (i ≤ j)) (eVar 17) (eC (.int 0)))))) (gN 16)) f__law_right_0)
def t__law_right_1 (K : PySem.W.Frag) : TS := (tSeq (tAsg (tLc (Pw.iSeq K (tOp (rAdd K) (tOp (rAdd K) (tVar 10) (tVar 12)) (tVar 15))) (gName 17) tYes (tIf (tTest (tOp (rEqX K) (tVar 5) (tC (.str "forth")))) (tOp (rI0 fun i j => .bl (decide (j ≤ i))) (tVar 17) (tC (.int 0))) (tOp (rI0 fun i j => .bl (decide (i ≤ j))) (tVar 17) (tC (.int 0)))) [17]) (gName 16)) (t__law_right_0 K))
theorem s__law_right_1 (K : PySem.W.Frag) : SndS K (t__law_right_1 K) 0 f__law_right_1 := by
  unfold f__law_right_1
  exact (snds_seq (snds_asg (vs := [16]) (SndL.d (sndl_comp (N := 1000000) (by decide) (sndi_seq (Snd.v (snd_op ops_add (snd_op ops_add snd_var snd_var) snd_var))) (sndg_name (by decide)) sndt_yes (snd_if (sndt_test (snd_op ops_eq snd_var snd_str)) (snd_op ops_C snd_var snd_int) (snd_op ops_C snd_var snd_int)))) (sndg_name (by decide))) (s__law_right_0 K))
@[irreducible] def f__law_right_2 : FS := (sSeq (sIf (fNot (fTest (eCall F_same (aCons (eVar 13) (aCons (eLst (dCons (eVar 14) (dCons (eCall F__law_summed (aCons (eCall F__law_summed (aCons (eVar 10) (aCons (eVar 12) aNil))) (aCons (eVar 15) aNil))) dNil))) aNil))))) (sRet (eC (.bool false))) sSkip) f__law_right_1)
def t__law_right_2 (K : PySem.W.Frag) : TS := (tSeq (tIfS (tNot (tB (tCallG (spD K 0 F_same) (tCons (tVar 13) (tCons (tLst (tCons (tVar 14) (tCons (tCallG (spD K 0 F__law_summed) (tCons (tCallG (spD K 0 F__law_summed) (tCons (tVar 10) (tCons (tVar 12) tNil))) (tCons (tVar 15) tNil))) tNil))) tNil))))) (tRet (tC (.bl false))) tNext) (t__law_right_1 K))
theorem s__law_right_2 (K : PySem.W.Frag) : SndS K (t__law_right_2 K) 0 f__law_right_2 := by
  unfold f__law_right_2
  exact (snds_seq (snds_if (sndt_not (sndt_B (snd_call m_same (snda_cons snd_var (snda_cons (SndL.d (sndl_lst (sndd_cons snd_var (sndd_cons (snd_call (m__law_summed K) (snda_cons (snd_call (m__law_summed K) (snda_cons snd_var (snda_cons snd_var snda_nil))) (snda_cons snd_var snda_nil))) sndd_nil)) (by decide))) snda_nil))))) (snds_ret snd_bl) snds_nil) (s__law_right_1 K))
@[irreducible] def f__law_right_3 : FS := (sSeq (sAsg (eLst (dCons (eCall F_far (aCons (eVar 2) (aCons (eVar 3) (aCons (eVar 4) (aCons (eVar 5) (aCons (eBin gAdd (eBin gAdd (eVar 7) (eVar 8)) (eC (.int 1))) aNil)))))) (dCons (eCall F_counts (aCons (eVar 2) (aCons (eVar 3) (aCons (eVar 4) (aCons (eVar 5) (aCons (eBin gAdd (eBin gAdd (eVar 7) (eVar 8)) (eC (.int 1))) aNil)))))) dNil))) (gN 13)) f__law_right_2)
def t__law_right_3 (K : PySem.W.Frag) : TS := (tSeq (tAsg (tLst (tCons (tCallG (spD K 0 F_far) (tCons (tVar 2) (tCons (tVar 3) (tCons (tVar 4) (tCons (tVar 5) (tCons (tOp (rAdd K) (tOp (rAdd K) (tVar 7) (tVar 8)) (tC (.int 1))) tNil)))))) (tCons (tCallG (spD K 0 F_counts) (tCons (tVar 2) (tCons (tVar 3) (tCons (tVar 4) (tCons (tVar 5) (tCons (tOp (rAdd K) (tOp (rAdd K) (tVar 7) (tVar 8)) (tC (.int 1))) tNil)))))) tNil))) (gName 13)) (t__law_right_2 K))
theorem s__law_right_3 (K : PySem.W.Frag) : SndS K (t__law_right_3 K) 0 f__law_right_3 := by
  unfold f__law_right_3
  exact (snds_seq (snds_asg (vs := [13]) (SndL.d (sndl_lst (sndd_cons (snd_call (m_far K) (snda_cons snd_var (snda_cons snd_var (snda_cons snd_var (snda_cons snd_var (snda_cons (snd_op ops_add (snd_op ops_add snd_var snd_var) snd_int) snda_nil)))))) (sndd_cons (snd_call (m_counts K) (snda_cons snd_var (snda_cons snd_var (snda_cons snd_var (snda_cons snd_var (snda_cons (snd_op ops_add (snd_op ops_add snd_var snd_var) snd_int) snda_nil)))))) sndd_nil)) (by decide))) (sndg_name (by decide))) (s__law_right_2 K))
@[irreducible] def f__law_right_4 : FS := (sSeq (sAsg (eCall F__law_gone (aCons (eVar 2) (aCons (eVar 3) (aCons (eVar 11) (aCons (eVar 5) (aCons (eC (.int 1)) aNil)))))) (gT (gsCons (gN 14) (gsCons (gN 15) gsNil)))) f__law_right_3)
def t__law_right_4 (K : PySem.W.Frag) : TS := (tSeq (tAsg (tCallG (spD K 0 F__law_gone) (tCons (tVar 2) (tCons (tVar 3) (tCons (tVar 11) (tCons (tVar 5) (tCons (tC (.int 1)) tNil)))))) (fun v σ H Q => gTup K 2 (gCons (gName 14) (gCons (gName 15) gNil)) v σ H Q ∨ gLst K 2 (gCons (gName 14) (gCons (gName 15) gNil)) v σ H Q)) (t__law_right_3 K))
theorem s__law_right_4 (K : PySem.W.Frag) : SndS K (t__law_right_4 K) 0 f__law_right_4 := by
  unfold f__law_right_4
  exact (snds_seq (snds_asg (vs := [14, 15]) (snd_call (m__law_gone K) (snda_cons snd_var (snda_cons snd_var (snda_cons snd_var (snda_cons snd_var (snda_cons snd_int snda_nil)))))) (sndg_tup (sndgs_cons (sndg_name (by decide)) (sndgs_cons (sndg_name (by decide)) sndgs_nil)) (gs_lenS gN_some (gs_lenS gN_some gs_len0)))) (s__law_right_3 K))
@[irreducible] def f__law_right_5 : FS := (sSeq (sIf (fTest (eBin gNe (eCall F_far (aCons (eVar 2) (aCons (eVar 3) (aCons (eCall F_far (aCons (eVar 2) (aCons (eVar 3) (aCons (eVar 4) (aCons (eVar 5) (aCons (eVar 8) aNil)))))) (aCons (eVar 5) (aCons (eVar 7) aNil)))))) (eVar 11))) (sRet (eC (.bool false))) sSkip) f__law_right_4)
def t__law_right_5 (K : PySem.W.Frag) : TS := (tSeq (tIfS (tTest (tOp (rNeX K) (tCallG (spD K 0 F_far) (tCons (tVar 2) (tCons (tVar 3) (tCons (tCallG (spD K 0 F_far) (tCons (tVar 2) (tCons (tVar 3) (tCons (tVar 4) (tCons (tVar 5) (tCons (tVar 8) tNil)))))) (tCons (tVar 5) (tCons (tVar 7) tNil)))))) (tVar 11))) (tRet (tC (.bl false))) tNext) (t__law_right_4 K))
theorem s__law_right_5 (K : PySem.W.Frag) : SndS K (t__law_right_5 K) 0 f__law_right_5 := by
  unfold f__law_right_5
  exact (snds_seq (snds_if (sndt_test (snd_op ops_ne (snd_call (m_far K) (snda_cons snd_var (snda_cons snd_var (snda_cons (snd_call (m_far K) (snda_cons snd_var (snda_cons snd_var (snda_cons snd_var (snda_cons snd_var (snda_cons snd_var snda_nil)))))) (snda_cons snd_var (snda_cons snd_var snda_nil)))))) snd_var)) (snds_ret snd_bl) snds_nil) (s__law_right_4 K))
@[irreducible] def f__law_right_6 : FS := (sSeq (sIf (fNot (fTest (eCall F_same (aCons (eVar 13) (aCons (eLst (dCons (eVar 11) (dCons (eCall F__law_summed (aCons (eVar 10) (aCons (eVar 12) aNil))) dNil))) aNil))))) (sRet (eC (.bool false))) sSkip) f__law_right_5)
def t__law_right_6 (K : PySem.W.Frag) : TS := (tSeq (tIfS (tNot (tB (tCallG (spD K 0 F_same) (tCons (tVar 13) (tCons (tLst (tCons (tVar 11) (tCons (tCallG (spD K 0 F__law_summed) (tCons (tVar 10) (tCons (tVar 12) tNil))) tNil))) tNil))))) (tRet (tC (.bl false))) tNext) (t__law_right_5 K))
theorem s__law_right_6 (K : PySem.W.Frag) : SndS K (t__law_right_6 K) 0 f__law_right_6 := by
  unfold f__law_right_6
  exact (snds_seq (snds_if (sndt_not (sndt_B (snd_call m_same (snda_cons snd_var (snda_cons (SndL.d (sndl_lst (sndd_cons snd_var (sndd_cons (snd_call (m__law_summed K) (snda_cons snd_var (snda_cons snd_var snda_nil))) sndd_nil)) (by decide))) snda_nil))))) (snds_ret snd_bl) snds_nil) (s__law_right_5 K))
@[irreducible] def f__law_right_7 : FS := (sSeq (sAsg (eLst (dCons (eCall F_far (aCons (eVar 2) (aCons (eVar 3) (aCons (eVar 4) (aCons (eVar 5) (aCons (eBin gAdd (eVar 7) (eVar 8)) aNil)))))) (dCons (eCall F_counts (aCons (eVar 2) (aCons (eVar 3) (aCons (eVar 4) (aCons (eVar 5) (aCons (eBin gAdd (eVar 7) (eVar 8)) aNil)))))) dNil))) (gN 13)) f__law_right_6)
def t__law_right_7 (K : PySem.W.Frag) : TS := (tSeq (tAsg (tLst (tCons (tCallG (spD K 0 F_far) (tCons (tVar 2) (tCons (tVar 3) (tCons (tVar 4) (tCons (tVar 5) (tCons (tOp (rAdd K) (tVar 7) (tVar 8)) tNil)))))) (tCons (tCallG (spD K 0 F_counts) (tCons (tVar 2) (tCons (tVar 3) (tCons (tVar 4) (tCons (tVar 5) (tCons (tOp (rAdd K) (tVar 7) (tVar 8)) tNil)))))) tNil))) (gName 13)) (t__law_right_6 K))
theorem s__law_right_7 (K : PySem.W.Frag) : SndS K (t__law_right_7 K) 0 f__law_right_7 := by
  unfold f__law_right_7
  exact (snds_seq (snds_asg (vs := [13]) (SndL.d (sndl_lst (sndd_cons (snd_call (m_far K) (snda_cons snd_var (snda_cons snd_var (snda_cons snd_var (snda_cons snd_var (snda_cons (snd_op ops_add snd_var snd_var) snda_nil)))))) (sndd_cons (snd_call (m_counts K) (snda_cons snd_var (snda_cons snd_var (snda_cons snd_var (snda_cons snd_var (snda_cons (snd_op ops_add snd_var snd_var) snda_nil)))))) sndd_nil)) (by decide))) (sndg_name (by decide))) (s__law_right_6 K))
@[irreducible] def f__law_right_8 : FS := (sSeq (sPar 11 12 (eCall F_far (aCons (eVar 2) (aCons (eVar 3) (aCons (eVar 9) (aCons (eVar 5) (aCons (eVar 8) aNil)))))) (eCall F_counts (aCons (eVar 2) (aCons (eVar 3) (aCons (eVar 9) (aCons (eVar 5) (aCons (eVar 8) aNil))))))) f__law_right_7)
def t__law_right_8 (K : PySem.W.Frag) : TS := (tSeq (tPar 11 12 (tCons (tCallG (spD K 0 F_far) (tCons (tVar 2) (tCons (tVar 3) (tCons (tVar 9) (tCons (tVar 5) (tCons (tVar 8) tNil)))))) (tCons (tCallG (spD K 0 F_counts) (tCons (tVar 2) (tCons (tVar 3) (tCons (tVar 9) (tCons (tVar 5) (tCons (tVar 8) tNil)))))) tNil))) (t__law_right_7 K))
theorem s__law_right_8 (K : PySem.W.Frag) : SndS K (t__law_right_8 K) 0 f__law_right_8 := by
  unfold f__law_right_8
  exact (snds_seq (snds_par (snd_call (m_far K) (snda_cons snd_var (snda_cons snd_var (snda_cons snd_var (snda_cons snd_var (snda_cons snd_var snda_nil)))))) (snd_call (m_counts K) (snda_cons snd_var (snda_cons snd_var (snda_cons snd_var (snda_cons snd_var (snda_cons snd_var snda_nil))))))) (s__law_right_7 K))
@[irreducible] def f__law_right_9 : FS := (sSeq (sPar 9 10 (eCall F_far (aCons (eVar 2) (aCons (eVar 3) (aCons (eVar 4) (aCons (eVar 5) (aCons (eVar 7) aNil)))))) (eCall F_counts (aCons (eVar 2) (aCons (eVar 3) (aCons (eVar 4) (aCons (eVar 5) (aCons (eVar 7) aNil))))))) f__law_right_8)
def t__law_right_9 (K : PySem.W.Frag) : TS := (tSeq (tPar 9 10 (tCons (tCallG (spD K 0 F_far) (tCons (tVar 2) (tCons (tVar 3) (tCons (tVar 4) (tCons (tVar 5) (tCons (tVar 7) tNil)))))) (tCons (tCallG (spD K 0 F_counts) (tCons (tVar 2) (tCons (tVar 3) (tCons (tVar 4) (tCons (tVar 5) (tCons (tVar 7) tNil)))))) tNil))) (t__law_right_8 K))
theorem s__law_right_9 (K : PySem.W.Frag) : SndS K (t__law_right_9 K) 0 f__law_right_9 := by
  unfold f__law_right_9
  exact (snds_seq (snds_par (snd_call (m_far K) (snda_cons snd_var (snda_cons snd_var (snda_cons snd_var (snda_cons snd_var (snda_cons snd_var snda_nil)))))) (snd_call (m_counts K) (snda_cons snd_var (snda_cons snd_var (snda_cons snd_var (snda_cons snd_var (snda_cons snd_var snda_nil))))))) (s__law_right_8 K))
@[irreducible] def f__law_right_10 : FS := (sSeq (sPar 7 8 (eCall F_take (aBox 0 (aCons (eVar 6) aNil))) (eCall F_take (aBox 0 (aCons (eVar 6) aNil)))) f__law_right_9)
def t__law_right_10 (K : PySem.W.Frag) : TS := (tSeq (tPar 7 8 (tCons (tCallG (spD K 1 F_take) (tCons (tVar 0) (tCons (tVar 6) tNil))) (tCons (tCallG (spD K 1 F_take) (tCons (tVar 0) (tCons (tVar 6) tNil))) tNil))) (t__law_right_9 K))
theorem s__law_right_10 (K : PySem.W.Frag) : SndS K (t__law_right_10 K) 2 f__law_right_10 := by
  unfold f__law_right_10
  exact (snds_seq (snds_par (snd_call m_take (snda_box (snda_cons snd_var snda_nil))) (snd_call m_take (snda_box (snda_cons snd_var snda_nil)))) (s__law_right_9 K))
@[irreducible] def f__law_right_11 : FS := (sSeq (sAsg (eTup (dCons (eBin gIx (eLst (dCons (eC (.str "forth")) (dCons (eC (.str "back")) dNil))) (eCall F_take (aBox 0 (aCons (eC (.int 2)) aNil)))) (dCons (eCall F__law_pick (aBox 0 (aCons (eLst (dCons (eC (.int 99)) (dCons (eBin (gIc CPow fun i j => i ^ j.toNat) (eC (.int 10)) (eC (.int 7))) (dCons (eBin gMul (eC (.int 5)) (eBin (gIc CPow fun i j => i ^ j.toNat) (eC (.int 10)) (eC (.int 11)))) dNil)))) aNil))) dNil))) (gT (gsCons (gN 5) (gsCons (gN 6) gsNil)))) f__law_right_10)
def t__law_right_11 (K : PySem.W.Frag) : TS := (tSeq (tAsg (tTup (tCons (tOp (rIx K) (tLst (tCons (tC (.str "forth")) (tCons (tC (.str "back")) tNil))) (tCallG (spD K 1 F_take) (tCons (tVar 0) (tCons (tC (.int 2)) tNil)))) (tCons (tCallG (spD K 1 F__law_pick) (tCons (tVar 0) (tCons (tLst (tCons (tC (.int 99)) (tCons (tOp (rI CPow fun i j => .int (i ^ j.toNat)) (tC (.int 10)) (tC (.int 7))) (tCons (tOp (rMul K) (tC (.int 5)) (tOp (rI CPow fun i j => .int (i ^ j.toNat)) (tC (.int 10)) (tC (.int 11)))) tNil)))) tNil))) tNil))) (fun v σ H Q => gTup K 2 (gCons (gName 5) (gCons (gName 6) gNil)) v σ H Q ∨ gLst K 2 (gCons (gName 5) (gCons (gName 6) gNil)) v σ H Q)) (t__law_right_10 K))
theorem s__law_right_11 (K : PySem.W.Frag) : SndS K (t__law_right_11 K) 4 f__law_right_11 := by
  unfold f__law_right_11
  exact (snds_seq (snds_asg (vs := [5, 6]) (snd_tup (sndd_cons (snd_op ops_ix (SndL.d (sndl_lst (sndd_cons snd_str (sndd_cons snd_str sndd_nil)) (by decide))) (snd_call m_take (snda_box (snda_cons snd_int snda_nil)))) (sndd_cons (snd_call (m__law_pick K) (snda_box (snda_cons (SndL.d (sndl_lst (sndd_cons snd_int (sndd_cons (snd_op ops_Ic snd_int snd_int) (sndd_cons (snd_op ops_mul snd_int (snd_op ops_Ic snd_int snd_int)) sndd_nil))) (by decide))) snda_nil))) sndd_nil)) (by decide)) (sndg_tup (sndgs_cons (sndg_name (by decide)) (sndgs_cons (sndg_name (by decide)) sndgs_nil)) (gs_lenS gN_some (gs_lenS gN_some gs_len0)))) (s__law_right_10 K))
@[irreducible] def f__law_right_12 : FS := (sSeq (sPar 3 4 (eCall F__law_widths (aBox 0 (aCons (eVar 2) (aCons (eCall F__law_pick (aBox 0 (aCons (eLst (dCons (eC (.int 3)) (dCons (eBin (gIc CPow fun i j => i ^ j.toNat) (eC (.int 10)) (eC (.int 9))) dNil))) aNil))) aNil)))) (eCall F__law_lot (aBox 0 (aCons (eVar 2) aNil)))) f__law_right_11)
def t__law_right_12 (K : PySem.W.Frag) : TS := (tSeq (tPar 3 4 (tCons (tCallG (spD K 202 F__law_widths) (tCons (tVar 0) (tCons (tVar 2) (tCons (tCallG (spD K 1 F__law_pick) (tCons (tVar 0) (tCons (tLst (tCons (tC (.int 3)) (tCons (tOp (rI CPow fun i j => .int (i ^ j.toNat)) (tC (.int 10)) (tC (.int 9))) tNil))) tNil))) tNil)))) (tCons (tCallG (spD K 201 F__law_lot) (tCons (tVar 0) (tCons (tVar 2) tNil))) tNil))) (t__law_right_11 K))
theorem s__law_right_12 (K : PySem.W.Frag) : SndS K (t__law_right_12 K) 408 f__law_right_12 := by
  unfold f__law_right_12
  exact (snds_seq (snds_par (snd_call (m__law_widths K) (snda_box (snda_cons snd_var (snda_cons (snd_call (m__law_pick K) (snda_box (snda_cons (SndL.d (sndl_lst (sndd_cons snd_int (sndd_cons (snd_op ops_Ic snd_int snd_int) sndd_nil)) (by decide))) snda_nil))) snda_nil)))) (snd_call (m__law_lot K) (snda_box (snda_cons snd_var snda_nil)))) (s__law_right_11 K))
@[irreducible] def f__law_right_13 : FS := (sRet (eC (.bool true)))
def t__law_right_13 (K : PySem.W.Frag) : TS := (tRet (tC (.bl true)))
theorem s__law_right_13 (K : PySem.W.Frag) : SndS K (t__law_right_13 K) 0 f__law_right_13 := by
  unfold f__law_right_13
  exact (snds_ret snd_bl)
def f__law_right : FS := (sSeq (sFor 3 (fRange1 (eC (.int 3))) (gN 1) (sSeq (sAsg (eCall F__law_line (aBox 0 (aCons (eC (.int 4)) (aCons (eCall F__law_pick (aBox 0 (aCons (eLst (dCons (eC (.int 4)) (dCons (eBin (gIc CPow fun i j => i ^ j.toNat) (eC (.int 10)) (eC (.int 9))) dNil))) aNil))) aNil)))) (gN 2)) f__law_right_12)) f__law_right_13)
@[irreducible] def F__law_right : FF := mkF 1 18 f__law_right
def t__law_right (K : PySem.W.Frag) : TS := (tSeq (tFor (iRng1 (tCons (tC (.int 3)) tNil)) (gName 1) (tSeq (tAsg (tCallG (spD K 103 F__law_line) (tCons (tVar 0) (tCons (tC (.int 4)) (tCons (tCallG (spD K 1 F__law_pick) (tCons (tVar 0) (tCons (tLst (tCons (tC (.int 4)) (tCons (tOp (rI CPow fun i j => .int (i ^ j.toNat)) (tC (.int 10)) (tC (.int 9))) tNil))) tNil))) tNil)))) (gName 2)) (t__law_right_12 K))) (t__law_right_13 K))
theorem s__law_right (K : PySem.W.Frag) : SndS K (t__law_right K) 1536 f__law_right := (snds_seq (snds_for (vs := [1]) (N := 3) (sndi_range1 snd_int) (sndg_name (by decide)) (snds_seq (snds_asg (vs := [2]) (snd_call (m__law_line K) (snda_box (snda_cons snd_int (snda_cons (snd_call (m__law_pick K) (snda_box (snda_cons (SndL.d (sndl_lst (sndd_cons snd_int (sndd_cons (snd_op ops_Ic snd_int snd_int) sndd_nil)) (by decide))) snda_nil))) snda_nil)))) (sndg_name (by decide))) (s__law_right_12 K))) (s__law_right_13 K))
theorem m__law_right (K : PySem.W.Frag) : MonoF F__law_right := by
  unfold F__law_right
  exact mkF_mono (s__law_right K)
end Ke
namespace Ke
open PySem PySem.Spec PyProof.Rows L2 Xg Dv Kd
def f_law : FS := (sRet (eCB allD (dCons (eL (fComp 100 (fRange1 (eBin gAdd (eC (.int 1)) (eCB (g2 (gI fun i j => if j < i then j else i)) (dCons (eC (.int 3)) (dCons (eLenS 0) dNil))))) [1] (gN 1) fYes (eBoxC 0 (eVar 1) F__law_right))) dNil)))
@[irreducible] def F_law : FF := mkF 1 2 f_law
def t_law (K : PySem.W.Frag) : TS := (tRet (tCB (rAll K) (tCons (tLc (iRng1 (tCons (tOp (rAdd K) (tC (.int 1)) (tCB (fun xs H Q => ∃ i j, xs = [.int i, .int j] ∧ Q (.int (if j < i then j else i)) H) (tCons (tC (.int 3)) (tCons (tCB (fun xs H Q => ∃ x n, xs = [x] ∧ LenV K x H n ∧ Q (.int n) H) (tCons (tVar 0) tNil)) tNil)))) tNil)) (gName 1) tYes (tCallG (spD K 1536 F__law_right) (tCons (tCallG (spBx K) (tCons (tVar 0) (tCons (tVar 1) tNil))) tNil)) [1]) tNil)))
theorem s_law (K : PySem.W.Frag) : SndS K (t_law K) 153600 f_law := (snds_ret (snd_cb cs_all (sndd_cons (SndL.d (sndl_comp (N := 100) (by decide) (sndi_range1 (snd_op ops_add snd_int (snd_cb cs_min2 (sndd_cons snd_int (sndd_cons snd_lenS sndd_nil))))) (sndg_name (by decide)) sndt_yes (snd_boxC (m__law_right K) snd_var))) sndd_nil)))
theorem m_law (K : PySem.W.Frag) : MonoF F_law := by
  unfold F_law
  exact mkF_mono (s_law K)
end Ke
namespace Ke
open PySem PySem.Spec PyProof.Rows L2 Xg Dv Kd
structure Nm (mg : Str → Option Value) : Prop where
  abs : mg "abs" = none
  all : mg "all" = none
  bool : mg "bool" = none
  enumerate : mg "enumerate" = none
  int : mg "int" = none
  isinstance : mg "isinstance" = none
  len : mg "len" = none
  list : mg "list" = none
  min : mg "min" = none
  range : mg "range" = none
  str : mg "str" = none
  tuple : mg "tuple" = none
  zip : mg "zip" = none
end Ke
namespace Ke
open PySem PySem.Spec PyProof.Rows L2 Xg Dv Kd
section
variable {P : Program} {w : World} {K : PySem.W.Frag} {mg : Str → Option Value} {base : Heap}
theorem sc_is_number : FnScope ["thing"] ["thing"] (defScope (topS 1)) := ⟨rfl, rfl, rfl, by decide +kernel, rfl, by decide +kernel, by decide +kernel⟩
theorem ok_is_number {f : Addr} {fd : FuncData} (F : Fun K "is_number" "is_number" (topS 1) f fd) (N : Nm mg) : FnG P w K mg base 1 f fd ["thing"] (spD K 0 F_is_number) := by
  unfold F_is_number
  exact okD F sc_is_number (s_is_number K) fun cdv A outer s H hG hr => (pss_one (ps_ret (pe_and (pe_callB call_isi (by rfl) N.isinstance (by decide +kernel) (pa_cons (pv 0) (pa_cons (pe_bltn (v := .ty "int") (by rfl) N.int (by decide +kernel) rfl) pa_nil))) (pe_one (pe_not (pe_callB call_isi (by rfl) N.isinstance (by decide +kernel) (pa_cons (pv 0) (pa_cons (pe_bltn (v := .ty "bool") (by rfl) N.bool (by decide +kernel) rfl) pa_nil))))))))
end
end Ke
namespace Ke
open PySem PySem.Spec PyProof.Rows L2 Xg Dv Kd
section
variable {P : Program} {w : World} {K : PySem.W.Frag} {mg : Str → Option Value} {base : Heap}
theorem sc_gates : FnScope ["line", "form", "rooms"] ["line"] (defScope (topS 5)) := ⟨rfl, rfl, rfl, by decide +kernel, rfl, by decide +kernel, by decide +kernel⟩
theorem ok_gates {f : Addr} {fd : FuncData} (F : Fun K "gates" "gates" (topS 5) f fd) (N : Nm mg) (c_ROW : ∃ u, mg "ROW" = some u ∧ L2.RelV (.str "row") u) : FnG P w K mg base 1 f fd ["line"] (spD K 0 F_gates) := by
  unfold F_gates
  exact okD F sc_gates (s_gates K) fun cdv A outer s H hG hr => (pss_cons (ps_asg (pv 0) (pg_or (pg_tup rfl (pgs_cons (pg_name (i := 1) sc_gates.nd rfl (by first | exact .inl rfl | exact .inr rfl)) (pgs_cons (pg_name (i := 2) sc_gates.nd rfl (by first | exact .inl rfl | exact .inr rfl)) pgs_nil))) (pg_lst rfl (pgs_cons (pg_name (i := 1) sc_gates.nd rfl (by first | exact .inl rfl | exact .inr rfl)) (pgs_cons (pg_name (i := 2) sc_gates.nd rfl (by first | exact .inl rfl | exact .inr rfl)) pgs_nil))))) (pss_one (ps_ret (pe_ifExp (pt_cmpR (op_eqX hr.units) (pv 1) (pe_con (v := .str "row") (by rfl) c_ROW) (nomark _)) (pe_op op_addX (pe_callB call_len (by rfl) N.len PySem.boot_len (pa_cons (pv 2) pa_nil)) pe_int) (pe_callB call_len (by rfl) N.len PySem.boot_len (pa_cons (pv 2) pa_nil))))))
end
end Ke
namespace Ke
open PySem PySem.Spec PyProof.Rows L2 Xg Dv Kd
section
variable {P : Program} {w : World} {K : PySem.W.Frag} {mg : Str → Option Value} {base : Heap}
theorem sc_led_to : FnScope ["standing", "counts", "many", "at", "held"] ["standing", "counts"] (defScope (topS 8)) := ⟨rfl, rfl, rfl, by decide +kernel, rfl, by decide +kernel, by decide +kernel⟩
theorem ok_led_to {f : Addr} {fd : FuncData} (F : Fun K "led_to" "led_to" (topS 8) f fd) (N : Nm mg) : FnG P w K mg base 1 f fd ["standing", "counts"] (spD K 0 F_led_to) := by
  unfold F_led_to
  exact okD F sc_led_to (s_led_to K) fun cdv A outer s H hG hr => (pss_cons (ps_set (i := 2) sc_led_to.nd rfl (by first | exact .inl rfl | exact .inr rfl) (pe_callB call_len (by rfl) N.len PySem.boot_len (pa_cons (pv 1) pa_nil))) (pss_one (ps_ret (pe_tupleOf (by rfl) N.tuple (pe_lc (own := [("at", 3), ("held", 4)]) rfl sc_led_to.nd (Pw.pi_enumX (by rfl) N.enumerate (pa_cons (pv 0) pa_nil)) (blkOk_by (N := ["standing", "counts", "many", "at", "held"]) (sc := defScope (topS 8)) (by decide +kernel)) (fun _ _ _ _ _ => (pg_or (pg_tup rfl (pgs_cons (pg_name (i := 3) sc_led_to.nd rfl (by first | exact .inl rfl | exact .inr rfl)) (pgs_cons (pg_name (i := 4) sc_led_to.nd rfl (by first | exact .inl rfl | exact .inr rfl)) pgs_nil))) (pg_lst rfl (pgs_cons (pg_name (i := 3) sc_led_to.nd rfl (by first | exact .inl rfl | exact .inr rfl)) (pgs_cons (pg_name (i := 4) sc_led_to.nd rfl (by first | exact .inl rfl | exact .inr rfl)) pgs_nil))))) (fun _ _ _ _ _ => pts_nil) (fun _ _ _ _ _ => (pe_op op_sub (pe_op op_addX (pv 4) (pe_ix ix_seq (pv 1) (pv 3) (fun _ _ => rfl))) (pe_ix ix_seq (pv 1) (pe_op op_mod (pe_op op_addX (pv 3) pe_int) (pv 2)) (fun _ _ => rfl)))))))))
end
end Ke
namespace Ke
open PySem PySem.Spec PyProof.Rows L2 Xg Dv Kd
section
variable {P : Program} {w : World} {K : PySem.W.Frag} {mg : Str → Option Value} {base : Heap}
theorem sc_gate_behind : FnScope ["line", "gate", "form", "rooms"] ["line", "gate"] (defScope (topS 13)) := ⟨rfl, rfl, rfl, by decide +kernel, rfl, by decide +kernel, by decide +kernel⟩
theorem ok_gate_behind {f : Addr} {fd : FuncData} (F : Fun K "gate_behind" "gate_behind" (topS 13) f fd) (N : Nm mg) (c_RING : ∃ u, mg "RING" = some u ∧ L2.RelV (.str "ring") u) : FnG P w K mg base 1 f fd ["line", "gate"] (spD K 0 F_gate_behind) := by
  unfold F_gate_behind
  exact okD F sc_gate_behind (s_gate_behind K) fun cdv A outer s H hG hr => (pss_cons (ps_asg (pv 0) (pg_or (pg_tup rfl (pgs_cons (pg_name (i := 2) sc_gate_behind.nd rfl (by first | exact .inl rfl | exact .inr rfl)) (pgs_cons (pg_name (i := 3) sc_gate_behind.nd rfl (by first | exact .inl rfl | exact .inr rfl)) pgs_nil))) (pg_lst rfl (pgs_cons (pg_name (i := 2) sc_gate_behind.nd rfl (by first | exact .inl rfl | exact .inr rfl)) (pgs_cons (pg_name (i := 3) sc_gate_behind.nd rfl (by first | exact .inl rfl | exact .inr rfl)) pgs_nil))))) (pss_one (ps_ret (pe_ifExp (pt_cmpR (op_eqX hr.units) (pv 2) (pe_con (v := .str "ring") (by rfl) c_RING) (nomark _)) (pe_op op_mod (pe_op op_sub (pv 1) pe_int) (pe_callB call_len (by rfl) N.len PySem.boot_len (pa_cons (pv 3) pa_nil))) (pe_op op_sub (pv 1) pe_int)))))
end
end Ke
namespace Ke
open PySem PySem.Spec PyProof.Rows L2 Xg Dv Kd
section
variable {P : Program} {w : World} {K : PySem.W.Frag} {mg : Str → Option Value} {base : Heap}
theorem sc_costs : FnScope ["line", "widths", "standing", "gate", "other", "form", "rooms", "found"] ["line", "widths", "standing", "gate", "other"] (defScope (topS 12)) := ⟨rfl, rfl, rfl, by decide +kernel, rfl, by decide +kernel, by decide +kernel⟩
theorem ok_costs {f : Addr} {fd : FuncData} (F : Fun K "costs" "costs" (topS 12) f fd) (N : Nm mg) (D_gate_behind : Df P w K mg base "gate_behind" ["line", "gate"] 1 (spD K 0 F_gate_behind)) : FnG P w K mg base 2 f fd ["line", "widths", "standing", "gate", "other"] (spD K 0 F_costs) := by
  unfold F_costs
  exact okD F sc_costs (s_costs K) fun cdv A outer s H hG hr => (pss_cons (ps_asg (pv 0) (pg_or (pg_tup rfl (pgs_cons (pg_name (i := 5) sc_costs.nd rfl (by first | exact .inl rfl | exact .inr rfl)) (pgs_cons (pg_name (i := 6) sc_costs.nd rfl (by first | exact .inl rfl | exact .inr rfl)) pgs_nil))) (pg_lst rfl (pgs_cons (pg_name (i := 5) sc_costs.nd rfl (by first | exact .inl rfl | exact .inr rfl)) (pgs_cons (pg_name (i := 6) sc_costs.nd rfl (by first | exact .inl rfl | exact .inr rfl)) pgs_nil))))) (pss_cons (ps_set (i := 7) sc_costs.nd rfl (by first | exact .inl rfl | exact .inr rfl) (pe_lst pa_nil)) (pss_cons (ps_if (L2.PW.pt (pw_and (pt_cmpR (op_eqX hr.units) (pv 3) (pv 4) (nomark _)) (pw_and1 (pt_cmpR op_notN (pe_ix ix_seq (pv 1) (pv 3) (fun _ _ => rfl)) pe_non (nomark _))))) (pss_one (ps_expr (pe_bm PySem.F.plainAttrs_list PySem.F.slot_list_append PySem.F.type_list_append mt_append (pv 7) (pa_cons (pe_ix ix_seq (pv 1) (pv 3) (fun _ _ => rfl)) pa_nil)))) pss_nil) (pss_cons (ps_if (pt_cmpR (op_eqX hr.units) (pv 4) (pe_df D_gate_behind hG (hr.mono (by decide)) (by rfl) (pa_cons (pv 0) (pa_cons (pv 3) pa_nil))) (nomark _)) (pss_one (ps_expr (pe_bm PySem.F.plainAttrs_list PySem.F.slot_list_append PySem.F.type_list_append mt_append (pv 7) (pa_cons (pe_ix ix_seq (pv 2) (pv 4) (fun _ _ => rfl)) pa_nil)))) pss_nil) (pss_cons (ps_if (pt_cmpR (op_eqX hr.units) (pv 3) (pe_df D_gate_behind hG (hr.mono (by decide)) (by rfl) (pa_cons (pv 0) (pa_cons (pv 4) pa_nil))) (nomark _)) (pss_one (ps_expr (pe_bm PySem.F.plainAttrs_list PySem.F.slot_list_append PySem.F.type_list_append mt_append (pv 7) (pa_cons (pe_op op_sub (pe_ix ix_seq (pv 6) (pv 3) (fun _ _ => rfl)) (pe_ix ix_seq (pv 2) (pv 3) (fun _ _ => rfl))) pa_nil)))) pss_nil) (pss_one (ps_ret (pv 7))))))))
theorem okL_costs {f : Addr} {fd : FuncData} (F : Fun K "costs" "costs" (topS 12) f fd) (N : Nm mg) (D_gate_behind : Df P w K mg base "gate_behind" ["line", "gate"] 1 (spD K 0 F_gate_behind)) : FnG P w K mg base 2 f fd ["line", "widths", "standing", "gate", "other"] (spL K 0 L_costs) := by
  unfold L_costs
  exact okL F sc_costs (s_costs K) fun cdv A outer s H hG hr => (pss_cons (ps_asg (pv 0) (pg_or (pg_tup rfl (pgs_cons (pg_name (i := 5) sc_costs.nd rfl (by first | exact .inl rfl | exact .inr rfl)) (pgs_cons (pg_name (i := 6) sc_costs.nd rfl (by first | exact .inl rfl | exact .inr rfl)) pgs_nil))) (pg_lst rfl (pgs_cons (pg_name (i := 5) sc_costs.nd rfl (by first | exact .inl rfl | exact .inr rfl)) (pgs_cons (pg_name (i := 6) sc_costs.nd rfl (by first | exact .inl rfl | exact .inr rfl)) pgs_nil))))) (pss_cons (ps_set (i := 7) sc_costs.nd rfl (by first | exact .inl rfl | exact .inr rfl) (pe_lst pa_nil)) (pss_cons (ps_if (L2.PW.pt (pw_and (pt_cmpR (op_eqX hr.units) (pv 3) (pv 4) (nomark _)) (pw_and1 (pt_cmpR op_notN (pe_ix ix_seq (pv 1) (pv 3) (fun _ _ => rfl)) pe_non (nomark _))))) (pss_one (ps_expr (pe_bm PySem.F.plainAttrs_list PySem.F.slot_list_append PySem.F.type_list_append mt_append (pv 7) (pa_cons (pe_ix ix_seq (pv 1) (pv 3) (fun _ _ => rfl)) pa_nil)))) pss_nil) (pss_cons (ps_if (pt_cmpR (op_eqX hr.units) (pv 4) (pe_df D_gate_behind hG (hr.mono (by decide)) (by rfl) (pa_cons (pv 0) (pa_cons (pv 3) pa_nil))) (nomark _)) (pss_one (ps_expr (pe_bm PySem.F.plainAttrs_list PySem.F.slot_list_append PySem.F.type_list_append mt_append (pv 7) (pa_cons (pe_ix ix_seq (pv 2) (pv 4) (fun _ _ => rfl)) pa_nil)))) pss_nil) (pss_cons (ps_if (pt_cmpR (op_eqX hr.units) (pv 3) (pe_df D_gate_behind hG (hr.mono (by decide)) (by rfl) (pa_cons (pv 0) (pa_cons (pv 4) pa_nil))) (nomark _)) (pss_one (ps_expr (pe_bm PySem.F.plainAttrs_list PySem.F.slot_list_append PySem.F.type_list_append mt_append (pv 7) (pa_cons (pe_op op_sub (pe_ix ix_seq (pv 6) (pv 3) (fun _ _ => rfl)) (pe_ix ix_seq (pv 2) (pv 3) (fun _ _ => rfl))) pa_nil)))) pss_nil) (pss_one (ps_ret (pv 7))))))))
end
end Ke
namespace Ke
open PySem PySem.Spec PyProof.Rows L2 Xg Dv Kd
section
variable {P : Program} {w : World} {K : PySem.W.Frag} {mg : Str → Option Value} {base : Heap}
theorem sc_is_gate : FnScope ["line", "thing"] ["line", "thing"] (defScope (topS 11)) := ⟨rfl, rfl, rfl, by decide +kernel, rfl, by decide +kernel, by decide +kernel⟩
theorem ok_is_gate {f : Addr} {fd : FuncData} (F : Fun K "is_gate" "is_gate" (topS 11) f fd) (N : Nm mg) (D_gates : Df P w K mg base "gates" ["line"] 1 (spD K 0 F_gates)) (D_is_number : Df P w K mg base "is_number" ["thing"] 1 (spD K 0 F_is_number)) : FnG P w K mg base 2 f fd ["line", "thing"] (spD K 0 F_is_gate) := by
  unfold F_is_gate
  exact okD F sc_is_gate (s_is_gate K) fun cdv A outer s H hG hr => (pss_one (ps_ret (pe_and (pe_df D_is_number hG (hr.mono (by decide)) (by rfl) (pa_cons (pv 1) pa_nil)) (pe_one (pe_chain op_le op_lt pe_int (pv 1) (pe_df D_gates hG (hr.mono (by decide)) (by rfl) (pa_cons (pv 0) pa_nil)))))))
end
end Ke
namespace Ke
open PySem PySem.Spec PyProof.Rows L2 Xg Dv Kd
section
variable {P : Program} {w : World} {K : PySem.W.Frag} {mg : Str → Option Value} {base : Heap}
theorem sc_cost : FnScope ["line", "widths", "standing", "gate", "other"] ["line", "widths", "standing", "gate", "other"] (defScope (topS 10)) := ⟨rfl, rfl, rfl, by decide +kernel, rfl, by decide +kernel, by decide +kernel⟩
theorem ok_cost {f : Addr} {fd : FuncData} (F : Fun K "cost" "cost" (topS 10) f fd) (N : Nm mg) (D_costs : Df P w K mg base "costs" ["line", "widths", "standing", "gate", "other"] 2 (spD K 0 F_costs)) (DL_costs : Df P w K mg base "costs" ["line", "widths", "standing", "gate", "other"] 2 (spL K 0 L_costs)) (D_is_gate : Df P w K mg base "is_gate" ["line", "thing"] 2 (spD K 0 F_is_gate)) : FnG P w K mg base 3 f fd ["line", "widths", "standing", "gate", "other"] (spD K 0 F_cost) := by
  unfold F_cost
  exact okD F sc_cost (s_cost K) fun cdv A outer s H hG hr => (pss_cons (ps_if (pt_not (L2.PW.pt (pw_and (pt_val (pe_df D_is_gate hG (hr.mono (by decide)) (by rfl) (pa_cons (pv 0) (pa_cons (pv 3) pa_nil)))) (pw_and1 (pt_val (pe_df D_is_gate hG (hr.mono (by decide)) (by rfl) (pa_cons (pv 0) (pa_cons (pv 4) pa_nil)))))))) (pss_one (ps_ret pe_non)) pss_nil) (pss_one (ps_ret (pe_callBK (cr_minD hr.units rfl) (by rfl) N.min (by decide +kernel) (pa_cons (pe_df D_costs hG (hr.mono (by decide)) (by rfl) (pa_cons (pv 0) (pa_cons (pv 1) (pa_cons (pv 2) (pa_cons (pv 3) (pa_cons (pv 4) pa_nil)))))) pa_nil) (pk_cons pe_non pk_nil)))))
end
end Ke
namespace Ke
open PySem PySem.Spec PyProof.Rows L2 Xg Dv Kd
section
variable {P : Program} {w : World} {K : PySem.W.Frag} {mg : Str → Option Value} {base : Heap}
theorem sc_grid_of_one : FnScope ["line", "widths", "standing", "many", "gate", "other"] ["line", "widths", "standing"] (defScope (topS 15)) := ⟨rfl, rfl, rfl, by decide +kernel, rfl, by decide +kernel, by decide +kernel⟩
theorem ok_grid_of_one {f : Addr} {fd : FuncData} (F : Fun K "grid_of_one" "grid_of_one" (topS 15) f fd) (N : Nm mg) (D_cost : Df P w K mg base "cost" ["line", "widths", "standing", "gate", "other"] 3 (spD K 0 F_cost)) (D_gates : Df P w K mg base "gates" ["line"] 1 (spD K 0 F_gates)) : FnG P w K mg base 4 f fd ["line", "widths", "standing"] (spD K 0 F_grid_of_one) := by
  unfold F_grid_of_one
  exact okD F sc_grid_of_one (s_grid_of_one K) fun cdv A outer s H hG hr => (pss_cons (ps_set (i := 3) sc_grid_of_one.nd rfl (by first | exact .inl rfl | exact .inr rfl) (pe_df D_gates hG (hr.mono (by decide)) (by rfl) (pa_cons (pv 0) pa_nil))) (pss_one (ps_ret (pe_lc (own := [("gate", 4)]) rfl sc_grid_of_one.nd (pi_range1 (by rfl) N.range (pa_cons (pv 3) pa_nil)) (blkOk_by (N := ["line", "widths", "standing", "many", "gate", "other"]) (sc := defScope (topS 15)) (by decide +kernel)) (fun _ _ _ _ _ => (pg_name (i := 4) sc_grid_of_one.nd rfl (by first | exact .inl rfl | exact .inr rfl))) (fun _ _ _ _ _ => pts_nil) (fun _ _ _ _ _ => (pe_lc (own := [("other", 5)]) rfl sc_grid_of_one.nd (pi_range1 (by rfl) N.range (pa_cons (pv 3) pa_nil)) (blkOk_by (N := ["line", "widths", "standing", "many", "gate", "other"]) (sc := relS _ (defScope (topS 15))) (by decide +kernel)) (fun _ _ _ _ _ => (pg_name (i := 5) sc_grid_of_one.nd rfl (by first | exact .inl rfl | exact .inr rfl))) (fun _ _ _ _ _ => pts_nil) (fun _ _ _ _ _ => (pe_df D_cost hG (hr.mono (by decide)) (by rfl) (pa_cons (pv 0) (pa_cons (pv 1) (pa_cons (pv 2) (pa_cons (pv 4) (pa_cons (pv 5) pa_nil)))))))))))))
theorem okL_grid_of_one {f : Addr} {fd : FuncData} (F : Fun K "grid_of_one" "grid_of_one" (topS 15) f fd) (N : Nm mg) (D_cost : Df P w K mg base "cost" ["line", "widths", "standing", "gate", "other"] 3 (spD K 0 F_cost)) (D_gates : Df P w K mg base "gates" ["line"] 1 (spD K 0 F_gates)) : FnG P w K mg base 4 f fd ["line", "widths", "standing"] (spL K 0 L_grid_of_one) := by
  unfold L_grid_of_one
  exact okL F sc_grid_of_one (s_grid_of_one K) fun cdv A outer s H hG hr => (pss_cons (ps_set (i := 3) sc_grid_of_one.nd rfl (by first | exact .inl rfl | exact .inr rfl) (pe_df D_gates hG (hr.mono (by decide)) (by rfl) (pa_cons (pv 0) pa_nil))) (pss_one (ps_ret (pe_lc (own := [("gate", 4)]) rfl sc_grid_of_one.nd (pi_range1 (by rfl) N.range (pa_cons (pv 3) pa_nil)) (blkOk_by (N := ["line", "widths", "standing", "many", "gate", "other"]) (sc := defScope (topS 15)) (by decide +kernel)) (fun _ _ _ _ _ => (pg_name (i := 4) sc_grid_of_one.nd rfl (by first | exact .inl rfl | exact .inr rfl))) (fun _ _ _ _ _ => pts_nil) (fun _ _ _ _ _ => (pe_lc (own := [("other", 5)]) rfl sc_grid_of_one.nd (pi_range1 (by rfl) N.range (pa_cons (pv 3) pa_nil)) (blkOk_by (N := ["line", "widths", "standing", "many", "gate", "other"]) (sc := relS _ (defScope (topS 15))) (by decide +kernel)) (fun _ _ _ _ _ => (pg_name (i := 5) sc_grid_of_one.nd rfl (by first | exact .inl rfl | exact .inr rfl))) (fun _ _ _ _ _ => pts_nil) (fun _ _ _ _ _ => (pe_df D_cost hG (hr.mono (by decide)) (by rfl) (pa_cons (pv 0) (pa_cons (pv 1) (pa_cons (pv 2) (pa_cons (pv 4) (pa_cons (pv 5) pa_nil)))))))))))))
end
end Ke
namespace Ke
open PySem PySem.Spec PyProof.Rows L2 Xg Dv Kd
section
variable {P : Program} {w : World} {K : PySem.W.Frag} {mg : Str → Option Value} {base : Heap}
theorem sc_columns_of : FnScope ["grid", "column"] ["grid"] (defScope (topS 19)) := ⟨rfl, rfl, rfl, by decide +kernel, rfl, by decide +kernel, by decide +kernel⟩
theorem ok_columns_of {f : Addr} {fd : FuncData} (F : Fun K "columns_of" "columns_of" (topS 19) f fd) (N : Nm mg) : FnG P w K mg base 1 f fd ["grid"] (spD K 0 F_columns_of) := by
  unfold F_columns_of
  exact okD F sc_columns_of (s_columns_of K) fun cdv A outer s H hG hr => (pss_one (ps_ret (pe_lc (own := [("column", 1)]) rfl sc_columns_of.nd (Zn.pi_zipN (by rfl) N.zip (pv 0)) (blkOk_by (N := ["grid", "column"]) (sc := defScope (topS 19)) (by decide +kernel)) (fun _ _ _ _ _ => (pg_name (i := 1) sc_columns_of.nd rfl (by first | exact .inl rfl | exact .inr rfl))) (fun _ _ _ _ _ => pts_nil) (fun _ _ _ _ _ => (pe_callTy call_list_of (by rfl) N.list (by decide +kernel) (pa_cons (pv 1) pa_nil))))))
theorem okL_columns_of {f : Addr} {fd : FuncData} (F : Fun K "columns_of" "columns_of" (topS 19) f fd) (N : Nm mg) : FnG P w K mg base 1 f fd ["grid"] (spL K 0 L_columns_of) := by
  unfold L_columns_of
  exact okL F sc_columns_of (s_columns_of K) fun cdv A outer s H hG hr => (pss_one (ps_ret (pe_lc (own := [("column", 1)]) rfl sc_columns_of.nd (Zn.pi_zipN (by rfl) N.zip (pv 0)) (blkOk_by (N := ["grid", "column"]) (sc := defScope (topS 19)) (by decide +kernel)) (fun _ _ _ _ _ => (pg_name (i := 1) sc_columns_of.nd rfl (by first | exact .inl rfl | exact .inr rfl))) (fun _ _ _ _ _ => pts_nil) (fun _ _ _ _ _ => (pe_callTy call_list_of (by rfl) N.list (by decide +kernel) (pa_cons (pv 1) pa_nil))))))
end
end Ke
namespace Ke
open PySem PySem.Spec PyProof.Rows L2 Xg Dv Kd
section
variable {P : Program} {w : World} {K : PySem.W.Frag} {mg : Str → Option Value} {base : Heap}
theorem sc_least_sum : FnScope ["row", "column", "sums", "one", "other"] ["row", "column"] (defScope (topS 20)) := ⟨rfl, rfl, rfl, by decide +kernel, rfl, by decide +kernel, by decide +kernel⟩
theorem ok_least_sum {f : Addr} {fd : FuncData} (F : Fun K "least_sum" "least_sum" (topS 20) f fd) (N : Nm mg) : FnG P w K mg base 1 f fd ["row", "column"] (spD K 0 F_least_sum) := by
  unfold F_least_sum
  exact okD F sc_least_sum (s_least_sum K) fun cdv A outer s H hG hr => (pss_cons (ps_setLc (i := 2) (own := [("one", 3), ("other", 4)]) rfl sc_least_sum.nd rfl rfl (sw_true rfl rfl rfl (by decide +kernel)) (Pw.pi_zipX (by rfl) N.zip (pa_cons (pv 0) (pa_cons (pv 1) pa_nil))) (blkOk_by (N := ["row", "column", "sums", "one", "other"]) (sc := defScope (topS 20)) (by decide +kernel)) (fun _ _ _ _ _ => (pg_or (pg_tup rfl (pgs_cons (pg_name (i := 3) sc_least_sum.nd rfl (by first | exact .inl rfl | exact .inr rfl)) (pgs_cons (pg_name (i := 4) sc_least_sum.nd rfl (by first | exact .inl rfl | exact .inr rfl)) pgs_nil))) (pg_lst rfl (pgs_cons (pg_name (i := 3) sc_least_sum.nd rfl (by first | exact .inl rfl | exact .inr rfl)) (pgs_cons (pg_name (i := 4) sc_least_sum.nd rfl (by first | exact .inl rfl | exact .inr rfl)) pgs_nil))))) (fun _ _ _ _ _ => (pts_one (L2.PW.pt (pw_and (pt_cmpR op_notN (pv 3) pe_non (nomark _)) (pw_and1 (pt_cmpR op_notN (pv 4) pe_non (nomark _))))))) (fun _ _ _ _ _ => (pe_op op_addX (pv 3) (pv 4)))) (pss_one (ps_ret (pe_callBK (cr_minD hr.units rfl) (by rfl) N.min (by decide +kernel) (pa_cons (pv 2) pa_nil) (pk_cons pe_non pk_nil)))))
end
end Ke
namespace Ke
open PySem PySem.Spec PyProof.Rows L2 Xg Dv Kd
section
variable {P : Program} {w : World} {K : PySem.W.Frag} {mg : Str → Option Value} {base : Heap}
theorem sc_chained : FnScope ["grid", "other", "columns", "row", "column"] ["grid", "other"] (defScope (topS 18)) := ⟨rfl, rfl, rfl, by decide +kernel, rfl, by decide +kernel, by decide +kernel⟩
theorem ok_chained {f : Addr} {fd : FuncData} (F : Fun K "chained" "chained" (topS 18) f fd) (N : Nm mg) (D_columns_of : Df P w K mg base "columns_of" ["grid"] 1 (spD K 0 F_columns_of)) (DL_columns_of : Df P w K mg base "columns_of" ["grid"] 1 (spL K 0 L_columns_of)) (D_least_sum : Df P w K mg base "least_sum" ["row", "column"] 1 (spD K 0 F_least_sum)) : FnG P w K mg base 2 f fd ["grid", "other"] (spD K 0 F_chained) := by
  unfold F_chained
  exact okD F sc_chained (s_chained K) fun cdv A outer s H hG hr => (pss_cons (ps_set (i := 2) sc_chained.nd rfl (by first | exact .inl rfl | exact .inr rfl) (pe_df D_columns_of hG (hr.mono (by decide)) (by rfl) (pa_cons (pv 1) pa_nil))) (pss_one (ps_ret (pe_lc (own := [("row", 3)]) rfl sc_chained.nd (Pw.pi_seq (pv 0)) (blkOk_by (N := ["grid", "other", "columns", "row", "column"]) (sc := defScope (topS 18)) (by decide +kernel)) (fun _ _ _ _ _ => (pg_name (i := 3) sc_chained.nd rfl (by first | exact .inl rfl | exact .inr rfl))) (fun _ _ _ _ _ => pts_nil) (fun _ _ _ _ _ => (pe_lc (own := [("column", 4)]) rfl sc_chained.nd (Pw.pi_seq (pv 2)) (blkOk_by (N := ["grid", "other", "columns", "row", "column"]) (sc := relS _ (defScope (topS 18))) (by decide +kernel)) (fun _ _ _ _ _ => (pg_name (i := 4) sc_chained.nd rfl (by first | exact .inl rfl | exact .inr rfl))) (fun _ _ _ _ _ => pts_nil) (fun _ _ _ _ _ => (pe_df D_least_sum hG (hr.mono (by decide)) (by rfl) (pa_cons (pv 3) (pa_cons (pv 4) pa_nil))))))))))
theorem okL_chained {f : Addr} {fd : FuncData} (F : Fun K "chained" "chained" (topS 18) f fd) (N : Nm mg) (D_columns_of : Df P w K mg base "columns_of" ["grid"] 1 (spD K 0 F_columns_of)) (DL_columns_of : Df P w K mg base "columns_of" ["grid"] 1 (spL K 0 L_columns_of)) (D_least_sum : Df P w K mg base "least_sum" ["row", "column"] 1 (spD K 0 F_least_sum)) : FnG P w K mg base 2 f fd ["grid", "other"] (spL K 0 L_chained) := by
  unfold L_chained
  exact okL F sc_chained (s_chained K) fun cdv A outer s H hG hr => (pss_cons (ps_set (i := 2) sc_chained.nd rfl (by first | exact .inl rfl | exact .inr rfl) (pe_df D_columns_of hG (hr.mono (by decide)) (by rfl) (pa_cons (pv 1) pa_nil))) (pss_one (ps_ret (pe_lc (own := [("row", 3)]) rfl sc_chained.nd (Pw.pi_seq (pv 0)) (blkOk_by (N := ["grid", "other", "columns", "row", "column"]) (sc := defScope (topS 18)) (by decide +kernel)) (fun _ _ _ _ _ => (pg_name (i := 3) sc_chained.nd rfl (by first | exact .inl rfl | exact .inr rfl))) (fun _ _ _ _ _ => pts_nil) (fun _ _ _ _ _ => (pe_lc (own := [("column", 4)]) rfl sc_chained.nd (Pw.pi_seq (pv 2)) (blkOk_by (N := ["grid", "other", "columns", "row", "column"]) (sc := relS _ (defScope (topS 18))) (by decide +kernel)) (fun _ _ _ _ _ => (pg_name (i := 4) sc_chained.nd rfl (by first | exact .inl rfl | exact .inr rfl))) (fun _ _ _ _ _ => pts_nil) (fun _ _ _ _ _ => (pe_df D_least_sum hG (hr.mono (by decide)) (by rfl) (pa_cons (pv 3) (pa_cons (pv 4) pa_nil))))))))))
end
end Ke
namespace Ke
open PySem PySem.Spec PyProof.Rows L2 Xg Dv Kd
section
variable {P : Program} {w : World} {K : PySem.W.Frag} {mg : Str → Option Value} {base : Heap}
theorem sc_doubled_grids : FnScope ["line", "widths", "standing", "many", "grids"] ["line", "widths", "standing", "many"] (defScope (topS 16)) := ⟨rfl, rfl, rfl, by decide +kernel, rfl, by decide +kernel, by decide +kernel⟩
theorem ok_doubled_grids {f : Addr} {fd : FuncData} (F : Fun K "doubled_grids" "doubled_grids" (topS 16) f fd) (N : Nm mg) (D_chained : Df P w K mg base "chained" ["grid", "other"] 2 (spD K 0 F_chained)) (DL_chained : Df P w K mg base "chained" ["grid", "other"] 2 (spL K 0 L_chained)) (D_grid_of_one : Df P w K mg base "grid_of_one" ["line", "widths", "standing"] 4 (spD K 0 F_grid_of_one)) (DL_grid_of_one : Df P w K mg base "grid_of_one" ["line", "widths", "standing"] 4 (spL K 0 L_grid_of_one)) : FnG P w K mg base 5 f fd ["line", "widths", "standing", "many"] (spD K 0 F_doubled_grids) := by
  unfold F_doubled_grids
  exact okD F sc_doubled_grids (s_doubled_grids K) fun cdv A outer s H hG hr => (pss_cons (ps_set (i := 4) sc_doubled_grids.nd rfl (by first | exact .inl rfl | exact .inr rfl) (pe_lst (pa_cons (pe_df D_grid_of_one hG (hr.mono (by decide)) (by rfl) (pa_cons (pv 0) (pa_cons (pv 1) (pa_cons (pv 2) pa_nil)))) pa_nil))) (pss_cons (ps_while PassesOwn.never (pt_cmpR op_lt (pe_callB call_len (by rfl) N.len PySem.boot_len (pa_cons (pv 4) pa_nil)) (pe_bits (pv 3)) (nomark _)) (pss_one (ps_expr (pe_bm PySem.F.plainAttrs_list PySem.F.slot_list_append PySem.F.type_list_append mt_append (pv 4) (pa_cons (pe_df D_chained hG (hr.mono (by decide)) (by rfl) (pa_cons (pe_ix ix_seq (pv 4) (pe_un un_neg pe_int) (fun _ _ => rfl)) (pa_cons (pe_ix ix_seq (pv 4) (pe_un un_neg pe_int) (fun _ _ => rfl)) pa_nil))) pa_nil))))) (pss_one (ps_ret (pv 4)))))
theorem okL_doubled_grids {f : Addr} {fd : FuncData} (F : Fun K "doubled_grids" "doubled_grids" (topS 16) f fd) (N : Nm mg) (D_chained : Df P w K mg base "chained" ["grid", "other"] 2 (spD K 0 F_chained)) (DL_chained : Df P w K mg base "chained" ["grid", "other"] 2 (spL K 0 L_chained)) (D_grid_of_one : Df P w K mg base "grid_of_one" ["line", "widths", "standing"] 4 (spD K 0 F_grid_of_one)) (DL_grid_of_one : Df P w K mg base "grid_of_one" ["line", "widths", "standing"] 4 (spL K 0 L_grid_of_one)) : FnG P w K mg base 5 f fd ["line", "widths", "standing", "many"] (spL K 0 L_doubled_grids) := by
  unfold L_doubled_grids
  exact okL F sc_doubled_grids (s_doubled_grids K) fun cdv A outer s H hG hr => (pss_cons (ps_set (i := 4) sc_doubled_grids.nd rfl (by first | exact .inl rfl | exact .inr rfl) (pe_lst (pa_cons (pe_df D_grid_of_one hG (hr.mono (by decide)) (by rfl) (pa_cons (pv 0) (pa_cons (pv 1) (pa_cons (pv 2) pa_nil)))) pa_nil))) (pss_cons (ps_while PassesOwn.never (pt_cmpR op_lt (pe_callB call_len (by rfl) N.len PySem.boot_len (pa_cons (pv 4) pa_nil)) (pe_bits (pv 3)) (nomark _)) (pss_one (ps_expr (pe_bm PySem.F.plainAttrs_list PySem.F.slot_list_append PySem.F.type_list_append mt_append (pv 4) (pa_cons (pe_df D_chained hG (hr.mono (by decide)) (by rfl) (pa_cons (pe_ix ix_seq (pv 4) (pe_un un_neg pe_int) (fun _ _ => rfl)) (pa_cons (pe_ix ix_seq (pv 4) (pe_un un_neg pe_int) (fun _ _ => rfl)) pa_nil))) pa_nil))))) (pss_one (ps_ret (pv 4)))))
end
end Ke
namespace Ke
open PySem PySem.Spec PyProof.Rows L2 Xg Dv Kd
section
variable {P : Program} {w : World} {K : PySem.W.Frag} {mg : Str → Option Value} {base : Heap}
theorem sc_grids_in : FnScope ["grids", "many", "at", "grid"] ["grids", "many"] (defScope (topS 17)) := ⟨rfl, rfl, rfl, by decide +kernel, rfl, by decide +kernel, by decide +kernel⟩
theorem ok_grids_in {f : Addr} {fd : FuncData} (F : Fun K "grids_in" "grids_in" (topS 17) f fd) (N : Nm mg) : FnG P w K mg base 1 f fd ["grids", "many"] (spD K 0 F_grids_in) := by
  unfold F_grids_in
  exact okD F sc_grids_in (s_grids_in K) fun cdv A outer s H hG hr => (pss_one (ps_ret (pe_lc (own := [("at", 2), ("grid", 3)]) rfl sc_grids_in.nd (Pw.pi_enumX (by rfl) N.enumerate (pa_cons (pv 0) pa_nil)) (blkOk_by (N := ["grids", "many", "at", "grid"]) (sc := defScope (topS 17)) (by decide +kernel)) (fun _ _ _ _ _ => (pg_or (pg_tup rfl (pgs_cons (pg_name (i := 2) sc_grids_in.nd rfl (by first | exact .inl rfl | exact .inr rfl)) (pgs_cons (pg_name (i := 3) sc_grids_in.nd rfl (by first | exact .inl rfl | exact .inr rfl)) pgs_nil))) (pg_lst rfl (pgs_cons (pg_name (i := 2) sc_grids_in.nd rfl (by first | exact .inl rfl | exact .inr rfl)) (pgs_cons (pg_name (i := 3) sc_grids_in.nd rfl (by first | exact .inl rfl | exact .inr rfl)) pgs_nil))))) (fun _ _ _ _ _ => (pts_one (pt_truth (pe_op op_odd (pe_op op_shr (pv 1) (pv 2)) pe_int) (by intro _; rfl)))) (fun _ _ _ _ _ => (pv 3)))))
theorem okL_grids_in {f : Addr} {fd : FuncData} (F : Fun K "grids_in" "grids_in" (topS 17) f fd) (N : Nm mg) : FnG P w K mg base 1 f fd ["grids", "many"] (spL K 0 L_grids_in) := by
  unfold L_grids_in
  exact okL F sc_grids_in (s_grids_in K) fun cdv A outer s H hG hr => (pss_one (ps_ret (pe_lc (own := [("at", 2), ("grid", 3)]) rfl sc_grids_in.nd (Pw.pi_enumX (by rfl) N.enumerate (pa_cons (pv 0) pa_nil)) (blkOk_by (N := ["grids", "many", "at", "grid"]) (sc := defScope (topS 17)) (by decide +kernel)) (fun _ _ _ _ _ => (pg_or (pg_tup rfl (pgs_cons (pg_name (i := 2) sc_grids_in.nd rfl (by first | exact .inl rfl | exact .inr rfl)) (pgs_cons (pg_name (i := 3) sc_grids_in.nd rfl (by first | exact .inl rfl | exact .inr rfl)) pgs_nil))) (pg_lst rfl (pgs_cons (pg_name (i := 2) sc_grids_in.nd rfl (by first | exact .inl rfl | exact .inr rfl)) (pgs_cons (pg_name (i := 3) sc_grids_in.nd rfl (by first | exact .inl rfl | exact .inr rfl)) pgs_nil))))) (fun _ _ _ _ _ => (pts_one (pt_truth (pe_op op_odd (pe_op op_shr (pv 1) (pv 2)) pe_int) (by intro _; rfl)))) (fun _ _ _ _ _ => (pv 3)))))
end
end Ke
namespace Ke
open PySem PySem.Spec PyProof.Rows L2 Xg Dv Kd
section
variable {P : Program} {w : World} {K : PySem.W.Frag} {mg : Str → Option Value} {base : Heap}
theorem sc_led_by : FnScope ["grid", "numbers", "row"] ["grid", "numbers"] (defScope (topS 21)) := ⟨rfl, rfl, rfl, by decide +kernel, rfl, by decide +kernel, by decide +kernel⟩
theorem ok_led_by {f : Addr} {fd : FuncData} (F : Fun K "led_by" "led_by" (topS 21) f fd) (N : Nm mg) (D_least_sum : Df P w K mg base "least_sum" ["row", "column"] 1 (spD K 0 F_least_sum)) : FnG P w K mg base 2 f fd ["grid", "numbers"] (spD K 0 F_led_by) := by
  unfold F_led_by
  exact okD F sc_led_by (s_led_by K) fun cdv A outer s H hG hr => (pss_one (ps_ret (pe_lc (own := [("row", 2)]) rfl sc_led_by.nd (Pw.pi_seq (pv 0)) (blkOk_by (N := ["grid", "numbers", "row"]) (sc := defScope (topS 21)) (by decide +kernel)) (fun _ _ _ _ _ => (pg_name (i := 2) sc_led_by.nd rfl (by first | exact .inl rfl | exact .inr rfl))) (fun _ _ _ _ _ => pts_nil) (fun _ _ _ _ _ => (pe_df D_least_sum hG (hr.mono (by decide)) (by rfl) (pa_cons (pv 2) (pa_cons (pv 1) pa_nil)))))))
theorem okL_led_by {f : Addr} {fd : FuncData} (F : Fun K "led_by" "led_by" (topS 21) f fd) (N : Nm mg) (D_least_sum : Df P w K mg base "least_sum" ["row", "column"] 1 (spD K 0 F_least_sum)) : FnG P w K mg base 2 f fd ["grid", "numbers"] (spL K 0 L_led_by) := by
  unfold L_led_by
  exact okL F sc_led_by (s_led_by K) fun cdv A outer s H hG hr => (pss_one (ps_ret (pe_lc (own := [("row", 2)]) rfl sc_led_by.nd (Pw.pi_seq (pv 0)) (blkOk_by (N := ["grid", "numbers", "row"]) (sc := defScope (topS 21)) (by decide +kernel)) (fun _ _ _ _ _ => (pg_name (i := 2) sc_led_by.nd rfl (by first | exact .inl rfl | exact .inr rfl))) (fun _ _ _ _ _ => pts_nil) (fun _ _ _ _ _ => (pe_df D_least_sum hG (hr.mono (by decide)) (by rfl) (pa_cons (pv 2) (pa_cons (pv 1) pa_nil)))))))
end
end Ke
namespace Ke
open PySem PySem.Spec PyProof.Rows L2 Xg Dv Kd
section
variable {P : Program} {w : World} {K : PySem.W.Frag} {mg : Str → Option Value} {base : Heap}
theorem sc_led_back_by : FnScope ["grid", "numbers", "less", "number", "column"] ["grid", "numbers"] (defScope (topS 22)) := ⟨rfl, rfl, rfl, by decide +kernel, rfl, by decide +kernel, by decide +kernel⟩
theorem ok_led_back_by {f : Addr} {fd : FuncData} (F : Fun K "led_back_by" "led_back_by" (topS 22) f fd) (N : Nm mg) (D_columns_of : Df P w K mg base "columns_of" ["grid"] 1 (spD K 0 F_columns_of)) (DL_columns_of : Df P w K mg base "columns_of" ["grid"] 1 (spL K 0 L_columns_of)) (D_least_sum : Df P w K mg base "least_sum" ["row", "column"] 1 (spD K 0 F_least_sum)) : FnG P w K mg base 2 f fd ["grid", "numbers"] (spD K 0 F_led_back_by) := by
  unfold F_led_back_by
  exact okD F sc_led_back_by (s_led_back_by K) fun cdv A outer s H hG hr => (pss_cons (ps_set (i := 2) sc_led_back_by.nd rfl (by first | exact .inl rfl | exact .inr rfl) (pe_lc (own := [("number", 3)]) rfl sc_led_back_by.nd (Pw.pi_seq (pv 1)) (blkOk_by (N := ["grid", "numbers", "less", "number", "column"]) (sc := defScope (topS 22)) (by decide +kernel)) (fun _ _ _ _ _ => (pg_name (i := 3) sc_led_back_by.nd rfl (by first | exact .inl rfl | exact .inr rfl))) (fun _ _ _ _ _ => pts_nil) (fun _ _ _ _ _ => (pe_un un_neg (pv 3))))) (pss_one (ps_ret (pe_lc (own := [("column", 4)]) rfl sc_led_back_by.nd (Pw.pi_seq (pe_df D_columns_of hG (hr.mono (by decide)) (by rfl) (pa_cons (pv 0) pa_nil))) (blkOk_by (N := ["grid", "numbers", "less", "number", "column"]) (sc := defScope (topS 22)) (by decide +kernel)) (fun _ _ _ _ _ => (pg_name (i := 4) sc_led_back_by.nd rfl (by first | exact .inl rfl | exact .inr rfl))) (fun _ _ _ _ _ => pts_nil) (fun _ _ _ _ _ => (pe_un un_neg (pe_df D_least_sum hG (hr.mono (by decide)) (by rfl) (pa_cons (pv 4) (pa_cons (pv 2) pa_nil)))))))))
theorem okL_led_back_by {f : Addr} {fd : FuncData} (F : Fun K "led_back_by" "led_back_by" (topS 22) f fd) (N : Nm mg) (D_columns_of : Df P w K mg base "columns_of" ["grid"] 1 (spD K 0 F_columns_of)) (DL_columns_of : Df P w K mg base "columns_of" ["grid"] 1 (spL K 0 L_columns_of)) (D_least_sum : Df P w K mg base "least_sum" ["row", "column"] 1 (spD K 0 F_least_sum)) : FnG P w K mg base 2 f fd ["grid", "numbers"] (spL K 0 L_led_back_by) := by
  unfold L_led_back_by
  exact okL F sc_led_back_by (s_led_back_by K) fun cdv A outer s H hG hr => (pss_cons (ps_set (i := 2) sc_led_back_by.nd rfl (by first | exact .inl rfl | exact .inr rfl) (pe_lc (own := [("number", 3)]) rfl sc_led_back_by.nd (Pw.pi_seq (pv 1)) (blkOk_by (N := ["grid", "numbers", "less", "number", "column"]) (sc := defScope (topS 22)) (by decide +kernel)) (fun _ _ _ _ _ => (pg_name (i := 3) sc_led_back_by.nd rfl (by first | exact .inl rfl | exact .inr rfl))) (fun _ _ _ _ _ => pts_nil) (fun _ _ _ _ _ => (pe_un un_neg (pv 3))))) (pss_one (ps_ret (pe_lc (own := [("column", 4)]) rfl sc_led_back_by.nd (Pw.pi_seq (pe_df D_columns_of hG (hr.mono (by decide)) (by rfl) (pa_cons (pv 0) pa_nil))) (blkOk_by (N := ["grid", "numbers", "less", "number", "column"]) (sc := defScope (topS 22)) (by decide +kernel)) (fun _ _ _ _ _ => (pg_name (i := 4) sc_led_back_by.nd rfl (by first | exact .inl rfl | exact .inr rfl))) (fun _ _ _ _ _ => pts_nil) (fun _ _ _ _ _ => (pe_un un_neg (pe_df D_least_sum hG (hr.mono (by decide)) (by rfl) (pa_cons (pv 4) (pa_cons (pv 2) pa_nil)))))))))
end
end Ke
namespace Ke
open PySem PySem.Spec PyProof.Rows L2 Xg Dv Kd
section
variable {P : Program} {w : World} {K : PySem.W.Frag} {mg : Str → Option Value} {base : Heap}
theorem sc_gone_on : FnScope ["grids", "way", "many", "counts", "grid"] ["grids", "way", "many", "counts"] (defScope (topS 23)) := ⟨rfl, rfl, rfl, by decide +kernel, rfl, by decide +kernel, by decide +kernel⟩
theorem ok_gone_on {f : Addr} {fd : FuncData} (F : Fun K "gone_on" "gone_on" (topS 23) f fd) (N : Nm mg) (c_FORTH : ∃ u, mg "FORTH" = some u ∧ L2.RelV (.str "forth") u) (D_grids_in : Df P w K mg base "grids_in" ["grids", "many"] 1 (spD K 0 F_grids_in)) (DL_grids_in : Df P w K mg base "grids_in" ["grids", "many"] 1 (spL K 0 L_grids_in)) (D_led_back_by : Df P w K mg base "led_back_by" ["grid", "numbers"] 2 (spD K 0 F_led_back_by)) (DL_led_back_by : Df P w K mg base "led_back_by" ["grid", "numbers"] 2 (spL K 0 L_led_back_by)) (D_led_by : Df P w K mg base "led_by" ["grid", "numbers"] 2 (spD K 0 F_led_by)) (DL_led_by : Df P w K mg base "led_by" ["grid", "numbers"] 2 (spL K 0 L_led_by)) : FnG P w K mg base 3 f fd ["grids", "way", "many", "counts"] (spD K 0 F_gone_on) := by
  unfold F_gone_on
  exact okD F sc_gone_on (s_gone_on K) fun cdv A outer s H hG hr => (pss_cons (ps_for PassesOwn.never rfl (Pw.pi_seq (pe_df D_grids_in hG (hr.mono (by decide)) (by rfl) (pa_cons (pv 0) (pa_cons (pv 2) pa_nil)))) (pg_name (i := 4) sc_gone_on.nd rfl (by first | exact .inl rfl | exact .inr rfl)) (pss_one (ps_set (i := 3) sc_gone_on.nd rfl (by first | exact .inl rfl | exact .inr rfl) (pe_ifExp (pt_cmpR (op_eqX hr.units) (pv 1) (pe_con (v := .str "forth") (by rfl) c_FORTH) (nomark _)) (pe_df D_led_by hG (hr.mono (by decide)) (by rfl) (pa_cons (pv 4) (pa_cons (pv 3) pa_nil))) (pe_df D_led_back_by hG (hr.mono (by decide)) (by rfl) (pa_cons (pv 4) (pa_cons (pv 3) pa_nil))))))) (pss_one (ps_ret (pv 3))))
end
end Ke
namespace Ke
open PySem PySem.Spec PyProof.Rows L2 Xg Dv Kd
section
variable {P : Program} {w : World} {K : PySem.W.Frag} {mg : Str → Option Value} {base : Heap}
theorem sc_noughts : FnScope ["line"] ["line"] (defScope (topS 25)) := ⟨rfl, rfl, rfl, by decide +kernel, rfl, by decide +kernel, by decide +kernel⟩
theorem ok_noughts {f : Addr} {fd : FuncData} (F : Fun K "noughts" "noughts" (topS 25) f fd) (N : Nm mg) (D_gates : Df P w K mg base "gates" ["line"] 1 (spD K 0 F_gates)) : FnG P w K mg base 2 f fd ["line"] (spD K 0 F_noughts) := by
  unfold F_noughts
  exact okD F sc_noughts (s_noughts K) fun cdv A outer s H hG hr => (pss_one (ps_ret (pe_op op_mulX (pe_lst (pa_cons pe_int pa_nil)) (pe_df D_gates hG (hr.mono (by decide)) (by rfl) (pa_cons (pv 0) pa_nil)))))
end
end Ke
namespace Ke
open PySem PySem.Spec PyProof.Rows L2 Xg Dv Kd
section
variable {P : Program} {w : World} {K : PySem.W.Frag} {mg : Str → Option Value} {base : Heap}
theorem sc_counts : FnScope ["line", "widths", "standing", "way", "many", "grids"] ["line", "widths", "standing", "way", "many"] (defScope (topS 26)) := ⟨rfl, rfl, rfl, by decide +kernel, rfl, by decide +kernel, by decide +kernel⟩
theorem ok_counts {f : Addr} {fd : FuncData} (F : Fun K "counts" "counts" (topS 26) f fd) (N : Nm mg) (D_doubled_grids : Df P w K mg base "doubled_grids" ["line", "widths", "standing", "many"] 5 (spD K 0 F_doubled_grids)) (DL_doubled_grids : Df P w K mg base "doubled_grids" ["line", "widths", "standing", "many"] 5 (spL K 0 L_doubled_grids)) (D_gone_on : Df P w K mg base "gone_on" ["grids", "way", "many", "counts"] 3 (spD K 0 F_gone_on)) (D_noughts : Df P w K mg base "noughts" ["line"] 2 (spD K 0 F_noughts)) : FnG P w K mg base 6 f fd ["line", "widths", "standing", "way", "many"] (spD K 0 F_counts) := by
  unfold F_counts
  exact okD F sc_counts (s_counts K) fun cdv A outer s H hG hr => (pss_cons (ps_set (i := 5) sc_counts.nd rfl (by first | exact .inl rfl | exact .inr rfl) (pe_df D_doubled_grids hG (hr.mono (by decide)) (by rfl) (pa_cons (pv 0) (pa_cons (pv 1) (pa_cons (pv 2) (pa_cons (pv 4) pa_nil)))))) (pss_one (ps_ret (pe_tupleOf (by rfl) N.tuple (pe_df D_gone_on hG (hr.mono (by decide)) (by rfl) (pa_cons (pv 5) (pa_cons (pv 3) (pa_cons (pv 4) (pa_cons (pe_df D_noughts hG (hr.mono (by decide)) (by rfl) (pa_cons (pv 0) pa_nil)) pa_nil)))))))))
end
end Ke
namespace Ke
open PySem PySem.Spec PyProof.Rows L2 Xg Dv Kd
section
variable {P : Program} {w : World} {K : PySem.W.Frag} {mg : Str → Option Value} {base : Heap}
theorem sc_far : FnScope ["line", "widths", "standing", "way", "many"] ["line", "widths", "standing", "way", "many"] (defScope (topS 27)) := ⟨rfl, rfl, rfl, by decide +kernel, rfl, by decide +kernel, by decide +kernel⟩
theorem ok_far {f : Addr} {fd : FuncData} (F : Fun K "far" "far" (topS 27) f fd) (N : Nm mg) (D_counts : Df P w K mg base "counts" ["line", "widths", "standing", "way", "many"] 6 (spD K 0 F_counts)) (D_led_to : Df P w K mg base "led_to" ["standing", "counts"] 1 (spD K 0 F_led_to)) : FnG P w K mg base 7 f fd ["line", "widths", "standing", "way", "many"] (spD K 0 F_far) := by
  unfold F_far
  exact okD F sc_far (s_far K) fun cdv A outer s H hG hr => (pss_one (ps_ret (pe_df D_led_to hG (hr.mono (by decide)) (by rfl) (pa_cons (pv 2) (pa_cons (pe_df D_counts hG (hr.mono (by decide)) (by rfl) (pa_cons (pv 0) (pa_cons (pv 1) (pa_cons (pv 2) (pa_cons (pv 3) (pa_cons (pv 4) pa_nil)))))) pa_nil)))))
end
end Ke
namespace Ke
open PySem PySem.Spec PyProof.Rows L2 Xg Dv Kd
section
variable {P : Program} {w : World} {K : PySem.W.Frag} {mg : Str → Option Value} {base : Heap}
theorem sc__law_pick : FnScope ["_law_box_here", "_law_some"] ["_law_box_here", "_law_some"] (defScope (topS 31)) := ⟨rfl, rfl, rfl, by decide +kernel, rfl, by decide +kernel, by decide +kernel⟩
theorem ok__law_pick {f : Addr} {fd : FuncData} (F : Fun K "_law_pick" "_law_pick" (topS 31) f fd) (N : Nm mg) (D__law_take : Df P w K mg base "_law_take" ["_law_box_here", "_law_below"] 1 (spD K 1 F_take)) : FnG P w K mg base 2 f fd ["_law_box_here", "_law_some"] (spD K 1 F__law_pick) := by
  unfold F__law_pick
  exact okD F sc__law_pick (s__law_pick K) fun cdv A outer s H hG hr => (pss_one (ps_ret (pe_ix ix_seq (pv 1) (pe_df D__law_take hG (hr.mono (by decide)) (by rfl) (pa_cons (pv 0) (pa_cons (pe_callB call_len (by rfl) N.len PySem.boot_len (pa_cons (pv 1) pa_nil)) pa_nil))) (fun _ _ => rfl))))
end
end Ke
namespace Ke
open PySem PySem.Spec PyProof.Rows L2 Xg Dv Kd
section
variable {P : Program} {w : World} {K : PySem.W.Frag} {mg : Str → Option Value} {base : Heap}
theorem sc__law_line : FnScope ["_law_box_here", "_law_most", "_law_high", "_law_form", "_law_top", "_law_least", "_law_size", "_law_k"] ["_law_box_here", "_law_most", "_law_high"] (defScope (topS 33)) := ⟨rfl, rfl, rfl, by decide +kernel, rfl, by decide +kernel, by decide +kernel⟩
theorem ok__law_line {f : Addr} {fd : FuncData} (F : Fun K "_law_line" "_law_line" (topS 33) f fd) (N : Nm mg) (D__law_pick : Df P w K mg base "_law_pick" ["_law_box_here", "_law_some"] 2 (spD K 1 F__law_pick)) (D__law_take : Df P w K mg base "_law_take" ["_law_box_here", "_law_below"] 1 (spD K 1 F_take)) : FnG P w K mg base 3 f fd ["_law_box_here", "_law_most", "_law_high"] (spD K 103 F__law_line) := by
  unfold F__law_line
  exact okD F sc__law_line (s__law_line K) fun cdv A outer s H hG hr => (pss_cons (ps_asg (pe_tup (pa_cons (pe_df D__law_pick hG (hr.mono (by decide)) (by rfl) (pa_cons (pv 0) (pa_cons (pe_lst (pa_cons pe_str (pa_cons pe_str (pa_cons pe_str pa_nil)))) pa_nil))) (pa_cons (pe_df D__law_pick hG (hr.mono (by decide)) (by rfl) (pa_cons (pv 0) (pa_cons (pe_lst (pa_cons pe_int (pa_cons pe_int (pa_cons (pv 2) (pa_cons (pv 2) pa_nil))))) pa_nil))) pa_nil))) (pg_or (pg_tup rfl (pgs_cons (pg_name (i := 3) sc__law_line.nd rfl (by first | exact .inl rfl | exact .inr rfl)) (pgs_cons (pg_name (i := 4) sc__law_line.nd rfl (by first | exact .inl rfl | exact .inr rfl)) pgs_nil))) (pg_lst rfl (pgs_cons (pg_name (i := 3) sc__law_line.nd rfl (by first | exact .inl rfl | exact .inr rfl)) (pgs_cons (pg_name (i := 4) sc__law_line.nd rfl (by first | exact .inl rfl | exact .inr rfl)) pgs_nil))))) (pss_cons (ps_set (i := 5) sc__law_line.nd rfl (by first | exact .inl rfl | exact .inr rfl) (pe_op op_addX pe_int (pe_callTy call_int1 (by rfl) N.int (by decide +kernel) (pa_cons (pe_cmpR (op_eqX hr.units) (pv 3) pe_str (nomark _)) pa_nil)))) (pss_cons (ps_set (i := 6) sc__law_line.nd rfl (by first | exact .inl rfl | exact .inr rfl) (pe_op op_addX (pv 5) (pe_df D__law_take hG (hr.mono (by decide)) (by rfl) (pa_cons (pv 0) (pa_cons (pe_op op_sub (pe_op op_addX (pv 1) pe_int) (pv 5)) pa_nil))))) (pss_one (ps_ret (pe_tup (pa_cons (pv 3) (pa_cons (pe_tupleOf (by rfl) N.tuple (pe_lc (own := [("_law_k", 7)]) rfl sc__law_line.nd (pi_range1 (by rfl) N.range (pa_cons (pv 6) pa_nil)) (blkOk_by (N := ["_law_box_here", "_law_most", "_law_high", "_law_form", "_law_top", "_law_least", "_law_size", "_law_k"]) (sc := defScope (topS 33)) (by decide +kernel)) (fun _ _ _ _ _ => (pg_name (i := 7) sc__law_line.nd rfl (by first | exact .inl rfl | exact .inr rfl))) (fun _ _ _ _ _ => pts_nil) (fun _ _ _ _ _ => (pe_op op_addX pe_int (pe_df D__law_take hG (hr.mono (by decide)) (by rfl) (pa_cons (pv 0) (pa_cons (pv 4) pa_nil))))))) pa_nil))))))))
end
end Ke
namespace Ke
open PySem PySem.Spec PyProof.Rows L2 Xg Dv Kd
section
variable {P : Program} {w : World} {K : PySem.W.Frag} {mg : Str → Option Value} {base : Heap}
theorem sc__law_gates : FnScope ["_law_line_here"] ["_law_line_here"] (defScope (topS 34)) := ⟨rfl, rfl, rfl, by decide +kernel, rfl, by decide +kernel, by decide +kernel⟩
theorem ok__law_gates {f : Addr} {fd : FuncData} (F : Fun K "_law_gates" "_law_gates" (topS 34) f fd) (N : Nm mg) : FnG P w K mg base 1 f fd ["_law_line_here"] (spD K 0 F__law_gates) := by
  unfold F__law_gates
  exact okD F sc__law_gates (s__law_gates K) fun cdv A outer s H hG hr => (pss_one (ps_ret (pe_op op_addX (pe_callB call_len (by rfl) N.len PySem.boot_len (pa_cons (pe_ix ix_seq (pv 0) pe_int (fun _ _ => rfl)) pa_nil)) (pe_callTy call_int1 (by rfl) N.int (by decide +kernel) (pa_cons (pe_cmpR (op_eqX hr.units) (pe_ix ix_seq (pv 0) pe_int (fun _ _ => rfl)) pe_str (nomark _)) pa_nil)))))
end
end Ke
namespace Ke
open PySem PySem.Spec PyProof.Rows L2 Xg Dv Kd
section
variable {P : Program} {w : World} {K : PySem.W.Frag} {mg : Str → Option Value} {base : Heap}
theorem sc__law_widths : FnScope ["_law_box_here", "_law_line_here", "_law_high", "_law_some", "_law_found", "_law_gate", "_law_width"] ["_law_box_here", "_law_line_here", "_law_high"] (defScope (topS 35)) := ⟨rfl, rfl, rfl, by decide +kernel, rfl, by decide +kernel, by decide +kernel⟩
theorem ok__law_widths {f : Addr} {fd : FuncData} (F : Fun K "_law_widths" "_law_widths" (topS 35) f fd) (N : Nm mg) (D__law_gates : Df P w K mg base "_law_gates" ["_law_line_here"] 1 (spD K 0 F__law_gates)) (D__law_pick : Df P w K mg base "_law_pick" ["_law_box_here", "_law_some"] 2 (spD K 1 F__law_pick)) (D__law_take : Df P w K mg base "_law_take" ["_law_box_here", "_law_below"] 1 (spD K 1 F_take)) : FnG P w K mg base 3 f fd ["_law_box_here", "_law_line_here", "_law_high"] (spD K 202 F__law_widths) := by
  unfold F__law_widths
  exact okD F sc__law_widths (s__law_widths K) fun cdv A outer s H hG hr => (pss_cons (ps_set (i := 3) sc__law_widths.nd rfl (by first | exact .inl rfl | exact .inr rfl) (pe_df D__law_pick hG (hr.mono (by decide)) (by rfl) (pa_cons (pv 0) (pa_cons (pe_lst (pa_cons (pe_lst (pa_cons pe_non pa_nil)) (pa_cons (pe_lst (pa_cons pe_non (pa_cons pe_non (pa_cons (pv 2) pa_nil)))) (pa_cons (pe_lst (pa_cons (pv 2) pa_nil)) (pa_cons (pe_lst (pa_cons pe_int (pa_cons pe_int (pa_cons (pv 2) (pa_cons pe_non pa_nil))))) (pa_cons (pe_lst (pa_cons pe_int (pa_cons pe_int (pa_cons (pv 2) pa_nil)))) pa_nil)))))) pa_nil)))) (pss_cons (ps_set (i := 4) sc__law_widths.nd rfl (by first | exact .inl rfl | exact .inr rfl) (pe_lst pa_nil)) (pss_cons (ps_for PassesOwn.never rfl (pi_range1 (by rfl) N.range (pa_cons (pe_df D__law_gates hG (hr.mono (by decide)) (by rfl) (pa_cons (pv 1) pa_nil)) pa_nil)) (pg_name (i := 5) sc__law_widths.nd rfl (by first | exact .inl rfl | exact .inr rfl)) (pss_cons (ps_set (i := 6) sc__law_widths.nd rfl (by first | exact .inl rfl | exact .inr rfl) (pe_df D__law_pick hG (hr.mono (by decide)) (by rfl) (pa_cons (pv 0) (pa_cons (pv 3) pa_nil)))) (pss_one (ps_expr (pe_bm PySem.F.plainAttrs_list PySem.F.slot_list_append PySem.F.type_list_append mt_append (pv 4) (pa_cons (pe_ifExp (L2.PW.pt (pw_or (pt_cmpR op_isN (pv 6) pe_non (nomark _)) (pw_or1 (pt_cmpR op_lt (pv 6) pe_int (nomark _))))) (pv 6) (pe_op op_addX pe_int (pe_df D__law_take hG (hr.mono (by decide)) (by rfl) (pa_cons (pv 0) (pa_cons (pv 6) pa_nil))))) pa_nil)))))) (pss_cons (ps_if (L2.PW.pt (pw_and (pt_cmpR (op_eqX hr.units) (pe_ix ix_seq (pv 1) pe_int (fun _ _ => rfl)) pe_str (nomark _)) (pw_and1 (pt_cmpR (op_eqX hr.units) (pe_df D__law_take hG (hr.mono (by decide)) (by rfl) (pa_cons (pv 0) (pa_cons pe_int pa_nil))) pe_int (nomark _))))) (pss_one (ps_set (i := 4) sc__law_widths.nd rfl (by first | exact .inl rfl | exact .inr rfl) (pe_op op_cat (pe_op op_addX (pe_lst (pa_cons pe_int pa_nil)) (pe_slice sl_X (pv 4) (po_some pe_int) (po_some (pe_un un_neg pe_int)))) (pe_lst (pa_cons pe_int pa_nil))))) pss_nil) (pss_one (ps_ret (pe_tupleOf (by rfl) N.tuple (pv 4))))))))
end
end Ke
namespace Ke
open PySem PySem.Spec PyProof.Rows L2 Xg Dv Kd
section
variable {P : Program} {w : World} {K : PySem.W.Frag} {mg : Str → Option Value} {base : Heap}
theorem sc__law_lot : FnScope ["_law_box_here", "_law_line_here", "_law_way", "_law_found", "_law_room", "_law_part"] ["_law_box_here", "_law_line_here"] (defScope (topS 36)) := ⟨rfl, rfl, rfl, by decide +kernel, rfl, by decide +kernel, by decide +kernel⟩
theorem ok__law_lot {f : Addr} {fd : FuncData} (F : Fun K "_law_lot" "_law_lot" (topS 36) f fd) (N : Nm mg) (D__law_take : Df P w K mg base "_law_take" ["_law_box_here", "_law_below"] 1 (spD K 1 F_take)) : FnG P w K mg base 2 f fd ["_law_box_here", "_law_line_here"] (spD K 201 F__law_lot) := by
  unfold F__law_lot
  exact okD F sc__law_lot (s__law_lot K) fun cdv A outer s H hG hr => (pss_cons (ps_set (i := 2) sc__law_lot.nd rfl (by first | exact .inl rfl | exact .inr rfl) (pe_df D__law_take hG (hr.mono (by decide)) (by rfl) (pa_cons (pv 0) (pa_cons pe_int pa_nil)))) (pss_cons (ps_set (i := 3) sc__law_lot.nd rfl (by first | exact .inl rfl | exact .inr rfl) (pe_lst pa_nil)) (pss_cons (ps_for PassesOwn.never rfl (Pw.pi_seq (pe_ix ix_seq (pv 1) pe_int (fun _ _ => rfl))) (pg_name (i := 4) sc__law_lot.nd rfl (by first | exact .inl rfl | exact .inr rfl)) (pss_cons (ps_set (i := 5) sc__law_lot.nd rfl (by first | exact .inl rfl | exact .inr rfl) (pe_df D__law_take hG (hr.mono (by decide)) (by rfl) (pa_cons (pv 0) (pa_cons (pe_op op_addX (pv 4) pe_int) pa_nil)))) (pss_one (ps_expr (pe_bm PySem.F.plainAttrs_list PySem.F.slot_list_append PySem.F.type_list_append mt_append (pv 3) (pa_cons (pe_ifExp (pt_cmpR (op_eqX hr.units) (pv 2) pe_int (nomark _)) (pe_ix ix_seq (pe_lst (pa_cons (pv 5) (pa_cons pe_int (pa_cons (pv 4) pa_nil)))) (pe_df D__law_take hG (hr.mono (by decide)) (by rfl) (pa_cons (pv 0) (pa_cons pe_int pa_nil))) (fun _ _ => rfl)) (pv 5)) pa_nil)))))) (pss_one (ps_ret (pe_tupleOf (by rfl) N.tuple (pv 3)))))))
end
end Ke
namespace Ke
open PySem PySem.Spec PyProof.Rows L2 Xg Dv Kd
section
variable {P : Program} {w : World} {K : PySem.W.Frag} {mg : Str → Option Value} {base : Heap}
theorem sc__law_moved : FnScope ["_law_line_here", "_law_widths_here", "_law_lot_here", "_law_way", "_law_rooms", "_law_found", "_law_gate", "_law_width", "_law_least"] ["_law_line_here", "_law_widths_here", "_law_lot_here", "_law_way"] (defScope (topS 37)) := ⟨rfl, rfl, rfl, by decide +kernel, rfl, by decide +kernel, by decide +kernel⟩
theorem ok__law_moved {f : Addr} {fd : FuncData} (F : Fun K "_law_moved" "_law_moved" (topS 37) f fd) (N : Nm mg) : FnG P w K mg base 1 f fd ["_law_line_here", "_law_widths_here", "_law_lot_here", "_law_way"] (spD K 0 F__law_moved) := by
  unfold F__law_moved
  exact okD F sc__law_moved (s__law_moved K) fun cdv A outer s H hG hr => (pss_cons (ps_par (i := 4) (j := 5) rfl sc__law_moved.nd rfl rfl (by decide) rfl rfl (pa_cons (pe_ix ix_seq (pv 0) pe_int (fun _ _ => rfl)) (pa_cons (pe_lst pa_nil) pa_nil)) (by rfl)) (pss_cons (ps_for PassesOwn.never rfl (Pw.pi_enumX (by rfl) N.enumerate (pa_cons (pv 1) pa_nil)) (pg_or (pg_tup rfl (pgs_cons (pg_name (i := 6) sc__law_moved.nd rfl (by first | exact .inl rfl | exact .inr rfl)) (pgs_cons (pg_name (i := 7) sc__law_moved.nd rfl (by first | exact .inl rfl | exact .inr rfl)) pgs_nil))) (pg_lst rfl (pgs_cons (pg_name (i := 6) sc__law_moved.nd rfl (by first | exact .inl rfl | exact .inr rfl)) (pgs_cons (pg_name (i := 7) sc__law_moved.nd rfl (by first | exact .inl rfl | exact .inr rfl)) pgs_nil)))) (pss_cons (ps_set (i := 8) sc__law_moved.nd rfl (by first | exact .inl rfl | exact .inr rfl) (pe_ifExp (pt_cmpR op_isN (pv 7) pe_non (nomark _)) (pe_lst pa_nil) (pe_lst (pa_cons (pv 7) pa_nil)))) (pss_cons (ps_if (L2.PW.pt (pw_or (pt_cmpR (op_eqX hr.units) (pe_ix ix_seq (pv 0) pe_int (fun _ _ => rfl)) pe_str (nomark _)) (pw_or1 (pt_cmpR op_gt (pv 6) pe_int (nomark _))))) (pss_one (ps_expr (pe_bm PySem.F.plainAttrs_list PySem.F.slot_list_append PySem.F.type_list_append mt_append (pv 8) (pa_cons (pe_ifExp (pt_cmpR (op_eqX hr.units) (pv 3) pe_str (nomark _)) (pe_ix ix_seq (pv 2) (pe_op op_sub (pv 6) pe_int) (fun _ _ => rfl)) (pe_op op_sub (pe_ix ix_seq (pv 4) (pe_op op_sub (pv 6) pe_int) (fun _ _ => rfl)) (pe_ix ix_seq (pv 2) (pe_op op_sub (pv 6) pe_int) (fun _ _ => rfl)))) pa_nil)))) pss_nil) (pss_cons (ps_if (L2.PW.pt (pw_or (pt_cmpR (op_eqX hr.units) (pe_ix ix_seq (pv 0) pe_int (fun _ _ => rfl)) pe_str (nomark _)) (pw_or1 (pt_cmpR op_lt (pv 6) (pe_callB call_len (by rfl) N.len PySem.boot_len (pa_cons (pv 4) pa_nil)) (nomark _))))) (pss_one (ps_expr (pe_bm PySem.F.plainAttrs_list PySem.F.slot_list_append PySem.F.type_list_append mt_append (pv 8) (pa_cons (pe_ifExp (pt_cmpR (op_eqX hr.units) (pv 3) pe_str (nomark _)) (pe_op op_sub (pe_ix ix_seq (pv 4) (pv 6) (fun _ _ => rfl)) (pe_ix ix_seq (pv 2) (pv 6) (fun _ _ => rfl))) (pe_ix ix_seq (pv 2) (pv 6) (fun _ _ => rfl))) pa_nil)))) pss_nil) (pss_one (ps_expr (pe_bm PySem.F.plainAttrs_list PySem.F.slot_list_append PySem.F.type_list_append mt_append (pv 5) (pa_cons (pe_callB (cr_min rfl) (by rfl) N.min (by decide +kernel) (pa_cons (pv 8) pa_nil)) pa_nil)))))))) (pss_one (ps_ret (pv 5)))))
theorem okL__law_moved {f : Addr} {fd : FuncData} (F : Fun K "_law_moved" "_law_moved" (topS 37) f fd) (N : Nm mg) : FnG P w K mg base 1 f fd ["_law_line_here", "_law_widths_here", "_law_lot_here", "_law_way"] (spL K 0 L__law_moved) := by
  unfold L__law_moved
  exact okL F sc__law_moved (s__law_moved K) fun cdv A outer s H hG hr => (pss_cons (ps_par (i := 4) (j := 5) rfl sc__law_moved.nd rfl rfl (by decide) rfl rfl (pa_cons (pe_ix ix_seq (pv 0) pe_int (fun _ _ => rfl)) (pa_cons (pe_lst pa_nil) pa_nil)) (by rfl)) (pss_cons (ps_for PassesOwn.never rfl (Pw.pi_enumX (by rfl) N.enumerate (pa_cons (pv 1) pa_nil)) (pg_or (pg_tup rfl (pgs_cons (pg_name (i := 6) sc__law_moved.nd rfl (by first | exact .inl rfl | exact .inr rfl)) (pgs_cons (pg_name (i := 7) sc__law_moved.nd rfl (by first | exact .inl rfl | exact .inr rfl)) pgs_nil))) (pg_lst rfl (pgs_cons (pg_name (i := 6) sc__law_moved.nd rfl (by first | exact .inl rfl | exact .inr rfl)) (pgs_cons (pg_name (i := 7) sc__law_moved.nd rfl (by first | exact .inl rfl | exact .inr rfl)) pgs_nil)))) (pss_cons (ps_set (i := 8) sc__law_moved.nd rfl (by first | exact .inl rfl | exact .inr rfl) (pe_ifExp (pt_cmpR op_isN (pv 7) pe_non (nomark _)) (pe_lst pa_nil) (pe_lst (pa_cons (pv 7) pa_nil)))) (pss_cons (ps_if (L2.PW.pt (pw_or (pt_cmpR (op_eqX hr.units) (pe_ix ix_seq (pv 0) pe_int (fun _ _ => rfl)) pe_str (nomark _)) (pw_or1 (pt_cmpR op_gt (pv 6) pe_int (nomark _))))) (pss_one (ps_expr (pe_bm PySem.F.plainAttrs_list PySem.F.slot_list_append PySem.F.type_list_append mt_append (pv 8) (pa_cons (pe_ifExp (pt_cmpR (op_eqX hr.units) (pv 3) pe_str (nomark _)) (pe_ix ix_seq (pv 2) (pe_op op_sub (pv 6) pe_int) (fun _ _ => rfl)) (pe_op op_sub (pe_ix ix_seq (pv 4) (pe_op op_sub (pv 6) pe_int) (fun _ _ => rfl)) (pe_ix ix_seq (pv 2) (pe_op op_sub (pv 6) pe_int) (fun _ _ => rfl)))) pa_nil)))) pss_nil) (pss_cons (ps_if (L2.PW.pt (pw_or (pt_cmpR (op_eqX hr.units) (pe_ix ix_seq (pv 0) pe_int (fun _ _ => rfl)) pe_str (nomark _)) (pw_or1 (pt_cmpR op_lt (pv 6) (pe_callB call_len (by rfl) N.len PySem.boot_len (pa_cons (pv 4) pa_nil)) (nomark _))))) (pss_one (ps_expr (pe_bm PySem.F.plainAttrs_list PySem.F.slot_list_append PySem.F.type_list_append mt_append (pv 8) (pa_cons (pe_ifExp (pt_cmpR (op_eqX hr.units) (pv 3) pe_str (nomark _)) (pe_op op_sub (pe_ix ix_seq (pv 4) (pv 6) (fun _ _ => rfl)) (pe_ix ix_seq (pv 2) (pv 6) (fun _ _ => rfl))) (pe_ix ix_seq (pv 2) (pv 6) (fun _ _ => rfl))) pa_nil)))) pss_nil) (pss_one (ps_expr (pe_bm PySem.F.plainAttrs_list PySem.F.slot_list_append PySem.F.type_list_append mt_append (pv 5) (pa_cons (pe_callB (cr_min rfl) (by rfl) N.min (by decide +kernel) (pa_cons (pv 8) pa_nil)) pa_nil)))))))) (pss_one (ps_ret (pv 5)))))
end
end Ke
namespace Ke
open PySem PySem.Spec PyProof.Rows L2 Xg Dv Kd
section
variable {P : Program} {w : World} {K : PySem.W.Frag} {mg : Str → Option Value} {base : Heap}
theorem sc__law_gone : FnScope ["_law_line_here", "_law_widths_here", "_law_lot_here", "_law_way", "_law_often", "_law_sign", "_law_total", "_law_turn", "_law_went", "_law_part", "_law_more", "_law_k"] ["_law_line_here", "_law_widths_here", "_law_lot_here", "_law_way", "_law_often"] (defScope (topS 38)) := ⟨rfl, rfl, rfl, by decide +kernel, rfl, by decide +kernel, by decide +kernel⟩
theorem ok__law_gone {f : Addr} {fd : FuncData} (F : Fun K "_law_gone" "_law_gone" (topS 38) f fd) (N : Nm mg) (D__law_moved : Df P w K mg base "_law_moved" ["_law_line_here", "_law_widths_here", "_law_lot_here", "_law_way"] 1 (spD K 0 F__law_moved)) (DL__law_moved : Df P w K mg base "_law_moved" ["_law_line_here", "_law_widths_here", "_law_lot_here", "_law_way"] 1 (spL K 0 L__law_moved)) : FnG P w K mg base 2 f fd ["_law_line_here", "_law_widths_here", "_law_lot_here", "_law_way", "_law_often"] (spD K 0 F__law_gone) := by
  unfold F__law_gone
  exact okD F sc__law_gone (s__law_gone K) fun cdv A outer s H hG hr => (pss_cons (ps_asg (pe_tup (pa_cons (pe_ifExp (pt_cmpR (op_eqX hr.units) (pv 3) pe_str (nomark _)) pe_int (pe_un un_neg pe_int)) (pa_cons (pe_op op_mulX (pe_lst (pa_cons pe_int pa_nil)) (pe_callB call_len (by rfl) N.len PySem.boot_len (pa_cons (pv 1) pa_nil))) pa_nil))) (pg_or (pg_tup rfl (pgs_cons (pg_name (i := 5) sc__law_gone.nd rfl (by first | exact .inl rfl | exact .inr rfl)) (pgs_cons (pg_name (i := 6) sc__law_gone.nd rfl (by first | exact .inl rfl | exact .inr rfl)) pgs_nil))) (pg_lst rfl (pgs_cons (pg_name (i := 5) sc__law_gone.nd rfl (by first | exact .inl rfl | exact .inr rfl)) (pgs_cons (pg_name (i := 6) sc__law_gone.nd rfl (by first | exact .inl rfl | exact .inr rfl)) pgs_nil))))) (pss_cons (ps_for PassesOwn.never rfl (pi_range1 (by rfl) N.range (pa_cons (pv 4) pa_nil)) (pg_name (i := 7) sc__law_gone.nd rfl (by first | exact .inl rfl | exact .inr rfl)) (pss_cons (ps_set (i := 8) sc__law_gone.nd rfl (by first | exact .inl rfl | exact .inr rfl) (pe_lc (own := [("_law_part", 9)]) rfl sc__law_gone.nd (Pw.pi_seq (pe_df D__law_moved hG (hr.mono (by decide)) (by rfl) (pa_cons (pv 0) (pa_cons (pv 1) (pa_cons (pv 2) (pa_cons (pv 3) pa_nil)))))) (blkOk_by (N := ["_law_line_here", "_law_widths_here", "_law_lot_here", "_law_way", "_law_often", "_law_sign", "_law_total", "_law_turn", "_law_went", "_law_part", "_law_more", "_law_k"]) (sc := defScope (topS 38)) (by decide +kernel)) (fun _ _ _ _ _ => (pg_name (i := 9) sc__law_gone.nd rfl (by first | exact .inl rfl | exact .inr rfl))) (fun _ _ _ _ _ => pts_nil) (fun _ _ _ _ _ => (pe_op op_mulX (pv 5) (pv 9))))) (pss_cons (ps_set (i := 2) sc__law_gone.nd rfl (by first | exact .inl rfl | exact .inr rfl) (pe_tupleOf (by rfl) N.tuple (pe_lc (own := [("_law_k", 11), ("_law_part", 9)]) rfl sc__law_gone.nd (Pw.pi_enumX (by rfl) N.enumerate (pa_cons (pv 2) pa_nil)) (blkOk_by (N := ["_law_line_here", "_law_widths_here", "_law_lot_here", "_law_way", "_law_often", "_law_sign", "_law_total", "_law_turn", "_law_went", "_law_part", "_law_more", "_law_k"]) (sc := defScope (topS 38)) (by decide +kernel)) (fun _ _ _ _ _ => (pg_or (pg_tup rfl (pgs_cons (pg_name (i := 11) sc__law_gone.nd rfl (by first | exact .inl rfl | exact .inr rfl)) (pgs_cons (pg_name (i := 9) sc__law_gone.nd rfl (by first | exact .inl rfl | exact .inr rfl)) pgs_nil))) (pg_lst rfl (pgs_cons (pg_name (i := 11) sc__law_gone.nd rfl (by first | exact .inl rfl | exact .inr rfl)) (pgs_cons (pg_name (i := 9) sc__law_gone.nd rfl (by first | exact .inl rfl | exact .inr rfl)) pgs_nil))))) (fun _ _ _ _ _ => pts_nil) (fun _ _ _ _ _ => (pe_op op_sub (pe_op op_addX (pv 9) (pe_ix ix_seq (pv 8) (pv 11) (fun _ _ => rfl))) (pe_ix ix_seq (pv 8) (pe_op op_mod (pe_op op_addX (pv 11) pe_int) (pe_callB call_len (by rfl) N.len PySem.boot_len (pa_cons (pv 8) pa_nil))) (fun _ _ => rfl))))))) (pss_one (ps_setLc (i := 6) (own := [("_law_part", 9), ("_law_more", 10)]) rfl sc__law_gone.nd rfl rfl (sw_true rfl rfl rfl (by decide +kernel)) (Pw.pi_zipX (by rfl) N.zip (pa_cons (pv 6) (pa_cons (pv 8) pa_nil))) (blkOk_by (N := ["_law_line_here", "_law_widths_here", "_law_lot_here", "_law_way", "_law_often", "_law_sign", "_law_total", "_law_turn", "_law_went", "_law_part", "_law_more", "_law_k"]) (sc := defScope (topS 38)) (by decide +kernel)) (fun _ _ _ _ _ => (pg_or (pg_tup rfl (pgs_cons (pg_name (i := 9) sc__law_gone.nd rfl (by first | exact .inl rfl | exact .inr rfl)) (pgs_cons (pg_name (i := 10) sc__law_gone.nd rfl (by first | exact .inl rfl | exact .inr rfl)) pgs_nil))) (pg_lst rfl (pgs_cons (pg_name (i := 9) sc__law_gone.nd rfl (by first | exact .inl rfl | exact .inr rfl)) (pgs_cons (pg_name (i := 10) sc__law_gone.nd rfl (by first | exact .inl rfl | exact .inr rfl)) pgs_nil))))) (fun _ _ _ _ _ => pts_nil) (fun _ _ _ _ _ => (pe_op op_addX (pv 9) (pv 10)))))))) (pss_one (ps_ret (pe_tup (pa_cons (pv 2) (pa_cons (pe_tupleOf (by rfl) N.tuple (pv 6)) pa_nil)))))))
end
end Ke
namespace Ke
open PySem PySem.Spec PyProof.Rows L2 Xg Dv Kd
section
variable {P : Program} {w : World} {K : PySem.W.Frag} {mg : Str → Option Value} {base : Heap}
theorem sc__law_summed : FnScope ["_law_one", "_law_other", "_law_mine", "_law_its"] ["_law_one", "_law_other"] (defScope (topS 39)) := ⟨rfl, rfl, rfl, by decide +kernel, rfl, by decide +kernel, by decide +kernel⟩
theorem ok__law_summed {f : Addr} {fd : FuncData} (F : Fun K "_law_summed" "_law_summed" (topS 39) f fd) (N : Nm mg) : FnG P w K mg base 1 f fd ["_law_one", "_law_other"] (spD K 0 F__law_summed) := by
  unfold F__law_summed
  exact okD F sc__law_summed (s__law_summed K) fun cdv A outer s H hG hr => (pss_one (ps_ret (pe_tupleOf (by rfl) N.tuple (pe_lc (own := [("_law_mine", 2), ("_law_its", 3)]) rfl sc__law_summed.nd (Pw.pi_zipX (by rfl) N.zip (pa_cons (pv 0) (pa_cons (pv 1) pa_nil))) (blkOk_by (N := ["_law_one", "_law_other", "_law_mine", "_law_its"]) (sc := defScope (topS 39)) (by decide +kernel)) (fun _ _ _ _ _ => (pg_or (pg_tup rfl (pgs_cons (pg_name (i := 2) sc__law_summed.nd rfl (by first | exact .inl rfl | exact .inr rfl)) (pgs_cons (pg_name (i := 3) sc__law_summed.nd rfl (by first | exact .inl rfl | exact .inr rfl)) pgs_nil))) (pg_lst rfl (pgs_cons (pg_name (i := 2) sc__law_summed.nd rfl (by first | exact .inl rfl | exact .inr rfl)) (pgs_cons (pg_name (i := 3) sc__law_summed.nd rfl (by first | exact .inl rfl | exact .inr rfl)) pgs_nil))))) (fun _ _ _ _ _ => pts_nil) (fun _ _ _ _ _ => (pe_op op_addX (pv 2) (pv 3)))))))
end
end Ke
namespace Ke
open PySem PySem.Spec PyProof.Rows L2 Xg Dv Kd
section
variable {P : Program} {w : World} {K : PySem.W.Frag} {mg : Str → Option Value} {base : Heap}
theorem sc__law_right : FnScope ["_law_box_here", "_law_turn", "_law_line_here", "_law_widths_here", "_law_lot_here", "_law_way", "_law_far_on", "_law_few", "_law_more", "_law_here", "_law_went", "_law_there", "_law_rest_went", "_law_found", "_law_later", "_law_step", "_law_signs", "_law_part"] ["_law_box_here"] (defScope (topS 40)) := ⟨rfl, rfl, rfl, by decide +kernel, rfl, by decide +kernel, by decide +kernel⟩
theorem ok__law_right {f : Addr} {fd : FuncData} (F : Fun K "_law_right" "_law_right" (topS 40) f fd) (N : Nm mg) (D__law_gone : Df P w K mg base "_law_gone" ["_law_line_here", "_law_widths_here", "_law_lot_here", "_law_way", "_law_often"] 2 (spD K 0 F__law_gone)) (D__law_line : Df P w K mg base "_law_line" ["_law_box_here", "_law_most", "_law_high"] 3 (spD K 103 F__law_line)) (D__law_lot : Df P w K mg base "_law_lot" ["_law_box_here", "_law_line_here"] 2 (spD K 201 F__law_lot)) (D__law_pick : Df P w K mg base "_law_pick" ["_law_box_here", "_law_some"] 2 (spD K 1 F__law_pick)) (D__law_same : Df P w K mg base "_law_same" ["_law_found", "_law_due"] 6 (spD K 0 F_same)) (D__law_summed : Df P w K mg base "_law_summed" ["_law_one", "_law_other"] 1 (spD K 0 F__law_summed)) (D__law_take : Df P w K mg base "_law_take" ["_law_box_here", "_law_below"] 1 (spD K 1 F_take)) (D__law_widths : Df P w K mg base "_law_widths" ["_law_box_here", "_law_line_here", "_law_high"] 3 (spD K 202 F__law_widths)) (D_counts : Df P w K mg base "counts" ["line", "widths", "standing", "way", "many"] 6 (spD K 0 F_counts)) (D_far : Df P w K mg base "far" ["line", "widths", "standing", "way", "many"] 7 (spD K 0 F_far)) : FnG P w K mg base 8 f fd ["_law_box_here"] (spD K 1536 F__law_right) := by
  unfold F__law_right
  exact okD F sc__law_right (s__law_right K) fun cdv A outer s H hG hr => (pss_cons (ps_for PassesOwn.never rfl (pi_range1 (by rfl) N.range (pa_cons pe_int pa_nil)) (pg_name (i := 1) sc__law_right.nd rfl (by first | exact .inl rfl | exact .inr rfl)) (pss_cons (ps_set (i := 2) sc__law_right.nd rfl (by first | exact .inl rfl | exact .inr rfl) (pe_df D__law_line hG (hr.mono (by decide)) (by rfl) (pa_cons (pv 0) (pa_cons pe_int (pa_cons (pe_df D__law_pick hG (hr.mono (by decide)) (by rfl) (pa_cons (pv 0) (pa_cons (pe_lst (pa_cons pe_int (pa_cons (pe_op op_pow pe_int pe_int) pa_nil))) pa_nil))) pa_nil))))) (pss_cons (ps_par (i := 3) (j := 4) rfl sc__law_right.nd rfl rfl (by decide) rfl rfl (pa_cons (pe_df D__law_widths hG (hr.mono (by decide)) (by rfl) (pa_cons (pv 0) (pa_cons (pv 2) (pa_cons (pe_df D__law_pick hG (hr.mono (by decide)) (by rfl) (pa_cons (pv 0) (pa_cons (pe_lst (pa_cons pe_int (pa_cons (pe_op op_pow pe_int pe_int) pa_nil))) pa_nil))) pa_nil)))) (pa_cons (pe_df D__law_lot hG (hr.mono (by decide)) (by rfl) (pa_cons (pv 0) (pa_cons (pv 2) pa_nil))) pa_nil)) (by rfl)) (pss_cons (ps_asg (pe_tup (pa_cons (pe_ix ix_seq (pe_lst (pa_cons pe_str (pa_cons pe_str pa_nil))) (pe_df D__law_take hG (hr.mono (by decide)) (by rfl) (pa_cons (pv 0) (pa_cons pe_int pa_nil))) (fun _ _ => rfl)) (pa_cons (pe_df D__law_pick hG (hr.mono (by decide)) (by rfl) (pa_cons (pv 0) (pa_cons (pe_lst (pa_cons pe_int (pa_cons (pe_op op_pow pe_int pe_int) (pa_cons (pe_op op_mulX pe_int (pe_op op_pow pe_int pe_int)) pa_nil)))) pa_nil))) pa_nil))) (pg_or (pg_tup rfl (pgs_cons (pg_name (i := 5) sc__law_right.nd rfl (by first | exact .inl rfl | exact .inr rfl)) (pgs_cons (pg_name (i := 6) sc__law_right.nd rfl (by first | exact .inl rfl | exact .inr rfl)) pgs_nil))) (pg_lst rfl (pgs_cons (pg_name (i := 5) sc__law_right.nd rfl (by first | exact .inl rfl | exact .inr rfl)) (pgs_cons (pg_name (i := 6) sc__law_right.nd rfl (by first | exact .inl rfl | exact .inr rfl)) pgs_nil))))) (pss_cons (ps_par (i := 7) (j := 8) rfl sc__law_right.nd rfl rfl (by decide) rfl rfl (pa_cons (pe_df D__law_take hG (hr.mono (by decide)) (by rfl) (pa_cons (pv 0) (pa_cons (pv 6) pa_nil))) (pa_cons (pe_df D__law_take hG (hr.mono (by decide)) (by rfl) (pa_cons (pv 0) (pa_cons (pv 6) pa_nil))) pa_nil)) (by rfl)) (pss_cons (ps_par (i := 9) (j := 10) rfl sc__law_right.nd rfl rfl (by decide) rfl rfl (pa_cons (pe_df D_far hG (hr.mono (by decide)) (by rfl) (pa_cons (pv 2) (pa_cons (pv 3) (pa_cons (pv 4) (pa_cons (pv 5) (pa_cons (pv 7) pa_nil)))))) (pa_cons (pe_df D_counts hG (hr.mono (by decide)) (by rfl) (pa_cons (pv 2) (pa_cons (pv 3) (pa_cons (pv 4) (pa_cons (pv 5) (pa_cons (pv 7) pa_nil)))))) pa_nil)) (by rfl)) (pss_cons (ps_par (i := 11) (j := 12) rfl sc__law_right.nd rfl rfl (by decide) rfl rfl (pa_cons (pe_df D_far hG (hr.mono (by decide)) (by rfl) (pa_cons (pv 2) (pa_cons (pv 3) (pa_cons (pv 9) (pa_cons (pv 5) (pa_cons (pv 8) pa_nil)))))) (pa_cons (pe_df D_counts hG (hr.mono (by decide)) (by rfl) (pa_cons (pv 2) (pa_cons (pv 3) (pa_cons (pv 9) (pa_cons (pv 5) (pa_cons (pv 8) pa_nil)))))) pa_nil)) (by rfl)) (pss_cons (ps_set (i := 13) sc__law_right.nd rfl (by first | exact .inl rfl | exact .inr rfl) (pe_lst (pa_cons (pe_df D_far hG (hr.mono (by decide)) (by rfl) (pa_cons (pv 2) (pa_cons (pv 3) (pa_cons (pv 4) (pa_cons (pv 5) (pa_cons (pe_op op_addX (pv 7) (pv 8)) pa_nil)))))) (pa_cons (pe_df D_counts hG (hr.mono (by decide)) (by rfl) (pa_cons (pv 2) (pa_cons (pv 3) (pa_cons (pv 4) (pa_cons (pv 5) (pa_cons (pe_op op_addX (pv 7) (pv 8)) pa_nil)))))) pa_nil)))) (pss_cons (ps_if (pt_not (pt_val (pe_df D__law_same hG (hr.mono (by decide)) (by rfl) (pa_cons (pv 13) (pa_cons (pe_lst (pa_cons (pv 11) (pa_cons (pe_df D__law_summed hG (hr.mono (by decide)) (by rfl) (pa_cons (pv 10) (pa_cons (pv 12) pa_nil))) pa_nil))) pa_nil))))) (pss_one (ps_ret pe_bl)) pss_nil) (pss_cons (ps_if (pt_cmpR (op_neX hr.units) (pe_df D_far hG (hr.mono (by decide)) (by rfl) (pa_cons (pv 2) (pa_cons (pv 3) (pa_cons (pe_df D_far hG (hr.mono (by decide)) (by rfl) (pa_cons (pv 2) (pa_cons (pv 3) (pa_cons (pv 4) (pa_cons (pv 5) (pa_cons (pv 8) pa_nil)))))) (pa_cons (pv 5) (pa_cons (pv 7) pa_nil)))))) (pv 11) (nomark _)) (pss_one (ps_ret pe_bl)) pss_nil) (pss_cons (ps_asg (pe_df D__law_gone hG (hr.mono (by decide)) (by rfl) (pa_cons (pv 2) (pa_cons (pv 3) (pa_cons (pv 11) (pa_cons (pv 5) (pa_cons pe_int pa_nil)))))) (pg_or (pg_tup rfl (pgs_cons (pg_name (i := 14) sc__law_right.nd rfl (by first | exact .inl rfl | exact .inr rfl)) (pgs_cons (pg_name (i := 15) sc__law_right.nd rfl (by first | exact .inl rfl | exact .inr rfl)) pgs_nil))) (pg_lst rfl (pgs_cons (pg_name (i := 14) sc__law_right.nd rfl (by first | exact .inl rfl | exact .inr rfl)) (pgs_cons (pg_name (i := 15) sc__law_right.nd rfl (by first | exact .inl rfl | exact .inr rfl)) pgs_nil))))) (pss_cons (ps_set (i := 13) sc__law_right.nd rfl (by first | exact .inl rfl | exact .inr rfl) (pe_lst (pa_cons (pe_df D_far hG (hr.mono (by decide)) (by rfl) (pa_cons (pv 2) (pa_cons (pv 3) (pa_cons (pv 4) (pa_cons (pv 5) (pa_cons (pe_op op_addX (pe_op op_addX (pv 7) (pv 8)) pe_int) pa_nil)))))) (pa_cons (pe_df D_counts hG (hr.mono (by decide)) (by rfl) (pa_cons (pv 2) (pa_cons (pv 3) (pa_cons (pv 4) (pa_cons (pv 5) (pa_cons (pe_op op_addX (pe_op op_addX (pv 7) (pv 8)) pe_int) pa_nil)))))) pa_nil)))) (pss_cons (ps_if (pt_not (pt_val (pe_df D__law_same hG (hr.mono (by decide)) (by rfl) (pa_cons (pv 13) (pa_cons (pe_lst (pa_cons (pv 14) (pa_cons (pe_df D__law_summed hG (hr.mono (by decide)) (by rfl) (pa_cons (pe_df D__law_summed hG (hr.mono (by decide)) (by rfl) (pa_cons (pv 10) (pa_cons (pv 12) pa_nil))) (pa_cons (pv 15) pa_nil))) pa_nil))) pa_nil))))) (pss_one (ps_ret pe_bl)) pss_nil) (pss_cons (ps_setLc (i := 16) (own := [("_law_part", 17)]) rfl sc__law_right.nd rfl rfl (sw_true rfl rfl rfl (by decide +kernel)) (Pw.pi_seq (pe_op op_addX (pe_op op_addX (pv 10) (pv 12)) (pv 15))) (blkOk_by (N := ["_law_box_here", "_law_turn", "_law_line_here", "_law_widths_here", "_law_lot_here", "_law_way", "_law_far_on", "_law_few", "_law_more", "_law_here", "_law_went", "_law_there", "_law_rest_went", "_law_found", "_law_later", "_law_step", "_law_signs", "_law_part"]) (sc := defScope (topS 40)) (by decide +kernel)) (fun _ _ _ _ _ => (pg_name (i := 17) sc__law_right.nd rfl (by first | exact .inl rfl | exact .inr rfl))) (fun _ _ _ _ _ => pts_nil) (fun _ _ _ _ _ => (pe_ifExp (pt_cmpR (op_eqX hr.units) (pv 5) pe_str (nomark _)) (pe_cmpR op_ge (pv 17) pe_int (nomark _)) (pe_cmpR op_le (pv 17) pe_int (nomark _))))) (pss_one (ps_if (pt_cmpR (op_inD (un65 hr)) pe_bl (pv 16) (by rfl)) (pss_one (ps_ret pe_bl)) pss_nil)))))))))))))))) (pss_one (ps_ret pe_bl)))
end
end Ke
namespace Ke
open PySem PySem.Spec PyProof.Rows L2 Xg Dv Kd
section
variable {P : Program} {w : World} {K : PySem.W.Frag} {mg : Str → Option Value} {base : Heap}
theorem sc_law : FnScope ["_law_script", "_law_k"] ["_law_script"] (defScope (topS 41)) := ⟨rfl, rfl, rfl, by decide +kernel, rfl, by decide +kernel, by decide +kernel⟩
theorem ok_law {f : Addr} {fd : FuncData} (F : Fun K "law" "law" (topS 41) f fd) (N : Nm mg) (D__law_box : Df P w K mg base "_law_box" ["_law_script", "_law_k"] 1 (spBx K)) (D__law_right : Df P w K mg base "_law_right" ["_law_box_here"] 8 (spD K 1536 F__law_right)) : FnG P w K mg base 9 f fd ["_law_script"] (spD K 153600 F_law) := by
  unfold F_law
  exact okD F sc_law (s_law K) fun cdv A outer s H hG hr => (pss_one (ps_ret (pe_callB (cr_all rfl) (by rfl) N.all (by decide +kernel) (pa_cons (pe_lc (own := [("_law_k", 1)]) rfl sc_law.nd (pi_range1 (by rfl) N.range (pa_cons (pe_op op_addX pe_int (pe_callB (call_min2 rfl) (by rfl) N.min (by decide +kernel) (pa_cons pe_int (pa_cons (pe_callB call_len (by rfl) N.len PySem.boot_len (pa_cons (pv 0) pa_nil)) pa_nil)))) pa_nil)) (blkOk_by (N := ["_law_script", "_law_k"]) (sc := defScope (topS 41)) (by decide +kernel)) (fun _ _ _ _ _ => (pg_name (i := 1) sc_law.nd rfl (by first | exact .inl rfl | exact .inr rfl))) (fun _ _ _ _ _ => pts_nil) (fun _ _ _ _ _ => (pe_df D__law_right hG (hr.mono (by decide)) (by rfl) (pa_cons (pe_df D__law_box hG (hr.mono (by decide)) (by rfl) (pa_cons (pv 0) (pa_cons (pv 1) pa_nil))) pa_nil)))) pa_nil))))
end
end Ke
/-! grids: least prices of walks, and beats -/
namespace Kd
open PySem PySem.Spec PyProof.Rows L2 Xg Dv
def mnO : List Int → Option Int
  | [] => none
  | x :: r => some (mn (x :: r))
theorem mnO_iff {l : List Int} {z : Int} : mnO l = some z ↔ z ∈ l ∧ ∀ y ∈ l, z ≤ y := by
  cases l with
  | nil => simp [mnO]
  | cons x r =>
    show some (mn (x :: r)) = some z ↔ _
    rw [Option.some.injEq]
    constructor
    · rintro rfl
      exact ⟨mn_mem (by simp), fun y hy => mn_le hy⟩
    · intro h
      exact (mn_is h.1 h.2).symm
theorem mnO_ex {l : List Int} (h : l ≠ []) : ∃ z, mnO l = some z := by
  cases l with
  | nil => exact absurd rfl h
  | cons x r => exact ⟨_, rfl⟩
def opl : Option Int → Option Int → Option Int
  | some a, some b => some (a + b)
  | _, _ => none
theorem opl_iff {r c : Option Int} {z : Int} : opl r c = some z ↔ ∃ a b, r = some a ∧ c = some b ∧ z = a + b := by
  cases r <;> cases c <;> simp [opl, eq_comm]
def sums (n : Nat) (r c : Nat → Option Int) : List Int := (List.range n).filterMap fun j => opl (r j) (c j)
theorem mem_sums {n : Nat} {r c : Nat → Option Int} {z : Int} : z ∈ sums n r c ↔ ∃ j a b, j < n ∧ r j = some a ∧ c j = some b ∧ z = a + b := by
  unfold sums
  rw [List.mem_filterMap]
  constructor
  · rintro ⟨j, hj, e⟩
    obtain ⟨a, b, h1, h2, h3⟩ := opl_iff.mp e
    exact ⟨j, a, b, List.mem_range.mp hj, h1, h2, h3⟩
  · rintro ⟨j, a, b, hj, h1, h2, h3⟩
    exact ⟨j, List.mem_range.mpr hj, opl_iff.mpr ⟨a, b, h1, h2, h3⟩⟩
def lsm (n : Nat) (r c : Nat → Option Int) : Option Int := mnO (sums n r c)
theorem lsm_le {n : Nat} {r c : Nat → Option Int} {z m : Int} (h : lsm n r c = some z) : m ≤ z ↔ ∀ j a b, j < n → r j = some a → c j = some b → m ≤ a + b := by
  obtain ⟨h1, h2⟩ := mnO_iff.mp h
  obtain ⟨j, a, b, hj, ha, hb, hz⟩ := mem_sums.mp h1
  constructor
  · intro g j a b hj ha hb
    exact Int.le_trans g (h2 _ (mem_sums.mpr ⟨j, a, b, hj, ha, hb, rfl⟩))
  · intro g
    rw [hz]
    exact g j a b hj ha hb
theorem lsm_ex {n : Nat} {r c : Nat → Option Int} {j : Nat} {a b : Int} (hj : j < n) (ha : r j = some a) (hb : c j = some b) : ∃ z, lsm n r c = some z :=
  mnO_ex fun e => by
    have : a + b ∈ sums n r c := mem_sums.mpr ⟨j, a, b, hj, ha, hb, rfl⟩
    rw [e] at this
    cases this
abbrev Gr := Nat → Nat → Option Int
def nmb (x : List Int) : Nat → Option Int := fun j => some (x.getD j 0)
def ngb (x : List Int) : Nat → Option Int := fun j => some (-x.getD j 0)
def ledG (n : Nat) (G : Gr) (x : List Int) : List Int := vec n fun i => (lsm n (G i) (nmb x)).getD 0
def ledB (n : Nat) (G : Gr) (y : List Int) : List Int := vec n fun j => -(lsm n (fun i => G i j) (ngb y)).getD 0
def chG (n : Nat) (G H : Gr) : Gr := fun i m => lsm n (G i) (fun j => H j m)
section
variable {row : Bool} {rooms h0 x y : List Int} {ws : List (Option Int)} {G H : Gr} {k l : Nat}
abbrev nG (row : Bool) (rooms : List Int) : Nat := gts row rooms.length
/-- k beats of one way by the same widths -/
abbrev bws (b : Bool) (ws : List (Option Int)) (k : Nat) : List (Bool × List (Option Int)) := List.replicate k (b, ws)
theorem bws_add {b : Bool} : bws b ws (k + l) = bws b ws k ++ bws b ws l := List.replicate_append_replicate.symm
theorem bws_tb {b : Bool} : tb (bws b ws k) = bws (!b) ws k := by
  unfold tb bws
  rw [List.reverse_replicate, List.map_replicate]
theorem bws_hr {b : Bool} {n : Nat} (h : ws.length = n) : ∀ s ∈ bws b ws k, s.1 = b ∧ s.2.length = n := fun s m => by
  obtain ⟨_, rfl⟩ := List.mem_replicate.mp m
  exact ⟨rfl, h⟩
theorem run_add {b : Bool} : runX row rooms h0 (bws b ws (k + l)) x = runX row rooms h0 (bws b ws l) (runX row rooms h0 (bws b ws k) x) := by
  rw [bws_add, runX_app]
/-- the grid of k beats -/
structure Gk (row : Bool) (rooms h0 : List Int) (ws : List (Option Int)) (k : Nat) (G : Gr) : Prop where
  iff : ∀ x y : List Int, x.length = nG row rooms → y.length = nG row rooms → (Le (nG row rooms) y (runX row rooms h0 (bws true ws k) x) ↔ ∀ i j a, i < nG row rooms → j < nG row rooms → G i j = some a → y.getD i 0 ≤ a + x.getD j 0)
  rw : ∀ i, i < nG row rooms → ∃ j a, j < nG row rooms ∧ G i j = some a
  cl : ∀ j, j < nG row rooms → ∃ i a, i < nG row rooms ∧ G i j = some a
theorem Gk.ex (g : Gk row rooms h0 ws k G) {i : Nat} (hi : i < nG row rooms) : ∃ z, lsm (nG row rooms) (G i) (nmb x) = some z := by
  obtain ⟨j, a, hj, e⟩ := g.rw i hi
  exact lsm_ex hj e rfl
theorem Gk.exB (g : Gk row rooms h0 ws k G) {j : Nat} (hj : j < nG row rooms) : ∃ z, lsm (nG row rooms) (fun i => G i j) (ngb x) = some z := by
  obtain ⟨i, a, hi, e⟩ := g.cl j hj
  exact lsm_ex hi e rfl
theorem ledG_len {n : Nat} : (ledG n G x).length = n := vec_len
theorem ledB_len {n : Nat} : (ledB n G x).length = n := vec_len
/-- what a grid leads to at most -/
theorem Gk.le (g : Gk row rooms h0 ws k G) {i : Nat} {m : Int} (hi : i < nG row rooms) : m ≤ (ledG (nG row rooms) G x).getD i 0 ↔ ∀ j a, j < nG row rooms → G i j = some a → m ≤ a + x.getD j 0 := by
  unfold ledG
  rw [vec_get hi]
  obtain ⟨z, e⟩ := g.ex (x := x) hi
  rw [e]
  show m ≤ z ↔ _
  rw [lsm_le e]
  constructor
  · intro h j a hj ha
    exact h j a _ hj ha rfl
  · intro h j a b hj ha hb
    cases hb
    exact h j a hj ha
theorem Gk.leB (g : Gk row rooms h0 ws k G) {j : Nat} {m : Int} (hj : j < nG row rooms) : (ledB (nG row rooms) G y).getD j 0 ≤ m ↔ ∀ i a, i < nG row rooms → G i j = some a → y.getD i 0 ≤ a + m := by
  unfold ledB
  rw [vec_get hj]
  obtain ⟨z, e⟩ := g.exB (x := y) hj
  rw [e]
  show -z ≤ m ↔ _
  rw [show -z ≤ m ↔ -m ≤ z by omega, lsm_le e]
  constructor
  · intro h i a hi ha
    have := h i a _ hi ha rfl
    omega
  · intro h i a b hi ha hb
    cases hb
    have := h i a hi ha
    omega
theorem Gk.led (g : Gk row rooms h0 ws k G) (lx : x.length = nG row rooms) : ledG (nG row rooms) G x = runX row rooms h0 (bws true ws k) x := by
  have l1 : (runX row rooms h0 (bws true ws k) x).length = nG row rooms := by rw [runX_len, lx]
  have key : ∀ y : List Int, y.length = nG row rooms → (Le (nG row rooms) y (ledG (nG row rooms) G x) ↔ Le (nG row rooms) y (runX row rooms h0 (bws true ws k) x)) := fun y ly => by
    rw [g.iff x y lx ly]
    constructor
    · intro h i j a hi hj e
      exact (g.le hi).mp (h i hi) j a hj e
    · intro h i hi
      exact (g.le hi).mpr fun j a hj e => h i j a hi hj e
  exact Le.anti ledG_len l1 ((key _ ledG_len).mp Le.refl) ((key _ l1).mpr Le.refl)
theorem Gk.back (n0 : 0 < rooms.length) (lh : h0.length = rooms.length) (lw : ws.length = nG row rooms) (g : Gk row rooms h0 ws k G) (ly : y.length = nG row rooms) : ledB (nG row rooms) G y = runX row rooms h0 (bws false ws k) y := by
  have l1 : (runX row rooms h0 (bws false ws k) y).length = nG row rooms := by rw [runX_len, ly]
  have key : ∀ x : List Int, x.length = nG row rooms → (Le (nG row rooms) (ledB (nG row rooms) G y) x ↔ Le (nG row rooms) (runX row rooms h0 (bws false ws k) y) x) := fun x lx => by
    have z := mates n0 lh (bws true ws k) x y (bws_hr lw) lx ly
    rw [bws_tb] at z
    rw [show (false = !true) from rfl, ← z, g.iff x y lx ly]
    constructor
    · intro h i j a hi hj e
      exact (g.leB hj).mp (h j hj) i a hi e
    · intro h j hj
      exact (g.leB hj).mpr fun i a hi e => h i j a hi hj e
  exact Le.anti ledB_len l1 ((key _ l1).mpr Le.refl) ((key _ ledB_len).mp Le.refl)
theorem Gk.ch (g : Gk row rooms h0 ws k G) (h : Gk row rooms h0 ws l H) : Gk row rooms h0 ws (l + k) (chG (nG row rooms) G H) := by
  refine ⟨fun x y lx ly => ?_, fun i hi => ?_, fun m hm => ?_⟩
  · have l1 : (runX row rooms h0 (bws true ws l) x).length = nG row rooms := by rw [runX_len, lx]
    rw [run_add, g.iff _ y l1 ly, ← h.led lx]
    constructor
    · intro q i m c hi hm e
      have e : lsm (nG row rooms) (G i) (fun j => H j m) = some c := e
      obtain ⟨f1, f2⟩ := mnO_iff.mp e
      obtain ⟨j, a, b, hj, ha, hb, hz⟩ := mem_sums.mp f1
      have z := q i j a hi hj ha
      have z : y.getD i 0 - a ≤ (ledG (nG row rooms) H x).getD j 0 := by omega
      have := (h.le hj).mp z m b hm hb
      omega
    · intro q i j a hi hj e
      have z : y.getD i 0 - a ≤ (ledG (nG row rooms) H x).getD j 0 := (h.le hj).mpr fun m b hm hb => by
        obtain ⟨c, hc⟩ := lsm_ex (r := G i) (c := fun j => H j m) hj e hb
        have z1 := q i m c hi hm hc
        have z2 := (lsm_le hc).mp (Int.le_refl c) j a b hj e hb
        omega
      omega
  · obtain ⟨j, a, hj, ha⟩ := g.rw i hi
    obtain ⟨m, b, hm, hb⟩ := h.rw j hj
    obtain ⟨c, hc⟩ := lsm_ex (r := G i) (c := fun j => H j m) hj ha hb
    exact ⟨m, c, hm, hc⟩
  · obtain ⟨j, b, hj, hb⟩ := h.cl m hm
    obtain ⟨i, a, hi, ha⟩ := g.cl j hj
    obtain ⟨c, hc⟩ := lsm_ex (r := G i) (c := fun j => H j m) hj ha hb
    exact ⟨i, c, hi, hc⟩
/-! one step -/
def gbI (row : Bool) (n i : Nat) : Int := if row = true then (i : Int) - 1 else ((i : Int) - 1) % (n : Int)
theorem gb_iff {n i j : Nat} (n0 : 0 < n) (hi : i < gts row n) (hj : j < gts row n) : (j : Int) = gbI row n i ↔ j < n ∧ (j + 1) % gts row n = i := by
  unfold gbI
  cases row with
  | true =>
    have hi : i < n + 1 := hi
    have hj : j < n + 1 := hj
    show (j : Int) = (i : Int) - 1 ↔ j < n ∧ (j + 1) % (n + 1) = i
    constructor
    · intro e
      refine ⟨by omega, ?_⟩
      rw [Nat.mod_eq_of_lt (by omega)]
      omega
    · rintro ⟨h, e⟩
      rw [Nat.mod_eq_of_lt (by omega)] at e
      omega
  | false =>
    have hi : i < n := hi
    have hj : j < n := hj
    show (j : Int) = ((i : Int) - 1) % (n : Int) ↔ j < n ∧ (j + 1) % n = i
    by_cases z : i = 0
    · subst z
      have e : (((0 : Nat) : Int) - 1) % (n : Int) = (n : Int) - 1 := by
        rw [show ((0 : Nat) : Int) - 1 = ((n : Int) - 1) - (n : Int) by omega, Int.sub_emod_right, Int.emod_eq_of_lt (by omega) (by omega)]
      rw [e]
      constructor
      · intro g
        refine ⟨hj, ?_⟩
        rw [show j + 1 = n by omega, Nat.mod_self]
      · rintro ⟨_, g⟩
        by_cases y : j + 1 = n
        · omega
        · rw [Nat.mod_eq_of_lt (by omega)] at g
          omega
    · rw [Int.emod_eq_of_lt (by omega) (by omega)]
      constructor
      · intro g
        refine ⟨hj, ?_⟩
        rw [Nat.mod_eq_of_lt (by omega)]
        omega
      · rintro ⟨_, g⟩
        by_cases y : j + 1 = n
        · rw [y, Nat.mod_self] at g
          omega
        · rw [Nat.mod_eq_of_lt (by omega)] at g
          omega
def cl1 (row : Bool) (rooms h0 : List Int) (ws : List (Option Int)) (i j : Nat) : List Int :=
  (if i = j then (ws.getD i none).toList else []) ++ (if (j : Int) = gbI row rooms.length i then [h0.getD j 0] else []) ++ (if (i : Int) = gbI row rooms.length j then [rooms.getD i 0 - h0.getD i 0] else [])
def c1 (row : Bool) (rooms h0 : List Int) (ws : List (Option Int)) : Gr := fun i j => mnO (cl1 row rooms h0 ws i j)
theorem mem_cl1 {i j : Nat} {z : Int} : z ∈ cl1 row rooms h0 ws i j ↔ (i = j ∧ ws.getD i none = some z) ∨ ((j : Int) = gbI row rooms.length i ∧ z = h0.getD j 0) ∨ ((i : Int) = gbI row rooms.length j ∧ z = rooms.getD i 0 - h0.getD i 0) := by
  unfold cl1
  rw [List.mem_append, List.mem_append, or_assoc]
  refine or_congr ?_ (or_congr ?_ ?_)
  · by_cases h : i = j
    · rw [if_pos h, Option.mem_toList]
      constructor
      · intro g; exact ⟨h, g⟩
      · intro g; exact g.2
    · rw [if_neg h]
      constructor
      · intro g; cases g
      · intro g; exact absurd g.1 h
  · split
    · rename_i h
      rw [List.mem_singleton]
      constructor
      · intro g; exact ⟨h, g⟩
      · intro g; exact g.2
    · rename_i h
      constructor
      · intro g; cases g
      · intro g; exact absurd g.1 h
  · split
    · rename_i h
      rw [List.mem_singleton]
      constructor
      · intro g; exact ⟨h, g⟩
      · intro g; exact g.2
    · rename_i h
      constructor
      · intro g; cases g
      · intro g; exact absurd g.1 h
theorem one_gk (n0 : 0 < rooms.length) (lh : h0.length = rooms.length) (lw : ws.length = nG row rooms) : Gk row rooms h0 ws 1 (c1 row rooms h0 ws) := by
  have nx : ∀ i, i < rooms.length → (i + 1) % nG row rooms < nG row rooms := fun i hi => Nat.mod_lt _ (by have : rooms.length ≤ gts row rooms.length := gts_le; show 0 < gts row rooms.length; omega)
  have cell : ∀ {i j : Nat} {z : Int}, z ∈ cl1 row rooms h0 ws i j → ∃ a, c1 row rooms h0 ws i j = some a ∧ a ≤ z := fun {i j z} h => by
    obtain ⟨a, e⟩ := mnO_ex (l := cl1 row rooms h0 ws i j) fun e => by rw [e] at h; cases h
    exact ⟨a, e, (mnO_iff.mp e).2 z h⟩
  have nb : ∀ i, i < nG row rooms → ∃ j z, j < nG row rooms ∧ (z ∈ cl1 row rooms h0 ws i j) := fun i hi => by
    by_cases c : i < rooms.length
    · exact ⟨(i + 1) % nG row rooms, _, nx i c, mem_cl1.mpr (.inr (.inr ⟨(gb_iff n0 (nx i c) hi).mpr ⟨c, rfl⟩, rfl⟩))⟩
    · obtain ⟨b, hb, e, _⟩ := bin_of (row := row) (be := h0) n0 lh hi (by cases row with | true => simp; omega | false => rfl)
      exact ⟨b, _, Nat.lt_of_lt_of_le hb gts_le, mem_cl1.mpr (.inr (.inl ⟨(gb_iff n0 hi (Nat.lt_of_lt_of_le hb gts_le)).mpr ⟨hb, e⟩, rfl⟩))⟩
  have nc : ∀ j, j < nG row rooms → ∃ i z, i < nG row rooms ∧ (z ∈ cl1 row rooms h0 ws i j) := fun j hj => by
    by_cases c : j < rooms.length
    · exact ⟨(j + 1) % nG row rooms, _, nx j c, mem_cl1.mpr (.inr (.inl ⟨(gb_iff n0 (nx j c) hj).mpr ⟨c, rfl⟩, rfl⟩))⟩
    · obtain ⟨b, hb, e, _⟩ := bin_of (row := row) (be := h0) n0 lh hj (by cases row with | true => simp; omega | false => rfl)
      exact ⟨b, _, Nat.lt_of_lt_of_le hb gts_le, mem_cl1.mpr (.inr (.inr ⟨(gb_iff n0 hj (Nat.lt_of_lt_of_le hb gts_le)).mpr ⟨hb, e⟩, rfl⟩))⟩
  refine ⟨fun x y lx ly => ?_, fun i hi => ?_, fun j hj => ?_⟩
  · show Le _ y (addL x (cnt row rooms ws (ledL h0 x) true)) ↔ _
    rw [add_le lx, forth_iff ⟨n0, lw, lh, lx⟩]
    constructor
    · intro f i j a hi hj e
      obtain ⟨e1, _⟩ := mnO_iff.mp e
      rcases mem_cl1.mp e1 with ⟨rfl, e2⟩ | ⟨e2, rfl⟩ | ⟨e2, rfl⟩
      · have := f.w i a hi e2
        omega
      · obtain ⟨h1, h2⟩ := (gb_iff n0 hi hj).mp e2
        have := f.b j h1
        rw [h2] at this
        omega
      · obtain ⟨h1, h2⟩ := (gb_iff n0 hj hi).mp e2
        have := f.a i h1
        rw [h2] at this
        omega
    · intro q
      refine ⟨fun j a hj e => ?_, fun i hi => ?_, fun i hi => ?_⟩
      · obtain ⟨b, e1, e2⟩ := cell (mem_cl1.mpr (.inl ⟨rfl, e⟩))
        have := q j j b hj hj e1
        omega
      · have g : i < nG row rooms := Nat.lt_of_lt_of_le hi gts_le
        obtain ⟨b, e1, e2⟩ := cell (mem_cl1.mpr (.inr (.inl ⟨(gb_iff n0 (nx i hi) g).mpr ⟨hi, rfl⟩, rfl⟩)))
        have z := q _ i b (nx i hi) g e1
        show y.getD ((i + 1) % nG row rooms) 0 ≤ _
        omega
      · have g : i < nG row rooms := Nat.lt_of_lt_of_le hi gts_le
        obtain ⟨b, e1, e2⟩ := cell (mem_cl1.mpr (.inr (.inr ⟨(gb_iff n0 (nx i hi) g).mpr ⟨hi, rfl⟩, rfl⟩)))
        have z := q i _ b g (nx i hi) e1
        show y.getD i 0 ≤ x.getD ((i + 1) % nG row rooms) 0 + _
        omega
  · obtain ⟨j, z, hj, hz⟩ := nb i hi
    obtain ⟨a, e, _⟩ := cell hz
    exact ⟨j, a, hj, e⟩
  · obtain ⟨i, z, hi, hz⟩ := nc j hj
    obtain ⟨a, e, _⟩ := cell hz
    exact ⟨i, a, hi, e⟩
/-- the grids of 1, 2, 4, .. steps -/
def pw (row : Bool) (rooms h0 : List Int) (ws : List (Option Int)) : Nat → Gr
  | 0 => c1 row rooms h0 ws
  | t + 1 => chG (nG row rooms) (pw row rooms h0 ws t) (pw row rooms h0 ws t)
theorem pw_gk (n0 : 0 < rooms.length) (lh : h0.length = rooms.length) (lw : ws.length = nG row rooms) : ∀ t, Gk row rooms h0 ws (2 ^ t) (pw row rooms h0 ws t)
  | 0 => one_gk n0 lh lw
  | t + 1 => by
    have z := pw_gk n0 lh lw t
    have g := z.ch z
    rw [show 2 ^ t + 2 ^ t = 2 ^ (t + 1) by rw [Nat.pow_succ]; omega] at g
    exact g
end
end Kd
/-! readings of the program's walks, tables, far -/
namespace Kd
open PySem PySem.Spec PyProof.Rows L2 Xg Dv
theorem comp_fm {g : FG} {tt : FT} {te : FE} {ρ : List Sl} {Q : List PyData → Prop} (h : PyData → Option PyData) : ∀ (ds acc : List PyData), (∀ d ∈ ds, ∀ (A : PyData → Prop) (B : Prop), (∀ y, h d = some y → A y) → (h d = none → B) → g d ρ fun ρ' => tt ρ' fun k => if k = true then te ρ' A else B) → Q (acc ++ ds.filterMap h) → compD g tt te ρ ds acc Q
  | [], acc, _, q => by
    rw [List.filterMap_nil, List.append_nil] at q
    exact q
  | d :: ds, acc, hs, q => hs d (List.mem_cons_self ..) (fun y => compD g tt te ρ ds (acc ++ [y]) Q) (compD g tt te ρ ds acc Q)
    (fun y e => comp_fm h ds _ (fun e he => hs e (List.mem_cons_of_mem _ he)) (by
      rw [List.filterMap_cons_some e] at q
      rw [List.append_assoc]
      exact q))
    (fun e => comp_fm h ds _ (fun e he => hs e (List.mem_cons_of_mem _ he)) (by
      rw [List.filterMap_cons_none e] at q
      exact q))
def rwd (n : Nat) (r : Nat → Option Int) : List PyData := (List.range n).map fun j => oI (r j)
def gd (n : Nat) (G : Gr) : PyData := .list ((List.range n).map fun i => .list (rwd n (G i)))
theorem rwd_len {n : Nat} {r : Nat → Option Int} : (rwd n r).length = n := by unfold rwd; rw [List.length_map, List.length_range]
theorem rwd_nmb {x : List Int} {n : Nat} (h : x.length = n) : x.map PyData.int = rwd n (nmb x) := by
  subst h
  unfold rwd nmb
  conv => lhs; rw [list_vec x]
  unfold vec
  rw [List.map_map]
  rfl
theorem ix_iq {k : Bool} {xs : List Int} {i : Nat} {P : PyData → Prop} (h : i < xs.length) (p : P (.int (xs.getD i 0))) : gIx (iq k xs) (.int (i : Nat)) P := by
  cases k with
  | true => show atQ (L2.atI _ _) P; rw [atI_i h]; exact p
  | false => show atQ (L2.atI _ _) P; rw [atI_i h]; exact p
theorem ix_ws {k : Bool} {ws : List (Option Int)} {i : Nat} {P : PyData → Prop} (h : i < ws.length) (p : P (oI (ws.getD i none))) : gIx (sqd k (ws.map oI)) (.int (i : Nat)) P := by
  have e : L2.atI (ws.map oI) ((i : Nat) : Int) = some (oI (ws.getD i none)) := atI_nat (by
    rw [List.getElem?_map, List.getElem?_eq_getElem h, List.getD_eq_getElem?_getD, List.getElem?_eq_getElem h]
    rfl)
  cases k with
  | true => show atQ (L2.atI _ _) P; rw [e]; exact p
  | false => show atQ (L2.atI _ _) P; rw [e]; exact p
theorem isN_oI {o : Option Int} : isN (oI o) = o.isNone := by cases o <;> rfl
section
variable {k kw ks row : Bool} {rooms h0 x y : List Int} {ws : List (Option Int)} {G H : Gr} {Q : PyData → Prop} {i j n : Nat}
theorem behind_of (n0 : 0 < rooms.length) (q : Q (.int (gbI row rooms.length i))) : F_gate_behind [.dt (ln k row rooms), .dt (.int (i : Nat))] Q := by
  have e : if decide (fm row = "ring") = true then ((0 : Int) < ((rooms.map PyData.int).length : Nat) ∧ Q (.int (((i : Nat) - 1 : Int) % ((rooms.map PyData.int).length : Nat)))) else Q (.int ((i : Nat) - 1 : Int)) := by
    rw [fm_ring, len_i]
    unfold gbI at q
    cases row with
    | true => exact q
    | false => exact ⟨by omega, q⟩
  unfold F_gate_behind
  cases k with
  | true => exact ⟨rfl, e⟩
  | false => exact ⟨rfl, e⟩
theorem isGate_of (h : i < nG row rooms) (q : Q (.bool true)) : F_is_gate [.dt (ln k row rooms), .dt (.int (i : Nat))] Q := by
  unfold F_is_gate
  refine ⟨rfl, num_of ?_⟩
  show if decide ((0 : Int) ≤ (i : Nat)) = true then _ else _
  rw [if_pos (decide_eq_true (by omega))]
  refine gates_of ?_
  show Q (.bool (decide ((i : Int) < (gts row rooms.length : Nat))))
  rw [decide_eq_true (by have : i < gts row rooms.length := h; omega)]
  exact q
theorem costs_fo (n0 : 0 < rooms.length) (lh : h0.length = rooms.length) (lw : ws.length = nG row rooms) (hi : i < nG row rooms) (hj : j < nG row rooms) (q : Q (.list ((cl1 row rooms h0 ws i j).map PyData.int))) :
    F_costs [.dt (ln k row rooms), .dt (sqd kw (ws.map oI)), .dt (iq ks h0), .dt (.int (i : Nat)), .dt (.int (j : Nat))] Q := by
  have s3 : ∀ (acc : List Int), acc.length < 1000 → Q (.list ((acc ++ if (i : Int) = gbI row rooms.length j then [rooms.getD i 0 - h0.getD i 0] else []).map PyData.int)) →
      sSeq (sIf (fTest (eBin gEq (eVar 3) (eCall F_gate_behind (aCons (eVar 0) (aCons (eVar 4) aNil))))) (sApp 7 (eBin (gI fun i j => i - j) (eBin gIx (eVar 6) (eVar 3)) (eBin gIx (eVar 2) (eVar 3)))) sSkip) (sRetO 7)
        [.dt (ln k row rooms), .dt (sqd kw (ws.map oI)), .dt (iq ks h0), .dt (.int (i : Nat)), .dt (.int (j : Nat)), .dt (.str (fm row)), .dt (iq k rooms), .own (acc.map PyData.int)] { nx := fun _ => Q .none, rt := Q, rl := fun ds => Q (.list ds) } := fun acc ha hq => by
    refine behind_of n0 ?_
    show if decide ((i : Int) = gbI row rooms.length j) = true then _ else _
    by_cases z : (i : Int) = gbI row rooms.length j
    · rw [if_pos z] at hq
      rw [if_pos (decide_eq_true z)]
      have hi2 := ((gb_iff n0 hj hi).mp z).1
      refine ix_iq hi2 (ix_iq (by omega) ?_)
      refine ⟨by rw [len_i]; omega, ?_⟩
      rw [List.map_append] at hq
      exact hq
    · rw [if_neg z, List.append_nil] at hq
      rw [if_neg (by rw [decide_eq_true_eq]; exact z)]
      exact hq
  have s2 : ∀ (acc : List Int), acc.length < 900 → Q (.list (((acc ++ if (j : Int) = gbI row rooms.length i then [h0.getD j 0] else []) ++ if (i : Int) = gbI row rooms.length j then [rooms.getD i 0 - h0.getD i 0] else []).map PyData.int)) →
      sSeq (sIf (fTest (eBin gEq (eVar 4) (eCall F_gate_behind (aCons (eVar 0) (aCons (eVar 3) aNil))))) (sApp 7 (eBin gIx (eVar 2) (eVar 4))) sSkip) (sSeq (sIf (fTest (eBin gEq (eVar 3) (eCall F_gate_behind (aCons (eVar 0) (aCons (eVar 4) aNil))))) (sApp 7 (eBin (gI fun i j => i - j) (eBin gIx (eVar 6) (eVar 3)) (eBin gIx (eVar 2) (eVar 3)))) sSkip) (sRetO 7))
        [.dt (ln k row rooms), .dt (sqd kw (ws.map oI)), .dt (iq ks h0), .dt (.int (i : Nat)), .dt (.int (j : Nat)), .dt (.str (fm row)), .dt (iq k rooms), .own (acc.map PyData.int)] { nx := fun _ => Q .none, rt := Q, rl := fun ds => Q (.list ds) } := fun acc ha hq => by
    refine behind_of n0 ?_
    show if decide ((j : Int) = gbI row rooms.length i) = true then _ else _
    by_cases z : (j : Int) = gbI row rooms.length i
    · rw [if_pos z] at hq
      rw [if_pos (decide_eq_true z)]
      have hj2 := ((gb_iff n0 hi hj).mp z).1
      refine ix_iq (by omega) ?_
      refine ⟨by rw [len_i]; omega, ?_⟩
      have h := s3 (acc ++ [h0.getD j 0]) (by rw [List.length_append]; simp; omega) hq
      rw [List.map_append] at h
      exact h
    · rw [if_neg z, List.append_nil] at hq
      rw [if_neg (by rw [decide_eq_true_eq]; exact z)]
      exact s3 acc (by omega) hq
  have s1 : sSeq (sIf (fAnd (fTest (eBin gEq (eVar 3) (eVar 4))) (fTest (eBin gIsNot (eBin gIx (eVar 1) (eVar 3)) (eC .none)))) (sApp 7 (eBin gIx (eVar 1) (eVar 3))) sSkip) (sSeq (sIf (fTest (eBin gEq (eVar 4) (eCall F_gate_behind (aCons (eVar 0) (aCons (eVar 3) aNil))))) (sApp 7 (eBin gIx (eVar 2) (eVar 4))) sSkip) (sSeq (sIf (fTest (eBin gEq (eVar 3) (eCall F_gate_behind (aCons (eVar 0) (aCons (eVar 4) aNil))))) (sApp 7 (eBin (gI fun i j => i - j) (eBin gIx (eVar 6) (eVar 3)) (eBin gIx (eVar 2) (eVar 3)))) sSkip) (sRetO 7)))
        [.dt (ln k row rooms), .dt (sqd kw (ws.map oI)), .dt (iq ks h0), .dt (.int (i : Nat)), .dt (.int (j : Nat)), .dt (.str (fm row)), .dt (iq k rooms), .own []] { nx := fun _ => Q .none, rt := Q, rl := fun ds => Q (.list ds) } := by
    unfold cl1 at q
    show if decide (((i : Nat) : Int) = ((j : Nat) : Int)) = true then _ else _
    by_cases z : i = j
    · rw [if_pos (decide_eq_true (by omega))]
      rw [if_pos z] at q
      refine ix_ws (by omega) ?_
      show if (!isN (oI (ws.getD i none))) = true then _ else _
      rw [isN_oI]
      cases e : ws.getD i none with
      | none =>
        rw [e] at q
        exact s2 [] (by decide) q
      | some w =>
        rw [e] at q
        show if (!false) = true then _ else _
        rw [if_pos (show (!false) = true from rfl)]
        refine ix_ws (by omega) ?_
        rw [e]
        exact ⟨by show 0 < 1000000; decide, s2 [w] (by show 1 < 900; decide) q⟩
    · rw [if_neg (by rw [decide_eq_true_eq]; omega)]
      rw [if_neg z] at q
      exact s2 [] (by decide) q
  unfold F_costs
  cases k with
  | true => exact ⟨rfl, s1⟩
  | false => exact ⟨rfl, s1⟩
theorem minQ_of {l : List Int} (q : Q (oI (mnO l))) : minQ Q .none (.list (l.map PyData.int)) := by
  refine ⟨l, rfl, ?_⟩
  cases l with
  | nil => exact .inl ⟨rfl, q⟩
  | cons a r =>
    refine .inr ⟨by simp, fun m h1 h2 => ?_⟩
    rw [mn_is h1 h2]
    exact q
theorem cost_of (n0 : 0 < rooms.length) (lh : h0.length = rooms.length) (lw : ws.length = nG row rooms) (hi : i < nG row rooms) (hj : j < nG row rooms) (q : Q (oI (c1 row rooms h0 ws i j))) :
    F_cost [.dt (ln k row rooms), .dt (sqd kw (ws.map oI)), .dt (iq ks h0), .dt (.int (i : Nat)), .dt (.int (j : Nat))] Q := by
  unfold F_cost
  refine ⟨rfl, isGate_of hi (isGate_of hj ?_)⟩
  exact costs_fo n0 lh lw hi hj (minQ_of q)
theorem rng_at {n i : Nat} {d : PyData} (h : (rangeD 0 n)[i]? = some d) : i < n ∧ d = .int (i : Nat) := by
  unfold rangeD at h
  rw [List.getElem?_map] at h
  by_cases z : i < n
  · rw [List.getElem?_range z] at h
    exact ⟨z, by have h : PyData.int (0 + (i : Nat)) = d := Option.some.inj h; rw [← h, Int.zero_add]⟩
  · rw [List.getElem?_eq_none (by rw [List.length_range]; omega)] at h
    cases h
theorem comp_row {g : FG} {te : FE} {ρ : List Sl} {R : List PyData → Prop} {ds : List PyData} {n : Nat} (f : Nat → PyData) (hn : ds.length = n) (hs : ∀ i d, i < n → ds[i]? = some d → ∀ P : PyData → Prop, P (f i) → g d ρ fun ρ' => te ρ' P) (q : R ((List.range n).map f)) : compD g fYes te ρ ds [] R := by
  refine comp_at f ds [] 0 (fun i d hd P hp => hs i d (by rw [← hn]; exact (List.getElem?_eq_some_iff.mp hd).1) hd P (by rw [Nat.zero_add] at hp; exact hp)) ?_
  rw [hn, List.nil_append, ← List.range_eq_range']
  exact q
theorem grid1_of (n0 : 0 < rooms.length) (nz : rooms.length ≤ 1000) (lh : h0.length = rooms.length) (lw : ws.length = nG row rooms) (q : Q (gd (nG row rooms) (c1 row rooms h0 ws))) :
    F_grid_of_one [.dt (ln k row rooms), .dt (sqd kw (ws.map oI)), .dt (iq ks h0)] Q := by
  have gb : gts row rooms.length ≤ 1001 := by unfold gts; split <;> omega
  unfold F_grid_of_one
  refine ⟨rfl, gates_of ?_⟩
  refine ⟨⟨by omega, by omega⟩, ?_⟩
  rw [Int.toNat_natCast]
  refine ⟨by rw [range_len]; omega, comp_row (fun i => .list (rwd (nG row rooms) (c1 row rooms h0 ws i))) range_len (fun i d hi hd P hp => ?_) q⟩
  obtain ⟨_, rfl⟩ := rng_at hd
  refine ⟨⟨by omega, by omega⟩, ?_⟩
  rw [Int.toNat_natCast]
  refine ⟨by rw [range_len]; omega, comp_row (fun j => oI (c1 row rooms h0 ws i j)) range_len (fun j d hj hd P hp => ?_) hp⟩
  obtain ⟨_, rfl⟩ := rng_at hd
  exact cost_of n0 lh lw hi hj hp
theorem gd_at {n i : Nat} {G : Gr} {d : PyData} (h : ((List.range n).map fun i => PyData.list (rwd n (G i)))[i]? = some d) : i < n ∧ d = .list (rwd n (G i)) := by
  rw [List.getElem?_map] at h
  by_cases z : i < n
  · rw [List.getElem?_range z] at h
    exact ⟨z, (Option.some.inj h).symm⟩
  · rw [List.getElem?_eq_none (by rw [List.length_range]; omega)] at h
    cases h
theorem rwd_get {n j : Nat} {r : Nat → Option Int} (h : j < n) : (rwd n r).getD j .none = oI (r j) := by
  unfold rwd
  rw [List.getD_eq_getElem?_getD, List.getElem?_map, List.getElem?_range h]
  rfl
theorem columns_fo (n0 : 0 < n) (n9 : n ≤ 9) (q : Q (gd n fun j i => G i j)) : F_columns_of [.dt (gd n G)] Q := by
  unfold F_columns_of
  refine ⟨rfl, (List.range n).map fun i => rwd n (G i), n, ?_, ?_, ?_, ?_, ?_⟩
  · rw [List.map_map]
    rfl
  · intro e
    have := congrArg List.length e
    rw [List.length_map, List.length_range] at this
    simp at this
    omega
  · rw [List.length_map, List.length_range]
    exact n9
  · intro r hr
    obtain ⟨i, _, rfl⟩ := List.mem_map.mp hr
    exact rwd_len
  · have lc : (colD ((List.range n).map fun i => rwd n (G i)) n).length = n := by unfold colD; rw [List.length_map, List.length_range]
    refine ⟨by omega, comp_row (fun j => .list (rwd n fun i => G i j)) lc (fun j d hj hd P hp => ?_) q⟩
    have e : d = .tuple (rwd n fun i => G i j) := by
      unfold colD at hd
      rw [List.getElem?_map, List.getElem?_range hj] at hd
      have hd := Option.some.inj hd
      rw [← hd]
      show PyData.tuple (((List.range n).map fun i => rwd n (G i)).map fun r => r.getD j .none) = _
      rw [List.map_map]
      congr 1
      unfold rwd
      refine List.map_congr_left fun i _ => ?_
      show ((List.range n).map fun j => oI (G i j)).getD j .none = oI (G i j)
      exact rwd_get (r := G i) hj
    rw [e]
    exact hp
theorem zip_rwd {n : Nat} {r c : Nat → Option Int} : zipD (rwd n r) (rwd n c) = (List.range n).map fun j => .tuple [oI (r j), oI (c j)] := by
  unfold zipD rwd
  rw [List.zipWith_map]
  induction List.range n with
  | nil => rfl
  | cons a l ih =>
    rw [List.zipWith_cons_cons, ih]
    rfl
def plD : PyData → Option PyData
  | .tuple [.int a, .int b] => some (.int (a + b))
  | _ => none
theorem pl_oI {a b : Option Int} : plD (.tuple [oI a, oI b]) = (opl a b).map PyData.int := by cases a <;> cases b <;> rfl
theorem least_fo {k2 : Bool} {r c : Nat → Option Int} (hz : n ≤ 1000) (q : Q (oI (lsm n r c))) : F_least_sum [.dt (.list (rwd n r)), .dt (.list (rwd n c))] Q := by
  have e : (zipD (rwd n r) (rwd n c)).filterMap plD = (sums n r c).map PyData.int := by
    rw [zip_rwd, List.filterMap_map]
    unfold sums
    rw [List.map_filterMap]
    refine congrArg (fun f => List.filterMap f (List.range n)) (funext fun j => ?_)
    exact pl_oI
  have lz : (zipD (rwd n r) (rwd n c)).length = n := zip_len rwd_len rwd_len
  unfold F_least_sum
  refine ⟨rfl, show (zipD (rwd n r) (rwd n c)).length ≤ 1000000 ∧ _ from ⟨by omega, comp_fm plD _ _ (fun d hd A B ya no => ?_) ?_⟩⟩
  · rw [zip_rwd] at hd
    obtain ⟨j, _, rfl⟩ := List.mem_map.mp hd
    cases ea : r j with
    | none =>
      rw [ea] at no
      exact no rfl
    | some a =>
      cases eb : c j with
      | none =>
        rw [ea, eb] at no
        exact no rfl
      | some b =>
        rw [ea, eb] at ya
        exact ya _ rfl
  · rw [List.nil_append, e]
    exact minQ_of q
end
end Kd
namespace Kd
open PySem PySem.Spec PyProof.Rows L2 Xg Dv
section
variable {k kw ks row : Bool} {rooms h0 x y : List Int} {ws : List (Option Int)} {G H : Gr} {Q : PyData → Prop} {i j n m : Nat}
theorem ledBy_of (g : Gk row rooms h0 ws m G) (nz : rooms.length ≤ 900) (lx : x.length = nG row rooms) (q : Q (iq false (ledG (nG row rooms) G x))) : F_led_by [.dt (gd (nG row rooms) G), .dt (iq false x)] Q := by
  have gb : nG row rooms ≤ 901 := by show gts row rooms.length ≤ 901; unfold gts; split <;> omega
  have lg : ((List.range (nG row rooms)).map fun i => PyData.list (rwd (nG row rooms) (G i))).length = nG row rooms := by rw [List.length_map, List.length_range]
  unfold F_led_by
  refine ⟨rfl, show _ ∧ _ from ⟨by rw [lg]; omega, comp_vec _ lg (fun i d hd P hp => ?_) q⟩⟩
  obtain ⟨hi, rfl⟩ := gd_at hd
  show F_least_sum [.dt (.list (rwd (nG row rooms) (G i))), .dt (.list (x.map PyData.int))] P
  rw [rwd_nmb lx]
  refine least_fo (k2 := true) (by omega) ?_
  obtain ⟨z, e⟩ := g.ex (x := x) hi
  rw [e] at hp ⊢
  exact hp
theorem neg_vec {x : List Int} (lx : x.length = n) : (vec n fun i => -x.getD i 0).map PyData.int = rwd n (ngb x) := by
  unfold rwd ngb vec
  rw [List.map_map]
  rfl
theorem ledBack_of (g : Gk row rooms h0 ws m G) (n0 : 0 < rooms.length) (nz : rooms.length ≤ 8) (lx : x.length = nG row rooms) (q : Q (iq false (ledB (nG row rooms) G x))) : F_led_back_by [.dt (gd (nG row rooms) G), .dt (iq false x)] Q := by
  have gb : 0 < nG row rooms ∧ nG row rooms ≤ 9 := by show 0 < gts row rooms.length ∧ gts row rooms.length ≤ 9; unfold gts; split <;> omega
  have lg : ((List.range (nG row rooms)).map fun j => PyData.list (rwd (nG row rooms) fun i => G i j)).length = nG row rooms := by rw [List.length_map, List.length_range]
  unfold F_led_back_by
  refine ⟨rfl, show _ ∧ _ from ⟨by rw [len_i]; omega, comp_vec (fun i => -x.getD i 0) (n := nG row rooms) (by rw [len_i, lx]) (fun i d hd P hp => ?_) ?_⟩⟩
  · obtain ⟨_, rfl⟩ := map_at hd
    exact hp
  · refine columns_fo gb.1 gb.2 ?_
    refine show _ ∧ _ from ⟨by rw [lg]; omega, comp_vec _ lg (fun j d hd P hp => ?_) q⟩
    obtain ⟨hj, rfl⟩ := gd_at (G := fun j i => G i j) hd
    show F_least_sum [.dt (.list (rwd (nG row rooms) fun i => G i j)), .dt (.list ((vec (nG row rooms) fun i => -x.getD i 0).map PyData.int))] fun d => negD d P
    rw [neg_vec lx]
    refine least_fo (k2 := true) (by omega) ?_
    obtain ⟨z, e⟩ := g.exB (x := x) hj
    rw [e] at hp ⊢
    exact hp
theorem chained_of (n0 : 0 < n) (n9 : n ≤ 9) (q : Q (gd n (chG n G H))) : F_chained [.dt (gd n G), .dt (gd n H)] Q := by
  have lg : ((List.range n).map fun i => PyData.list (rwd n (G i))).length = n := by rw [List.length_map, List.length_range]
  have lh : ((List.range n).map fun j => PyData.list (rwd n fun i => H i j)).length = n := by rw [List.length_map, List.length_range]
  unfold F_chained
  refine ⟨rfl, columns_fo n0 n9 ?_⟩
  refine show _ ∧ _ from ⟨by rw [lg]; omega, comp_row (fun i => .list (rwd n (chG n G H i))) lg (fun i d hi hd P hp => ?_) q⟩
  obtain ⟨_, rfl⟩ := gd_at hd
  refine show _ ∧ _ from ⟨by rw [lh]; omega, comp_row (fun m => oI (chG n G H i m)) lh (fun m d hm hd P hp => ?_) hp⟩
  obtain ⟨_, rfl⟩ := gd_at (G := fun j i => H i j) hd
  exact least_fo (k2 := true) (by omega) hp
/-- the grids of 1, 2, 4, .. steps -/
def gds (row : Bool) (rooms h0 : List Int) (ws : List (Option Int)) (L : Nat) : List PyData := (List.range L).map fun t => gd (nG row rooms) (pw row rooms h0 ws t)
def bl1 (many : Nat) : Nat := max 1 (Builtin.Int.intBits (many : Int))
theorem bl1_lt {many t : Nat} (h : bl1 many ≤ t) : many < 2 ^ t := by
  have : Builtin.Int.intBits (many : Int) ≤ t := Nat.le_trans (Nat.le_max_right ..) h
  have z := PySem.intBits_le_iff.mp this
  rw [Int.natAbs_natCast] at z
  exact z
theorem doubled_of {many : Nat} (hm : many < 2 ^ 1000) (n0 : 0 < rooms.length) (nz : rooms.length ≤ 8) (lh : h0.length = rooms.length) (lw : ws.length = nG row rooms) (q : Q (.list (gds row rooms h0 ws (bl1 many)))) :
    F_doubled_grids [.dt (ln k row rooms), .dt (sqd kw (ws.map oI)), .dt (iq ks h0), .dt (.int (many : Nat))] Q := by
  have gb : 0 < nG row rooms ∧ nG row rooms ≤ 9 := by show 0 < gts row rooms.length ∧ gts row rooms.length ≤ 9; unfold gts; split <;> omega
  have bb : Builtin.Int.intBits (many : Int) ≤ 1000 := PySem.intBits_le_iff.mpr (by rw [Int.natAbs_natCast]; exact hm)
  unfold F_doubled_grids
  refine ⟨rfl, grid1_of n0 (by omega) lh lw ?_⟩
  refine ⟨fun w ρ => ∃ t, 1 ≤ t ∧ t ≤ bl1 many ∧ w = bl1 many - t ∧ ρ = [.dt (ln k row rooms), .dt (sqd kw (ws.map oI)), .dt (iq ks h0), .dt (.int (many : Nat)), .own (gds row rooms h0 ws t)], ⟨bl1 many - 1, 1, Nat.le_refl _, Nat.le_max_left .., rfl, rfl⟩, fun w ρ h => ?_⟩
  obtain ⟨t, t1, tb, rfl, rfl⟩ := h
  have ll : (gds row rooms h0 ws t).length = t := by
    unfold gds
    rw [List.length_map, List.length_range]
  obtain ⟨t', rfl⟩ : ∃ t', t = t' + 1 := ⟨t - 1, by omega⟩
  have la : gds row rooms h0 ws (t' + 1) = (List.range t').map (fun t => gd (nG row rooms) (pw row rooms h0 ws t)) ++ [gd (nG row rooms) (pw row rooms h0 ws t')] := by
    unfold gds
    rw [List.range_succ, List.map_append]
    rfl
  have bm : bl1 many ≤ 1000 := Nat.max_le.mpr ⟨by omega, bb⟩
  show if decide (((gds row rooms h0 ws (t' + 1)).length : Int) < (Builtin.Int.intBits (many : Int) : Nat)) = true then _ else _
  rw [ll]
  by_cases z : t' + 1 < Builtin.Int.intBits (many : Int)
  · rw [if_pos (decide_eq_true (by omega))]
    show atQ (L2.atI (gds row rooms h0 ws (t' + 1)) (-1)) _
    rw [la, atI_last]
    show atQ (L2.atI (_ ++ [gd (nG row rooms) (pw row rooms h0 ws t')]) (-1)) _
    rw [atI_last, ← la]
    refine chained_of gb.1 gb.2 ?_
    have zb : t' + 1 + 1 ≤ bl1 many := Nat.le_trans z (Nat.le_max_right ..)
    refine ⟨by omega, bl1 many - (t' + 1 + 1), by omega, t' + 1 + 1, by omega, zb, rfl, ?_⟩
    have nx : gds row rooms h0 ws (t' + 1) ++ [gd (nG row rooms) (chG (nG row rooms) (pw row rooms h0 ws t') (pw row rooms h0 ws t'))] = gds row rooms h0 ws (t' + 1 + 1) := by
      unfold gds
      rw [List.range_succ (n := t' + 1), List.map_append]
      rfl
    rw [nx]
    rfl
  · rw [if_neg (by rw [decide_eq_true_eq]; omega)]
    have e : t' + 1 = bl1 many := Nat.le_antisymm tb (Nat.max_le.mpr ⟨by omega, by omega⟩)
    rw [← e] at q
    exact q
/-- those of which many is made -/
def bit (many t : Nat) : Bool := decide (many / 2 ^ t % 2 = 1)
def gin (row : Bool) (rooms h0 : List Int) (ws : List (Option Int)) (many L : Nat) : List PyData := (List.range L).filterMap fun t => if bit many t = true then some (gd (nG row rooms) (pw row rooms h0 ws t)) else none
def inD (many : Nat) : PyData → Option PyData
  | .tuple [.int t, g] => if bit many t.toNat = true then some g else none
  | _ => none
theorem enum_range {f : Nat → PyData} : ∀ (L a : Nat), enumD a ((List.range' a L).map f) = (List.range' a L).map fun t => .tuple [.int (t : Nat), f t]
  | 0, a => rfl
  | L + 1, a => by
    rw [List.range'_succ, List.map_cons, List.map_cons]
    show _ :: enumD (a + 1) _ = _
    rw [enum_range L (a + 1)]
theorem enum_gds {L : Nat} : enumD 0 (gds row rooms h0 ws L) = (List.range L).map fun t => .tuple [.int (t : Nat), gd (nG row rooms) (pw row rooms h0 ws t)] := by
  unfold gds
  rw [List.range_eq_range']
  exact enum_range L 0
theorem bit_i {many t : Nat} : ((((many : Int) / 2 ^ t) % 2) != 0) = bit many t := by
  have e : ((many : Int) / 2 ^ t) % 2 = ((many / 2 ^ t % 2 : Nat) : Int) := by simp
  rw [e]
  unfold bit
  have : many / 2 ^ t % 2 < 2 := Nat.mod_lt _ (by omega)
  by_cases z : many / 2 ^ t % 2 = 1
  · rw [z]; rfl
  · rw [show many / 2 ^ t % 2 = 0 by omega]; rfl
theorem gridsIn_of {many L : Nat} (hL : L ≤ 10000) (q : Q (.list (gin row rooms h0 ws many L))) : F_grids_in [.dt (.list (gds row rooms h0 ws L)), .dt (.int (many : Nat))] Q := by
  have e : (enumD 0 (gds row rooms h0 ws L)).filterMap (inD many) = gin row rooms h0 ws many L := by
    rw [enum_gds, List.filterMap_map]
    rfl
  unfold F_grids_in
  refine ⟨rfl, show (enumD 0 (gds row rooms h0 ws L)).length ≤ 1000000 ∧ _ from ⟨?_, comp_fm (inD many) _ _ (fun d hd A B ya no => ?_) ?_⟩⟩
  · rw [enum_gds, List.length_map, List.length_range]
    omega
  · rw [enum_gds] at hd
    obtain ⟨t, _, rfl⟩ := List.mem_map.mp hd
    refine ⟨by omega, ?_⟩
    show (0 ≤ (many : Int) / 2 ^ ((t : Nat) : Int).toNat ∧ (1 : Int) = 1) ∧ (if (((many : Int) / 2 ^ ((t : Nat) : Int).toNat) % 2 != 0) = true then _ else _)
    rw [Int.toNat_natCast, bit_i]
    refine ⟨⟨Int.ediv_nonneg (by omega) (Int.pow_nonneg (by omega)), rfl⟩, ?_⟩
    have ed : inD many (.tuple [.int (t : Nat), gd (nG row rooms) (pw row rooms h0 ws t)]) = if bit many t = true then some (gd (nG row rooms) (pw row rooms h0 ws t)) else none := rfl
    rw [ed] at ya no
    by_cases z : bit many t = true
    · rw [if_pos z] at ya ⊢
      exact ya _ rfl
    · rw [if_neg z] at no ⊢
      exact no rfl
  · rw [List.nil_append, e]
    exact q
end
end Kd
namespace Kd
open PySem PySem.Spec PyProof.Rows L2 Xg Dv
section
variable {k kw ks row : Bool} {rooms h0 x y : List Int} {ws : List (Option Int)} {G H : Gr} {Q : PyData → Prop} {i j n m : Nat}
abbrev goB : FS := sAsg (eIf (fTest (eBin gEq (eVar 1) (eC (.str "forth")))) (eCall F_led_by (aCons (eVar 4) (aCons (eVar 3) aNil))) (eCall F_led_back_by (aCons (eVar 4) (aCons (eVar 3) aNil)))) (gN 3)
/-- fits: a line of few bins -/
structure Fg8 (row : Bool) (rooms h0 : List Int) (ws : List (Option Int)) : Prop where
  n0 : 0 < rooms.length
  nz : rooms.length ≤ 8
  lh : h0.length = rooms.length
  lw : ws.length = nG row rooms
theorem go_loop {b : Bool} {many : Nat} (F : Fg8 row rooms h0 ws) (lx : x.length = nG row rooms) {E : DEnds} {g0 : PyData} : ∀ (m t : Nat) (s4 : Sl),
    (∀ s4, E.nx [.dt g0, .dt (.str (wy b)), .dt (.int (many : Nat)), .dt (iq false (runX row rooms h0 (bws b ws (many % 2 ^ (t + m))) x)), s4]) →
    forD (gN 4) goB ((List.range' t m).filterMap fun t => if bit many t = true then some (gd (nG row rooms) (pw row rooms h0 ws t)) else none)
      [.dt g0, .dt (.str (wy b)), .dt (.int (many : Nat)), .dt (iq false (runX row rooms h0 (bws b ws (many % 2 ^ t)) x)), s4] E
  | 0, t, s4, q => q s4
  | m + 1, t, s4, q => by
    have lc : (runX row rooms h0 (bws b ws (many % 2 ^ t)) x).length = nG row rooms := by rw [runX_len, lx]
    have ms : many % 2 ^ (t + 1) = many % 2 ^ t + 2 ^ t * (many / 2 ^ t % 2) := Nat.mod_pow_succ
    have q' : ∀ s4, E.nx [.dt g0, .dt (.str (wy b)), .dt (.int (many : Nat)), .dt (iq false (runX row rooms h0 (bws b ws (many % 2 ^ (t + 1 + m))) x)), s4] := fun s4 => by
      rw [show t + 1 + m = t + (m + 1) by omega]
      exact q s4
    rw [List.range'_succ]
    by_cases z : bit many t = true
    · rw [List.filterMap_cons_some (by rw [if_pos z])]
      have e1 : many / 2 ^ t % 2 = 1 := of_decide_eq_true z
      rw [e1, Nat.mul_one] at ms
      have nx := go_loop F lx m (t + 1) (.dt (gd (nG row rooms) (pw row rooms h0 ws t))) q'
      rw [ms, run_add] at nx
      have gk := pw_gk F.n0 F.lh F.lw t
      have nz := F.nz
      show if decide (wy b = "forth") = true then _ else _
      rw [wy_forth]
      cases b with
      | true =>
        rw [if_pos rfl]
        refine ledBy_of gk (by omega) lc ?_
        rw [gk.led lc]
        exact nx
      | false =>
        rw [if_neg Bool.false_ne_true]
        refine ledBack_of gk F.n0 nz lc ?_
        rw [gk.back F.n0 F.lh F.lw lc]
        exact nx
    · rw [List.filterMap_cons_none (by rw [if_neg z])]
      have e1 : many / 2 ^ t % 2 = 0 := by
        have : many / 2 ^ t % 2 < 2 := Nat.mod_lt _ (by omega)
        have : ¬ many / 2 ^ t % 2 = 1 := fun h => z (decide_eq_true h)
        omega
      rw [e1, Nat.mul_zero, Nat.add_zero] at ms
      have nx := go_loop F lx m (t + 1) s4 q'
      rw [ms] at nx
      exact nx
theorem goneOn_of {b : Bool} {many L : Nat} (F : Fg8 row rooms h0 ws) (lx : x.length = nG row rooms) (hL : L ≤ 10000) (hm : many < 2 ^ L) (q : Q (iq false (runX row rooms h0 (bws b ws many) x))) :
    F_gone_on [.dt (.list (gds row rooms h0 ws L)), .dt (.str (wy b)), .dt (.int (many : Nat)), .dt (iq false x)] Q := by
  unfold F_gone_on
  refine ⟨rfl, gridsIn_of hL ?_⟩
  refine show _ ∧ _ from ⟨?_, ?_⟩
  · unfold gin
    have := List.length_filterMap_le (fun t => if bit many t = true then some (gd (nG row rooms) (pw row rooms h0 ws t)) else none) (List.range L)
    rw [List.length_range] at this
    omega
  · unfold gin
    rw [List.range_eq_range']
    have h := go_loop (many := many) (b := b) (g0 := .list (gds row rooms h0 ws L)) F lx (E := { nx := fun ρ' => sRet (eVar 3) ρ' { nx := fun _ => Q .none, rt := Q, rl := fun ds => Q (.list ds) }, rt := Q, rl := fun ds => Q (.list ds) }) L 0 .no (fun s4 => by
      rw [Nat.zero_add, Nat.mod_eq_of_lt hm]
      exact q)
    rw [Nat.pow_zero, Nat.mod_one] at h
    exact h
abbrev zr (n : Nat) : List Int := vec n fun _ => 0
theorem noughts_of (nz : rooms.length ≤ 900) (q : Q (iq false (zr (nG row rooms)))) : F_noughts [.dt (ln k row rooms)] Q := by
  have gb : gts row rooms.length ≤ 901 := by unfold gts; split <;> omega
  have er : rep ((gts row rooms.length : Nat) : Int) [.int 0] = (zr (nG row rooms)).map PyData.int := by
    unfold rep zr vec
    rw [Int.toNat_natCast, List.map_map]
    simp [Function.comp_def, List.map_const']
  unfold F_noughts
  refine ⟨rfl, gates_of ?_⟩
  refine ⟨⟨by omega, by omega, by rw [Int.toNat_natCast]; show 1 * _ ≤ _; omega⟩, ?_⟩
  rw [er]
  exact q
theorem countsF_of {b : Bool} {many : Nat} (F : Fg8 row rooms h0 ws) (hm : many < 2 ^ 1000) (q : Q (iq true (runX row rooms h0 (bws b ws many) (zr (nG row rooms))))) :
    F_counts [.dt (ln k row rooms), .dt (sqd kw (ws.map oI)), .dt (iq ks h0), .dt (.str (wy b)), .dt (.int (many : Nat))] Q := by
  have nz := F.nz
  have bm : bl1 many ≤ 1000 := Nat.max_le.mpr ⟨by omega, PySem.intBits_le_iff.mpr (by rw [Int.natAbs_natCast]; exact hm)⟩
  unfold F_counts
  refine ⟨rfl, doubled_of hm F.n0 F.nz F.lh F.lw ?_⟩
  refine noughts_of (by omega) ?_
  exact goneOn_of F vec_len (by omega) (bl1_lt (Nat.le_refl _)) q
theorem far_of {b : Bool} {many : Nat} (F : Fg8 row rooms h0 ws) (hm : many < 2 ^ 1000) (q : Q (iq true (ledL h0 (runX row rooms h0 (bws b ws many) (zr (nG row rooms)))))) :
    F_far [.dt (ln k row rooms), .dt (sqd kw (ws.map oI)), .dt (iq ks h0), .dt (.str (wy b)), .dt (.int (many : Nat))] Q := by
  have nz := F.nz
  have n0 := F.n0
  have lh := F.lh
  have gl : rooms.length ≤ nG row rooms := gts_le
  have lr : (runX row rooms h0 (bws b ws many) (zr (nG row rooms))).length = nG row rooms := by rw [runX_len]; exact vec_len
  unfold F_far
  refine ⟨rfl, countsF_of F hm ?_⟩
  exact ledTo_of (by omega) (by omega) (by omega) q
/-! rows of turns -/
def tnd (kp : Bool) (s : Bool × Nat) : PyData := sqd kp [.str (wy s.1), .int (s.2 : Nat)]
def tns (ws : List (Option Int)) : List (Bool × Nat) → List (Bool × List (Option Int))
  | [] => []
  | s :: r => bws s.1 ws s.2 ++ tns ws r
theorem ft_loop {kp : Bool} {L : Nat} (F : Fg8 row rooms h0 ws) (hL : L ≤ 10000) {l0 w0 s0 t0 m0 : PyData} {E : DEnds} : ∀ (ts : List (Bool × Nat)) (x : List Int) (s7 s8 : Sl), x.length = nG row rooms → (∀ s ∈ ts, s.2 < 2 ^ L) →
    (∀ s7 s8, E.nx [.dt l0, .dt w0, .dt s0, .dt t0, .dt m0, .dt (.list (gds row rooms h0 ws L)), .dt (iq false (runX row rooms h0 (tns ws ts) x)), s7, s8]) →
    forD (gT (gsCons (gN 7) (gsCons (gN 8) gsNil))) (sAsg (eCall F_gone_on (aCons (eVar 5) (aCons (eVar 7) (aCons (eVar 8) (aCons (eVar 6) aNil))))) (gN 6)) (ts.map (tnd kp)) [.dt l0, .dt w0, .dt s0, .dt t0, .dt m0, .dt (.list (gds row rooms h0 ws L)), .dt (iq false x), s7, s8] E
  | [], x, s7, s8, lx, hb, q => q s7 s8
  | (b, m) :: r, x, s7, s8, lx, hb, q => by
    have q' : ∀ s7 s8, E.nx [.dt l0, .dt w0, .dt s0, .dt t0, .dt m0, .dt (.list (gds row rooms h0 ws L)), .dt (iq false (runX row rooms h0 (tns ws r) (runX row rooms h0 (bws b ws m) x))), s7, s8] := fun s7 s8 => by
      rw [← runX_app]
      exact q s7 s8
    have st : F_gone_on [.dt (.list (gds row rooms h0 ws L)), .dt (.str (wy b)), .dt (.int (m : Nat)), .dt (iq false x)] fun d => forD (gT (gsCons (gN 7) (gsCons (gN 8) gsNil))) (sAsg (eCall F_gone_on (aCons (eVar 5) (aCons (eVar 7) (aCons (eVar 8) (aCons (eVar 6) aNil))))) (gN 6)) (r.map (tnd kp)) [.dt l0, .dt w0, .dt s0, .dt t0, .dt m0, .dt (.list (gds row rooms h0 ws L)), .dt d, .dt (.str (wy b)), .dt (.int (m : Nat))] E :=
      goneOn_of F lx hL (hb (b, m) (List.mem_cons_self ..)) (ft_loop F hL r _ _ _ (by rw [runX_len, lx]) (fun s h => hb s (List.mem_cons_of_mem _ h)) q')
    cases kp with
    | true => exact st
    | false => exact st
theorem maxQ_of {l : List Int} {d : PyData} (q : ∀ m, (l = [] → m = d) → (∀ y ∈ l, ∃ z, m = .int z ∧ y ≤ z ∧ z ∈ l) → Q m) : maxQ Q d (.list (l.map PyData.int)) := by
  refine ⟨l, rfl, ?_⟩
  cases l with
  | nil => exact .inl ⟨rfl, q _ (fun _ => rfl) fun y h => by cases h⟩
  | cons a r => exact .inr ⟨by simp, fun m h1 h2 => q _ (fun e => by cases e) fun y hy => ⟨m, rfl, h2 y hy, h1⟩⟩
theorem farTurns_of {kp kr : Bool} {ts : List (Bool × Nat)} (F : Fg8 row rooms h0 ws) (hm : ∀ s ∈ ts, s.2 < 2 ^ 1000) (hl : ts.length ≤ 100000) (q : Q (.tuple [iq true (ledL h0 (runX row rooms h0 (tns ws ts) (zr (nG row rooms)))), iq true (runX row rooms h0 (tns ws ts) (zr (nG row rooms)))])) :
    F_far_turns [.dt (ln k row rooms), .dt (sqd kw (ws.map oI)), .dt (iq ks h0), .dt (sqd kr (ts.map (tnd kp)))] Q := by
  have nz := F.nz
  have n0 := F.n0
  have lh := F.lh
  have gl : rooms.length ≤ nG row rooms := gts_le
  have lr : (runX row rooms h0 (tns ws ts) (zr (nG row rooms))).length = nG row rooms := by rw [runX_len]; exact vec_len
  have lt : (ts.map (tnd kp)).length = ts.length := List.length_map ..
  have fin : ∀ most : Nat, most < 2 ^ 1000 → (∀ s ∈ ts, s.2 ≤ most) → (sSeq (sAsg (eCall F_doubled_grids (aCons (eVar 0) (aCons (eVar 1) (aCons (eVar 2) (aCons (eVar 4) aNil))))) (gN 5)) (sSeq (sAsg (eCall F_noughts (aCons (eVar 0) aNil)) (gN 6)) (sSeq (sFor 1000000 (fIt (eVar 3)) (gT (gsCons (gN 7) (gsCons (gN 8) gsNil))) (sAsg (eCall F_gone_on (aCons (eVar 5) (aCons (eVar 7) (aCons (eVar 8) (aCons (eVar 6) aNil))))) (gN 6))) (sRet (eTup (dCons (eCall F_led_to (aCons (eVar 2) (aCons (eVar 6) aNil))) (dCons (eUn tupD (eVar 6)) dNil)))))))
      [.dt (ln k row rooms), .dt (sqd kw (ws.map oI)), .dt (iq ks h0), .dt (sqd kr (ts.map (tnd kp))), .dt (.int (most : Nat)), .no, .no, .no, .no] { nx := fun _ => Q .none, rt := Q, rl := fun ds => Q (.list ds) } := fun most hmo hle => by
    have bm : bl1 most ≤ 1000 := Nat.max_le.mpr ⟨by omega, PySem.intBits_le_iff.mpr (by rw [Int.natAbs_natCast]; exact hmo)⟩
    refine doubled_of hmo F.n0 F.nz F.lh F.lw ?_
    refine noughts_of (by omega) ?_
    have lp : (ts.map (tnd kp)).length ≤ 1000000 ∧ forD (gT (gsCons (gN 7) (gsCons (gN 8) gsNil))) (sAsg (eCall F_gone_on (aCons (eVar 5) (aCons (eVar 7) (aCons (eVar 8) (aCons (eVar 6) aNil))))) (gN 6)) (ts.map (tnd kp)) [.dt (ln k row rooms), .dt (sqd kw (ws.map oI)), .dt (iq ks h0), .dt (sqd kr (ts.map (tnd kp))), .dt (.int (most : Nat)), .dt (.list (gds row rooms h0 ws (bl1 most))), .dt (iq false (zr (nG row rooms))), .no, .no]
        { nx := fun ρ' => sRet (eTup (dCons (eCall F_led_to (aCons (eVar 2) (aCons (eVar 6) aNil))) (dCons (eUn tupD (eVar 6)) dNil))) ρ' { nx := fun _ => Q .none, rt := Q, rl := fun ds => Q (.list ds) }, rt := Q, rl := fun ds => Q (.list ds) } := by
      refine ⟨by omega, ft_loop F (by omega) ts _ _ _ vec_len (fun s h => Nat.lt_of_le_of_lt (hle s h) (bl1_lt (Nat.le_refl _))) fun s7 s8 => ?_⟩
      exact ledTo_of (by omega) (by omega) (by omega) q
    cases kr with
    | true => exact lp
    | false => exact lp
  have mx : (ts.map (tnd kp)).length ≤ 1000000 ∧ compD (gT (gsCons (gN 7) (gsCons (gN 8) gsNil))) fYes (eVar 8) [.dt (ln k row rooms), .dt (sqd kw (ws.map oI)), .dt (iq ks h0), .dt (sqd kr (ts.map (tnd kp))), .no, .no, .no, .no, .no] (ts.map (tnd kp)) []
      fun ds => maxQ (fun m => (sSeq (sAsg (eCall F_doubled_grids (aCons (eVar 0) (aCons (eVar 1) (aCons (eVar 2) (aCons (eVar 4) aNil))))) (gN 5)) (sSeq (sAsg (eCall F_noughts (aCons (eVar 0) aNil)) (gN 6)) (sSeq (sFor 1000000 (fIt (eVar 3)) (gT (gsCons (gN 7) (gsCons (gN 8) gsNil))) (sAsg (eCall F_gone_on (aCons (eVar 5) (aCons (eVar 7) (aCons (eVar 8) (aCons (eVar 6) aNil))))) (gN 6))) (sRet (eTup (dCons (eCall F_led_to (aCons (eVar 2) (aCons (eVar 6) aNil))) (dCons (eUn tupD (eVar 6)) dNil)))))))
      [.dt (ln k row rooms), .dt (sqd kw (ws.map oI)), .dt (iq ks h0), .dt (sqd kr (ts.map (tnd kp))), .dt m, .no, .no, .no, .no] { nx := fun _ => Q .none, rt := Q, rl := fun ds => Q (.list ds) }) (.int 0) (.list ds) := by
    refine ⟨by omega, comp_vec (n := ts.length) (fun i => ((ts.getD i (true, 0)).2 : Nat)) lt (fun i d hd P hp => ?_) ?_⟩
    · rw [List.getElem?_map] at hd
      cases e : ts[i]? with
      | none => rw [e] at hd; cases hd
      | some s =>
        rw [e] at hd
        have hd : tnd kp s = d := Option.some.inj hd
        rw [List.getD_eq_getElem?_getD, e] at hp
        rw [← hd]
        cases kp with
        | true => exact hp
        | false => exact hp
    · refine maxQ_of fun m h1 h2 => ?_
      by_cases z : ts = []
      · subst z
        rw [h1 rfl]
        exact fin 0 (Nat.pow_pos (by omega)) fun s h => by cases h
      · have i0 : 0 < ts.length := List.length_pos_iff.mpr z
        have mem : ∀ i, i < ts.length → (((ts.getD i (true, 0)).2 : Nat) : Int) ∈ vec ts.length fun i => (((ts.getD i (true, 0)).2 : Nat) : Int) := fun i hi => by
          unfold vec
          exact List.mem_map.mpr ⟨i, List.mem_range.mpr hi, rfl⟩
        obtain ⟨w, rfl, _, hw⟩ := h2 _ (mem 0 i0)
        unfold vec at hw
        obtain ⟨i, hi, rfl⟩ := List.mem_map.mp hw
        have hi := List.mem_range.mp hi
        have gm : ∀ i (h : i < ts.length), ts.getD i (true, 0) = ts[i] := fun i h => by rw [List.getD_eq_getElem?_getD, List.getElem?_eq_getElem h]; rfl
        refine fin _ (hm _ ?_) fun s hs => ?_
        · rw [gm i hi]
          exact List.getElem_mem _
        · obtain ⟨j, hj, rfl⟩ := List.getElem_of_mem hs
          obtain ⟨w, e, hle, _⟩ := h2 _ (mem j hj)
          have e : (((ts.getD i (true, 0)).2 : Nat) : Int) = w := PyData.int.inj e
          rw [gm j hj] at hle
          omega
  unfold F_far_turns
  cases kr with
  | true => exact ⟨rfl, mx⟩
  | false => exact ⟨rfl, mx⟩
end
end Kd
/-! readings of what the laws of far draw -/
namespace Ke
open PySem PySem.Spec PyProof.Rows L2 Xg Dv Kd
theorem pick_of {ds : List PyData} {Q : PyData → Prop} (h0 : 0 < ds.length) (hz : ds.length < 1000) (q : ∀ d ∈ ds, Q d) : F__law_pick [.box, .dt (.list ds)] Q := by
  unfold F__law_pick
  refine ⟨rfl, ⟨⟨by omega, by omega⟩, fun r r0 r1 => ?_⟩⟩
  show atQ (L2.atI ds r) Q
  have e : r = ((r.toNat : Nat) : Int) := by omega
  have l : r.toNat < ds.length := by omega
  rw [e, atI_nat (List.getElem?_eq_getElem l)]
  exact q _ (List.getElem_mem l)
theorem cut_mid {x y : PyData} {m : List PyData} : Dv.cutD (x :: (m ++ [y])) (some 1) (some (-1)) = m := by
  have l : (x :: (m ++ [y])).length = m.length + 2 := by simp
  have e : HT.sIx (m.length + 2) 0 (some 1) = 1 := by
    unfold HT.sIx
    simp
  have e' : HT.sIx (m.length + 2) (m.length + 2) (some (-1)) = m.length + 1 := by
    unfold HT.sIx
    simp
    omega
  unfold Dv.cutD
  rw [l, e, e']
  show (m ++ [y]).take m.length = m
  rw [List.take_left]
theorem take_of {n : Int} {Q : PyData → Prop} (h0 : 0 < n) (h1 : n < 4611686018427387904) (q : ∀ r, 0 ≤ r → r < n → Q (.int r)) : F_take [.box, .dt (.int n)] Q := ⟨⟨h0, h1⟩, q⟩
theorem lineB_of {most : Nat} {high : Int} {Q : PyData → Prop} (h0 : 2 ≤ most) (hm : most ≤ 90) (hh : 1 ≤ high ∧ high ≤ 1000000000) (q : ∀ row rooms, Ln row rooms most → Q (ln true row rooms)) : F__law_line [.box, .dt (.int (most : Nat)), .dt (.int high)] Q := by
  unfold F__law_line
  refine ⟨rfl, pick_of (by show 0 < 3; decide) (by show 3 < 1000; decide) fun f hf => pick_of (by show 0 < 4; decide) (by show 4 < 1000; decide) fun tp ht => ?_⟩
  obtain ⟨row, rfl⟩ : ∃ row, f = .str (fm row) := by
    simp only [List.mem_cons, List.not_mem_nil, or_false] at hf
    rcases hf with rfl | rfl | rfl
    · exact ⟨true, rfl⟩
    · exact ⟨true, rfl⟩
    · exact ⟨false, rfl⟩
  obtain ⟨top, rfl, t0, t1⟩ : ∃ top : Int, tp = .int top ∧ 1 ≤ top ∧ top ≤ 1000000000 := by
    simp only [List.mem_cons, List.not_mem_nil, or_false] at ht
    rcases ht with rfl | rfl | rfl | rfl
    · exact ⟨1, rfl, by omega, by omega⟩
    · exact ⟨2, rfl, by omega, by omega⟩
    · exact ⟨high, rfl, hh.1, hh.2⟩
    · exact ⟨high, rfl, hh.1, hh.2⟩
  show f__law_line_2 [.box, .dt (.int (most : Nat)), .dt (.int high), .dt (.str (fm row)), .dt (.int top), .no, .no, .no] _
  unfold f__law_line_2
  have main : ∀ least : Int, least = 1 + (if decide (fm row = "ring") = true then 1 else 0) → f__law_line_1 [.box, .dt (.int (most : Nat)), .dt (.int high), .dt (.str (fm row)), .dt (.int top), .dt (.int least), .no, .no] { nx := fun _ => Q .none, rt := Q, rl := fun ds => Q (.list ds) } := fun least hl => by
    rw [fm_ring] at hl
    have l2 : 1 ≤ least ∧ least ≤ 2 ∧ (row = false → least = 2) := by
      cases row with
      | true => rw [if_neg (by decide)] at hl; exact ⟨by omega, by omega, fun e => by cases e⟩
      | false => rw [if_pos (by decide)] at hl; exact ⟨by omega, by omega, fun e => by omega⟩
    unfold f__law_line_1
    refine (show F_take [.box, .dt (.int ((most : Nat) + 1 - least))] _ from take_of (by omega) (by omega) fun r r0 r1 => ?_)
    show f__law_line_0 [.box, .dt (.int (most : Nat)), .dt (.int high), .dt (.str (fm row)), .dt (.int top), .dt (.int least), .dt (.int (least + r)), .no] _
    unfold f__law_line_0
    refine ⟨⟨by omega, by omega⟩, ⟨by rw [range_len]; omega, ?_⟩⟩
    unfold rangeD
    refine comp_any (fun k : Nat => .int (0 + (k : Nat))) (fun y => ∃ x : Int, y = .int x ∧ 1 ≤ x ∧ x ≤ 1000000000) _ [] (fun x hx P hp => ?_) (fun ys hl hr => ?_)
    · exact take_of (by omega) (by omega) fun s s0 s1 => hp _ ⟨1 + s, rfl, by omega, by omega⟩
    obtain ⟨rooms, rfl, hR⟩ := ints_ex hr
    rw [List.length_map, List.length_range] at hl
    exact q row rooms ⟨by omega, fun e => by have := l2.2.2 e; omega, by omega, hR⟩
  exact main _ rfl
theorem gatesB_of {row : Bool} {rooms : List Int} {Q : PyData → Prop} (q : Q (.int (gts row rooms.length : Nat))) : F__law_gates [.dt (ln true row rooms)] Q := by
  unfold F__law_gates
  exact ⟨rfl, size_of (Q := Q) q⟩
abbrev wdBody : FS := (sSeq (sAsg (eCall F__law_pick (aBox 0 (aCons (eVar 3) aNil))) (gN 6)) f__law_widths_0)
theorem widthsB_of {row : Bool} {rooms : List Int} {high : Int} {Q : PyData → Prop} (hz : rooms.length ≤ 90) (n0 : 0 < rooms.length) (hh : 1 ≤ high ∧ high ≤ 1000000000) (q : ∀ ws, ws.length = gts row rooms.length → Dw ws → Q (sqd true (ws.map oI))) :
    F__law_widths [.box, .dt (ln true row rooms), .dt (.int high)] Q := by
  have gb : gts row rooms.length ≤ 91 ∧ 1 ≤ gts row rooms.length := by
    unfold gts
    split <;> omega
  unfold F__law_widths
  refine ⟨rfl, pick_of (by show 0 < 5; decide) (by show 5 < 1000; decide) fun sm hs => ?_⟩
  obtain ⟨os, rfl, o0, o1, oD⟩ : ∃ os : List (Option Int), sm = .list (os.map oI) ∧ 0 < os.length ∧ os.length < 1000 ∧ Dw os := by
    have dh : Dr (some high) := dr_some ⟨by omega, hh.2⟩
    have d0 : Dr (some 0) := dr_some ⟨by decide, by decide⟩
    have d1 : Dr (some 1) := dr_some ⟨by decide, by decide⟩
    have d2 : Dr (some 2) := dr_some ⟨by decide, by decide⟩
    simp only [List.mem_cons, List.not_mem_nil, or_false] at hs
    rcases hs with rfl | rfl | rfl | rfl | rfl
    · exact ⟨[none], rfl, by decide, by decide, fun w hw => by simp at hw; rw [hw]; exact dr_none⟩
    · exact ⟨[none, none, some high], rfl, by show 0 < 3; decide, by show 3 < 1000; decide, fun w hw => by
        simp only [List.mem_cons, List.not_mem_nil, or_false] at hw
        rcases hw with rfl | rfl | rfl
        · exact dr_none
        · exact dr_none
        · exact dh⟩
    · exact ⟨[some high], rfl, by show 0 < 1; decide, by show 1 < 1000; decide, fun w hw => by simp at hw; rw [hw]; exact dh⟩
    · exact ⟨[some 0, some 1, some high, none], rfl, by show 0 < 4; decide, by show 4 < 1000; decide, fun w hw => by
        simp only [List.mem_cons, List.not_mem_nil, or_false] at hw
        rcases hw with rfl | rfl | rfl | rfl
        · exact d0
        · exact d1
        · exact dh
        · exact dr_none⟩
    · exact ⟨[some 1, some 2, some high], rfl, by show 0 < 3; decide, by show 3 < 1000; decide, fun w hw => by
        simp only [List.mem_cons, List.not_mem_nil, or_false] at hw
        rcases hw with rfl | rfl | rfl
        · exact d1
        · exact d2
        · exact dh⟩
  show f__law_widths_4 [.box, .dt (ln true row rooms), .dt (.int high), .dt (.list (os.map oI)), .no, .no, .no] _
  unfold f__law_widths_4
  show f__law_widths_3 [.box, .dt (ln true row rooms), .dt (.int high), .dt (.list (os.map oI)), .own [], .no, .no] _
  unfold f__law_widths_3
  refine gatesB_of ?_
  have last : ∀ (acc : List (Option Int)) (s5 s6 : Sl), Dw acc → acc.length = gts row rooms.length → f__law_widths_2 [.box, .dt (ln true row rooms), .dt (.int high), .dt (.list (os.map oI)), .own (acc.map oI), s5, s6] { nx := fun _ => Q .none, rt := Q, rl := fun ds => Q (.list ds) } := fun acc s5 s6 hA hl => by
    have l1 : ∀ (ac : List (Option Int)), Dw ac → ac.length = gts row rooms.length → f__law_widths_1 [.box, .dt (ln true row rooms), .dt (.int high), .dt (.list (os.map oI)), .own (ac.map oI), s5, s6] { nx := fun _ => Q .none, rt := Q, rl := fun ds => Q (.list ds) } := fun ac h1 h2 => by
      unfold f__law_widths_1
      exact q ac h2 h1
    unfold f__law_widths_2
    show if decide (fm row = "row") = true then _ else _
    rw [fm_row]
    cases row with
    | false => exact l1 acc hA hl
    | true =>
      rw [if_pos rfl]
      refine take_of (by decide) (by decide) fun t t0 t1 => ?_
      show if decide (t = 0) = true then _ else _
      by_cases z : t = 0
      · rw [if_pos (decide_eq_true z)]
        have hl' : acc.length = rooms.length + 1 := hl
        have l0 : ∃ a m b, acc = a :: (m ++ [b]) := by
          cases acc with
          | nil => simp at hl'
          | cons a r =>
            have : r ≠ [] := fun e => by rw [e] at hl'; have hl' : 1 = rooms.length + 1 := hl'; omega
            exact ⟨a, r.dropLast, r.getLast this, by rw [List.dropLast_concat_getLast]⟩
        obtain ⟨a, m, b, rfl⟩ := l0
        have ek : ∀ P : List PyData → Prop, P (([some 0] ++ m ++ [some 0]).map oI) → fCat (eBin gAdd (eLst (dCons (eC (.int 0)) dNil)) (eSl (eVarV 4) (oSome (eC (.int 1))) (oSome (eUn negD (eC (.int 1)))))) (eLst (dCons (eC (.int 0)) dNil)) [.box, .dt (ln true true rooms), .dt (.int high), .dt (.list (os.map oI)), .own ((a :: (m ++ [b])).map oI), s5, s6] P := fun P hp => by
          show [PyData.int 0].length + (Dv.cutD (oI a :: (m ++ [b]).map oI) (some 1) (some (-1))).length ≤ 1000000 ∧ (([PyData.int 0] ++ Dv.cutD (oI a :: (m ++ [b]).map oI) (some 1) (some (-1))).length + [PyData.int 0].length ≤ 1000000 ∧ P (([PyData.int 0] ++ Dv.cutD (oI a :: (m ++ [b]).map oI) (some 1) (some (-1))) ++ [PyData.int 0]))
          rw [List.map_append, List.map_cons, List.map_nil, cut_mid]
          have lm : (m.map oI).length ≤ 100 := by
            rw [List.length_map]
            simp at hl'
            omega
          refine ⟨by show 1 + _ ≤ _; omega, by rw [List.length_append]; show 1 + _ + 1 ≤ _; omega, ?_⟩
          rw [List.map_append, List.map_append] at hp
          exact hp
        refine ek _ ?_
        refine l1 ([some 0] ++ m ++ [some 0]) (fun w hw => ?_) (by simp at hl' ⊢; show m.length + 1 + 1 = rooms.length + 1; omega)
        simp only [List.mem_append, List.mem_singleton] at hw
        rcases hw with (rfl | hw) | rfl
        · exact dr_some ⟨by decide, by decide⟩
        · exact hA w (by simp [hw])
        · exact dr_some ⟨by decide, by decide⟩
      · rw [if_neg (by rw [decide_eq_true_eq]; exact z)]
        exact l1 acc hA hl
  have loop : ∀ (n : Nat) (ks : List PyData), ks.length = n → ∀ (acc : List (Option Int)) (s5 s6 : Sl), Dw acc → acc.length + n = gts row rooms.length →
      forD (gN 5) wdBody ks [.box, .dt (ln true row rooms), .dt (.int high), .dt (.list (os.map oI)), .own (acc.map oI), s5, s6] { nx := fun ρ' => f__law_widths_2 ρ' { nx := fun _ => Q .none, rt := Q, rl := fun ds => Q (.list ds) }, rt := Q, rl := fun ds => Q (.list ds) } := by
    intro n
    induction n with
    | zero =>
      intro ks hk acc s5 s6 hA hlA
      cases ks with
      | cons => cases hk
      | nil => exact last acc s5 s6 hA hlA
    | succ n ih =>
      intro ks hk acc s5 s6 hA hlA
      cases ks with
      | nil => cases hk
      | cons d ks =>
      rw [List.length_cons] at hk
      refine (show F__law_pick [.box, .dt (.list (os.map oI))] _ from pick_of (by rw [List.length_map]; exact o0) (by rw [List.length_map]; exact o1) fun wd hwd => ?_)
      obtain ⟨w, hw, rfl⟩ := List.mem_map.mp hwd
      have dw := oD w hw
      have add : ∀ v : Option Int, Dr v → (acc.map oI).length < 1000000 ∧ forD (gN 5) wdBody ks ([.box, .dt (ln true row rooms), .dt (.int high), .dt (.list (os.map oI)), .own (acc.map oI ++ [oI v]), .dt d, .dt (oI w)] : List Sl) { nx := fun ρ' => f__law_widths_2 ρ' { nx := fun _ => Q .none, rt := Q, rl := fun ds => Q (.list ds) }, rt := Q, rl := fun ds => Q (.list ds) } := fun v hv => by
        refine ⟨by rw [List.length_map]; omega, ?_⟩
        have z := ih ks (by omega) (acc ++ [v]) (.dt d) (.dt (oI w)) (fun x hx => by
          rcases List.mem_append.mp hx with hx | hx
          · exact hA x hx
          · rw [List.mem_singleton.mp hx]; exact hv) (by rw [List.length_append, List.length_singleton]; omega)
        rw [List.map_append] at z
        exact z
      show f__law_widths_0 [.box, .dt (ln true row rooms), .dt (.int high), .dt (.list (os.map oI)), .own (acc.map oI), .dt d, .dt (oI w)] _
      unfold f__law_widths_0
      cases w with
      | none => exact add none dr_none
      | some x =>
        have hx := dw x rfl
        show if decide (x < 3) = true then _ else _
        by_cases z : x < 3
        · rw [if_pos (decide_eq_true z)]
          exact add (some x) dw
        · rw [if_neg (by rw [decide_eq_true_eq]; exact z)]
          exact take_of (by omega) (by omega) fun s s0 s1 => add (some (1 + s)) (dr_some ⟨by omega, by omega⟩)
  refine ⟨⟨by omega, by omega⟩, by rw [range_len]; omega, loop (gts row rooms.length) _ (by rw [range_len]; omega) [] .no .no (fun w hw => nomatch hw) (by simp)⟩
end Ke
namespace Ke
open PySem PySem.Spec PyProof.Rows L2 Xg Dv Kd
abbrev ltBody : FS := (sSeq (sAsg (eCall F_take (aBox 0 (aCons (eBin gAdd (eVar 4) (eC (.int 1))) aNil))) (gN 5)) f__law_lot_0)
theorem lotB_of {row : Bool} {rooms : List Int} {Q : PyData → Prop} (hz : rooms.length ≤ 90) (R : Rm rooms) (q : ∀ hs, Vd rooms hs → Q (iq true hs)) : F__law_lot [.box, .dt (ln true row rooms)] Q := by
  unfold F__law_lot
  refine ⟨rfl, ⟨⟨by decide, by decide⟩, fun t t0 t1 => ?_⟩⟩
  show f__law_lot_3 [.box, .dt (ln true row rooms), .dt (.int t), .no, .no, .no] _
  unfold f__law_lot_3
  show f__law_lot_2 [.box, .dt (ln true row rooms), .dt (.int t), .own [], .no, .no] _
  unfold f__law_lot_2
  have loop : ∀ (rs acc : List Int) (s4 s5 : Sl), acc.length + rs.length ≤ 90 → (∀ x ∈ rs, 1 ≤ x ∧ x ≤ 1000000000) → (∀ ys, All2 (fun r h => 0 ≤ h ∧ h ≤ r) rs ys → Q (iq true (acc ++ ys))) →
      forD (gN 4) ltBody (rs.map PyData.int) [.box, .dt (ln true row rooms), .dt (.int t), .own (acc.map PyData.int), s4, s5] { nx := fun ρ' => f__law_lot_1 ρ' { nx := fun _ => Q .none, rt := Q, rl := fun ds => Q (.list ds) }, rt := Q, rl := fun ds => Q (.list ds) } := by
    intro rs
    induction rs with
    | nil =>
      intro acc s4 s5 _ _ hq
      show f__law_lot_1 _ _
      unfold f__law_lot_1
      have z := hq [] .nil
      rw [List.append_nil] at z
      exact z
    | cons r rs ih =>
      intro acc s4 s5 hl hR hq
      rw [List.length_cons] at hl
      have hr := hR r (List.mem_cons_self ..)
      refine (show (0 < r + 1 ∧ r + 1 < 4611686018427387904) ∧ _ from ⟨⟨by omega, by omega⟩, fun s s0 s1 => ?_⟩)
      show f__law_lot_0 [.box, .dt (ln true row rooms), .dt (.int t), .own (acc.map PyData.int), .dt (.int r), .dt (.int s)] _
      unfold f__law_lot_0
      have add : ∀ v : Int, 0 ≤ v ∧ v ≤ r → (acc.map PyData.int).length < 1000000 ∧ forD (gN 4) ltBody (rs.map PyData.int) ([.box, .dt (ln true row rooms), .dt (.int t), .own (acc.map PyData.int ++ [.int v]), .dt (.int r), .dt (.int s)] : List Sl) { nx := fun ρ' => f__law_lot_1 ρ' { nx := fun _ => Q .none, rt := Q, rl := fun ds => Q (.list ds) }, rt := Q, rl := fun ds => Q (.list ds) } := fun v hv => by
        refine ⟨by rw [len_i]; omega, ?_⟩
        have z := ih (acc ++ [v]) (.dt (.int r)) (.dt (.int s)) (by rw [List.length_append, List.length_singleton]; omega) (fun x hx => hR x (List.mem_cons_of_mem _ hx)) (fun ys hy => by
          have z := hq (v :: ys) (.cons hv hy)
          rw [List.append_assoc]
          exact z)
        rw [List.map_append] at z
        exact z
      show if decide (t = 0) = true then _ else _
      by_cases z : t = 0
      · rw [if_pos (decide_eq_true z)]
        refine (show F_take [.box, .dt (.int 3)] _ from take_of (by decide) (by decide) fun u u0 u1 => ?_)
        have c : u = 0 ∨ u = 1 ∨ u = 2 := by omega
        rcases c with rfl | rfl | rfl
        · exact add s ⟨s0, by omega⟩
        · exact add 0 ⟨by omega, by omega⟩
        · exact add r ⟨by omega, by omega⟩
      · rw [if_neg (by rw [decide_eq_true_eq]; exact z)]
        exact add s ⟨s0, by omega⟩
  refine (show (rooms.map PyData.int).length ≤ 100 ∧ _ from ⟨by rw [len_i]; omega, ?_⟩)
  exact loop rooms [] .no .no (by simp; omega) R fun ys hy => q ys (vd_all hy)
/-! the laws' own beats -/
section
variable {row b : Bool} {rooms hs : List Int} {ws : List (Option Int)}
theorem prev_lack {j : Nat} (lh : hs.length = rooms.length) (n0 : 0 < rooms.length) (hj : j ≤ rooms.length) : prev (lackL rooms hs) j = prev rooms j - prev hs j := by
  unfold prev
  rw [lack_len, lh]
  split
  · exact lack_get (by omega)
  · exact lack_get (by omega)
abbrev mvBody : FS := (sSeq (sOwn (fIf (fTest (eBin gIs (eVar 7) (eC .none))) dNil (dCons (eVar 7) dNil)) 8) f__law_moved_2)
theorem movedB_body {R0 : List PyData → Prop} {E : DEnds} (F : Ft row rooms ws hs) (q : E.rl ((mvd row rooms ws hs b).map PyData.int)) :
    f__law_moved [.dt (ln true row rooms), .dt (sqd true (ws.map oI)), .dt (iq true hs), .dt (.str (wy b)), .no, .no, .no, .no, .no] E := by
  have n0 := F.n0
  have nz := F.nz
  have nh := F.nh
  have nw := F.nw
  have jle : ∀ j, j < ws.length → j ≤ rooms.length := fun j h => by
    rw [nw] at h
    unfold gts at h
    split at h <;> omega
  have jlt : row = false → ∀ j, j < ws.length → j < rooms.length := fun e j h => by
    rw [nw, e] at h
    exact h
  have lw : ws.length ≤ 1001 := by
    rw [nw]
    unfold gts
    split <;> omega
  show f__law_moved_4 [.dt (ln true row rooms), .dt (sqd true (ws.map oI)), .dt (iq true hs), .dt (.str (wy b)), .dt (iq true rooms), .own [], .no, .no, .no] _
  unfold f__law_moved_4
  obtain ⟨g, hg, gm⟩ : ∃ g : Nat → Int, mvd row rooms ws hs b = vec ws.length g ∧ ∀ j, g j = mn (bnd (!row) (if b = true then hs else lackL rooms hs) (if b = true then lackL rooms hs else hs) j (ws.getD j none)) :=
    ⟨if b = true then gone row hs (lackL rooms hs) ws else gone row (lackL rooms hs) hs ws, rfl, fun j => by cases b <;> rfl⟩
  rw [hg] at q
  have bound : ∀ j, j < ws.length → bnd (!row) (if b = true then hs else lackL rooms hs) (if b = true then lackL rooms hs else hs) j (ws.getD j none) ≠ [] := fun j hj => by
    cases b with
    | true => exact bnd_ne (ws := ws) nh lack_len n0
    | false => exact bnd_ne (ws := ws) lack_len nh n0
  have al : (if b = true then lackL rooms hs else hs).length = rooms.length := by cases b with | true => exact lack_len | false => exact nh
  have ap : ∀ j, j ≤ rooms.length → (if b = true then prev hs j else prev rooms j - prev hs j) = prev (if b = true then hs else lackL rooms hs) j := fun j hj => by
    cases b with
    | true => rfl
    | false => exact (prev_lack nh n0 hj).symm
  have ag : ∀ j, j < rooms.length → (if b = true then rooms.getD j 0 - hs.getD j 0 else hs.getD j 0) = (if b = true then lackL rooms hs else hs).getD j 0 := fun j hj => by
    cases b with
    | true => exact (lack_get hj).symm
    | false => rfl
  have loop : ∀ (m t : Nat) (s6 s7 s8 : Sl), t + m = ws.length →
      forD (gT (gsCons (gN 6) (gsCons (gN 7) gsNil))) mvBody (enumD t ((ws.map oI).drop t)) [.dt (ln true row rooms), .dt (sqd true (ws.map oI)), .dt (iq true hs), .dt (.str (wy b)), .dt (iq true rooms), .own ((vec t g).map PyData.int), s6, s7, s8]
        { nx := fun ρ' => f__law_moved_3 ρ' E, rt := E.rt, rl := E.rl, bk := E.bk, ct := E.ct } := by
    intro m
    induction m with
    | zero =>
      intro t s6 s7 s8 e
      have et : t = ws.length := by omega
      subst et
      rw [List.drop_of_length_le (by rw [List.length_map]; exact Nat.le_refl _)]
      show f__law_moved_3 _ _
      unfold f__law_moved_3
      exact q
    | succ m ih =>
      intro t s6 s7 s8 e
      have ht : t < ws.length := by omega
      have htr := jle t ht
      have ed : (ws.map oI).drop t = oI (ws.getD t none) :: (ws.map oI).drop (t + 1) := by
        rw [List.drop_eq_getElem_cons (by rw [List.length_map]; exact ht), List.getElem_map, List.getD_eq_getElem?_getD, List.getElem?_eq_getElem ht]
        rfl
      rw [ed]
      generalize hw : ws.getD t none = w
      have nx : ∀ s8 : Sl, forD (gT (gsCons (gN 6) (gsCons (gN 7) gsNil))) mvBody (enumD (t + 1) ((ws.map oI).drop (t + 1))) [.dt (ln true row rooms), .dt (sqd true (ws.map oI)), .dt (iq true hs), .dt (.str (wy b)), .dt (iq true rooms), .own ((vec t g).map PyData.int ++ [.int (g t)]), .dt (.int (t : Nat)), .dt (oI w), s8]
          { nx := fun ρ' => f__law_moved_3 ρ' E, rt := E.rt, rl := E.rl, bk := E.bk, ct := E.ct } := fun s8 => by
        have z := ih (t + 1) (.dt (.int (t : Nat))) (.dt (oI w)) s8 (by omega)
        have ev : (vec (t + 1) g).map PyData.int = (vec t g).map PyData.int ++ [.int (g t)] := by
          unfold vec
          rw [List.range_succ, List.map_append, List.map_append]
          rfl
        rw [ev] at z
        exact z
      obtain ⟨EE, hEE⟩ : ∃ EE : DEnds, EE = { nx := fun ρ2 => forD (gT (gsCons (gN 6) (gsCons (gN 7) gsNil))) mvBody (enumD (t + 1) ((ws.map oI).drop (t + 1))) ρ2 { nx := fun ρ' => f__law_moved_3 ρ' E, rt := E.rt, rl := E.rl, bk := E.bk, ct := E.ct }, rt := E.rt, rl := E.rl, bk := fun ρ' => f__law_moved_3 ρ' E, ct := fun ρ2 => forD (gT (gsCons (gN 6) (gsCons (gN 7) gsNil))) mvBody (enumD (t + 1) ((ws.map oI).drop (t + 1))) ρ2 { nx := fun ρ' => f__law_moved_3 ρ' E, rt := E.rt, rl := E.rl, bk := E.bk, ct := E.ct } } := ⟨_, rfl⟩
      have s0 : ∀ acc : List Int, acc = bnd (!row) (if b = true then hs else lackL rooms hs) (if b = true then lackL rooms hs else hs) t w → f__law_moved_0 [.dt (ln true row rooms), .dt (sqd true (ws.map oI)), .dt (iq true hs), .dt (.str (wy b)), .dt (iq true rooms), .own ((vec t g).map PyData.int), .dt (.int (t : Nat)), .dt (oI w), .own (acc.map PyData.int)]
          EE := fun acc ha => by
        unfold f__law_moved_0
        rw [hEE]
        have b0 := bound t ht
        rw [hw] at b0
        have g0 := gm t
        rw [hw] at g0
        have z := min_of (l := acc) (Q := fun d => ((vec t g).map PyData.int).length < 1000000 ∧ forD (gT (gsCons (gN 6) (gsCons (gN 7) gsNil))) mvBody (enumD (t + 1) ((ws.map oI).drop (t + 1))) [.dt (ln true row rooms), .dt (sqd true (ws.map oI)), .dt (iq true hs), .dt (.str (wy b)), .dt (iq true rooms), .own ((vec t g).map PyData.int ++ [d]), .dt (.int (t : Nat)), .dt (oI w), .own (acc.map PyData.int)]
          { nx := fun ρ' => f__law_moved_3 ρ' E, rt := E.rt, rl := E.rl, bk := E.bk, ct := E.ct }) (by rw [ha]; exact b0) ⟨by rw [len_i, vec_len]; omega, by rw [ha, ← g0, ← ha]; exact nx _⟩
        exact z
      have s1 : ∀ acc : List Int, acc.length < 900 → (acc ++ if t < (if b = true then lackL rooms hs else hs).length then [(if b = true then lackL rooms hs else hs).getD t 0] else []) = bnd (!row) (if b = true then hs else lackL rooms hs) (if b = true then lackL rooms hs else hs) t w → f__law_moved_1 [.dt (ln true row rooms), .dt (sqd true (ws.map oI)), .dt (iq true hs), .dt (.str (wy b)), .dt (iq true rooms), .own ((vec t g).map PyData.int), .dt (.int (t : Nat)), .dt (oI w), .own (acc.map PyData.int)]
          EE := fun acc la ha => by
        unfold f__law_moved_1
        rw [al] at ha
        have yes : t < rooms.length → if decide (wy b = "forth") = true then (gIx (iq true rooms) (.int (t : Nat)) fun x => gIx (iq true hs) (.int (t : Nat)) fun y => gI (fun i j => i - j) x y fun d => (acc.map PyData.int).length < 1000000 ∧ f__law_moved_0 [.dt (ln true row rooms), .dt (sqd true (ws.map oI)), .dt (iq true hs), .dt (.str (wy b)), .dt (iq true rooms), .own ((vec t g).map PyData.int), .dt (.int (t : Nat)), .dt (oI w), .own (acc.map PyData.int ++ [d])] EE) else (gIx (iq true hs) (.int (t : Nat)) fun d => (acc.map PyData.int).length < 1000000 ∧ f__law_moved_0 [.dt (ln true row rooms), .dt (sqd true (ws.map oI)), .dt (iq true hs), .dt (.str (wy b)), .dt (iq true rooms), .own ((vec t g).map PyData.int), .dt (.int (t : Nat)), .dt (oI w), .own (acc.map PyData.int ++ [d])] EE) := fun hl => by
          rw [if_pos hl] at ha
          have z := s0 (acc ++ [(if b = true then lackL rooms hs else hs).getD t 0]) ha
          rw [List.map_append, ← ag t hl] at z
          rw [wy_forth]
          cases b with
          | true =>
            rw [if_pos rfl]
            refine ix_iq hl ?_
            refine ix_iq (by omega) ?_
            exact ⟨by rw [len_i]; omega, z⟩
          | false =>
            rw [if_neg Bool.false_ne_true]
            refine ix_iq (by omega) ?_
            exact ⟨by rw [len_i]; omega, z⟩
        show if decide (fm row = "ring") = true then _ else (if decide (((t : Nat) : Int) < ((rooms.map PyData.int).length : Nat)) = true then _ else _)
        rw [fm_ring, len_i]
        by_cases hl : t < rooms.length
        · cases row with
          | false => exact yes hl
          | true =>
            rw [if_neg (by decide), if_pos (decide_eq_true (by omega))]
            exact yes hl
        · cases row with
          | false => exact absurd (jlt rfl t ht) hl
          | true =>
            rw [if_neg (by decide), if_neg (by rw [decide_eq_true_eq]; omega)]
            rw [if_neg hl, List.append_nil] at ha
            exact s0 acc ha
      have s2 : ∀ acc : List Int, acc.length < 800 → (acc ++ (if ((!row) || decide (0 < t)) = true then [prev (if b = true then hs else lackL rooms hs) t] else []) ++ if t < (if b = true then lackL rooms hs else hs).length then [(if b = true then lackL rooms hs else hs).getD t 0] else []) = bnd (!row) (if b = true then hs else lackL rooms hs) (if b = true then lackL rooms hs else hs) t w → f__law_moved_2 [.dt (ln true row rooms), .dt (sqd true (ws.map oI)), .dt (iq true hs), .dt (.str (wy b)), .dt (iq true rooms), .own ((vec t g).map PyData.int), .dt (.int (t : Nat)), .dt (oI w), .own (acc.map PyData.int)]
          EE := fun acc la ha => by
        unfold f__law_moved_2
        have px : ∀ (xs : List Int) (P : PyData → Prop), xs.length = rooms.length → P (.int (prev xs t)) → gIx (iq true xs) (.int ((t : Nat) - 1 : Int)) P := fun xs P hl hp => by
          show atQ (L2.atI _ _) P
          rw [atI_prev (by omega) (by omega)]
          exact hp
        have yes : ((!row) || decide (0 < t)) = true → if decide (wy b = "forth") = true then (gIx (iq true hs) (.int ((t : Nat) - 1 : Int)) fun d => (acc.map PyData.int).length < 1000000 ∧ f__law_moved_1 [.dt (ln true row rooms), .dt (sqd true (ws.map oI)), .dt (iq true hs), .dt (.str (wy b)), .dt (iq true rooms), .own ((vec t g).map PyData.int), .dt (.int (t : Nat)), .dt (oI w), .own (acc.map PyData.int ++ [d])] EE) else (gIx (iq true rooms) (.int ((t : Nat) - 1 : Int)) fun x => gIx (iq true hs) (.int ((t : Nat) - 1 : Int)) fun y => gI (fun i j => i - j) x y fun d => (acc.map PyData.int).length < 1000000 ∧ f__law_moved_1 [.dt (ln true row rooms), .dt (sqd true (ws.map oI)), .dt (iq true hs), .dt (.str (wy b)), .dt (iq true rooms), .own ((vec t g).map PyData.int), .dt (.int (t : Nat)), .dt (oI w), .own (acc.map PyData.int ++ [d])] EE) := fun c => by
          rw [if_pos c] at ha
          have z := s1 (acc ++ [prev (if b = true then hs else lackL rooms hs) t]) (by rw [List.length_append, List.length_singleton]; omega) ha
          rw [List.map_append, ← ap t htr] at z
          rw [wy_forth]
          cases b with
          | true =>
            rw [if_pos rfl]
            exact px hs _ nh ⟨by rw [len_i]; omega, z⟩
          | false =>
            rw [if_neg Bool.false_ne_true]
            refine px rooms _ rfl ?_
            refine px hs _ nh ?_
            exact ⟨by rw [len_i]; omega, z⟩
        show if decide (fm row = "ring") = true then _ else (if decide ((0 : Int) < (t : Nat)) = true then _ else _)
        rw [fm_ring]
        cases row with
        | false => exact yes rfl
        | true =>
          rw [if_neg (by decide)]
          by_cases z : 0 < t
          · rw [if_pos (decide_eq_true (by omega))]
            exact yes (by simpa using z)
          · rw [if_neg (by rw [decide_eq_true_eq]; omega)]
            rw [if_neg (by simpa using z), List.append_nil] at ha
            exact s1 acc (by omega) ha
      rw [hEE] at s2
      cases w with
      | none => exact s2 [] (by decide) (by unfold bnd; rfl)
      | some x => exact s2 [x] (by show 1 < 800; decide) (by unfold bnd; rfl)
  refine (show (enumD 0 (ws.map oI)).length ≤ 1000000 ∧ _ from ⟨by rw [enumD_len, List.length_map]; omega, ?_⟩)
  exact loop ws.length 0 .no .no .no (by omega)
end
end Ke
namespace Ke
open PySem PySem.Spec PyProof.Rows L2 Xg Dv Kd
section
variable {row b : Bool} {rooms hs : List Int} {ws : List (Option Int)} {Q : PyData → Prop}
theorem movedB_of (F : Ft row rooms ws hs) (q : Q (iq false (mvd row rooms ws hs b))) : F__law_moved [.dt (ln true row rooms), .dt (sqd true (ws.map oI)), .dt (iq true hs), .dt (.str (wy b))] Q := by
  unfold F__law_moved
  exact ⟨rfl, movedB_body (R0 := fun _ => True) F q⟩
def sg (b : Bool) : Int := if b = true then 1 else -1
abbrev gnBody : FS := (sSeq (sAsg (eL (fComp 1000000 (fIt (eCall F__law_moved (aCons (eVar 0) (aCons (eVar 1) (aCons (eVar 2) (aCons (eVar 3) aNil)))))) [9] (gN 9) fYes (eBin gMul (eVar 5) (eVar 9)))) (gN 8)) f__law_gone_1)
theorem goneB_loop {E : DEnds} {d4 : PyData} (n0 : 0 < rooms.length) (n2 : row = false → 2 ≤ rooms.length) (nz : rooms.length ≤ 900) (lw : ws.length = gts row rooms.length) : ∀ (ks : List PyData) (h c : List Int) (s7 s8 s9 s10 s11 : Sl), h.length = rooms.length → c.length = gts row rooms.length →
    (∀ s7 s8 s9 s10 s11, E.nx [.dt (ln true row rooms), .dt (sqd true (ws.map oI)), .dt (iq true (ledR row rooms (bws b ws ks.length) h c).1), .dt (.str (wy b)), .dt d4, .dt (.int (sg b)), .dt (iq false (ledR row rooms (bws b ws ks.length) h c).2), s7, s8, s9, s10, s11]) →
    forD (gN 7) gnBody ks [.dt (ln true row rooms), .dt (sqd true (ws.map oI)), .dt (iq true h), .dt (.str (wy b)), .dt d4, .dt (.int (sg b)), .dt (iq false c), s7, s8, s9, s10, s11] E
  | [], h, c, s7, s8, s9, s10, s11, lh, lc, q => q s7 s8 s9 s10 s11
  | k :: ks, h, c, s7, s8, s9, s10, s11, lh, lc, q => by
    have gb : gts row rooms.length ≤ 901 := by unfold gts; split <;> omega
    have gl : rooms.length ≤ gts row rooms.length := gts_le
    have F : Ft row rooms ws h := ⟨n0, n2, by omega, lw, lh⟩
    have lm : (mvd row rooms ws h b).length = ws.length := mvd_len
    have lt : (cnt row rooms ws h b).length = ws.length := cnt_len
    have nx := goneB_loop (E := E) (d4 := d4) n0 n2 nz lw ks (ledL h (cnt row rooms ws h b)) (addL c (cnt row rooms ws h b)) (.dt k) (.dt (iq false (cnt row rooms ws h b))) s9 s10 s11 (by rw [Kd.ld_len, lh]) (by rw [Kd.add_len, lc]) q
    refine movedB_of F ?_
    refine (show ((mvd row rooms ws h b).map PyData.int).length ≤ 1000000 ∧ _ from ⟨by rw [len_i]; omega, comp_vec (fun j => if b = true then (mvd row rooms ws h b).getD j 0 else -(mvd row rooms ws h b).getD j 0) (n := ws.length) (by rw [len_i, lm]) (fun i d hd P hp => ?_) ?_⟩)
    · obtain ⟨_, rfl⟩ := map_at hd
      refine (show CMul (sg b) _ ∧ _ from ⟨.inl ?_, ?_⟩)
      · cases b <;> exact ⟨by decide, by decide⟩
      · have e : sg b * (mvd row rooms ws h b).getD i 0 = if b = true then (mvd row rooms ws h b).getD i 0 else -(mvd row rooms ws h b).getD i 0 := by
          cases b
          · show -1 * _ = -_; omega
          · show 1 * _ = (mvd row rooms ws h true).getD i 0; omega
        rw [e]
        exact hp
    · show f__law_gone_1 [.dt (ln true row rooms), .dt (sqd true (ws.map oI)), .dt (iq true h), .dt (.str (wy b)), .dt d4, .dt (.int (sg b)), .dt (iq false c), .dt k, .dt (iq false (cnt row rooms ws h b)), s9, s10, s11] _
      unfold f__law_gone_1
      have le : (enumD 0 (h.map PyData.int)).length = rooms.length := by rw [enumD_len, len_i, lh]
      refine (show (enumD 0 (h.map PyData.int)).length ≤ 1000000 ∧ _ from ⟨by omega, comp_vec (fun i => h.getD i 0 + (cnt row rooms ws h b).getD i 0 - (cnt row rooms ws h b).getD ((i + 1) % (cnt row rooms ws h b).length) 0) le (fun i d hd P hp => ?_) ?_⟩)
      · obtain ⟨x, e1, rfl⟩ := enum_at hd
        obtain ⟨hi, rfl⟩ := map_at e1
        refine (show gIx (iq false (cnt row rooms ws h b)) (.int (i : Nat)) _ from ix_iq (by omega) ?_)
        refine ⟨by rw [len_i]; omega, ?_⟩
        have e : ((i : Nat) + 1 : Int) % (((cnt row rooms ws h b).map PyData.int).length : Nat) = (((i + 1) % (cnt row rooms ws h b).length : Nat) : Int) := by rw [len_i]; simp
        show gIx (iq false (cnt row rooms ws h b)) (.int (((i : Nat) + 1 : Int) % (((cnt row rooms ws h b).map PyData.int).length : Nat))) _
        rw [e]
        exact ix_iq (Nat.mod_lt _ (by omega)) hp
      · have el : (vec rooms.length fun i => h.getD i 0 + (cnt row rooms ws h b).getD i 0 - (cnt row rooms ws h b).getD ((i + 1) % (cnt row rooms ws h b).length) 0) = ledL h (cnt row rooms ws h b) := by unfold ledL; rw [lh]
        rw [el]
        show f__law_gone_0 [.dt (ln true row rooms), .dt (sqd true (ws.map oI)), .dt (iq true (ledL h (cnt row rooms ws h b))), .dt (.str (wy b)), .dt d4, .dt (.int (sg b)), .dt (iq false c), .dt k, .dt (iq false (cnt row rooms ws h b)), s9, s10, s11] _
        unfold f__law_gone_0
        have lz : (zipD (c.map PyData.int) ((cnt row rooms ws h b).map PyData.int)).length = c.length := zip_len (len_i _) (by rw [len_i, lt, lw, lc])
        refine (show (zipD (c.map PyData.int) ((cnt row rooms ws h b).map PyData.int)).length ≤ 1000000 ∧ _ from ⟨by omega, comp_vec (fun i => c.getD i 0 + (cnt row rooms ws h b).getD i 0) lz (fun i d hd P hp => ?_) nx⟩)
        obtain ⟨x, y, e1, e2, rfl⟩ := zip_at hd
        obtain ⟨_, rfl⟩ := map_at e1
        obtain ⟨_, rfl⟩ := map_at e2
        exact hp
theorem goneB_of {many : Nat} (n0 : 0 < rooms.length) (n2 : row = false → 2 ≤ rooms.length) (nz : rooms.length ≤ 900) (lw : ws.length = gts row rooms.length) (lh : hs.length = rooms.length) (hm : many ≤ 1000000)
    (q : Q (.tuple [iq true (ledL hs (runX row rooms hs (bws b ws many) (zr (nG row rooms)))), iq true (runX row rooms hs (bws b ws many) (zr (nG row rooms)))])) :
    F__law_gone [.dt (ln true row rooms), .dt (sqd true (ws.map oI)), .dt (iq true hs), .dt (.str (wy b)), .dt (.int (many : Nat))] Q := by
  have gb : gts row rooms.length ≤ 901 := by unfold gts; split <;> omega
  have gl : rooms.length ≤ gts row rooms.length := gts_le
  have er : rep (((ws.map oI).length : Nat) : Int) [.int 0] = (zr (nG row rooms)).map PyData.int := by
    rw [List.length_map, lw]
    unfold rep zr vec
    rw [Int.toNat_natCast, List.map_map]
    simp [Function.comp_def, List.map_const']
  have fin : ∀ sgn : Int, sgn = sg b → (-(2 ^ 63) ≤ (((ws.map oI).length : Nat) : Int) ∧ (((ws.map oI).length : Nat) : Int) < 2 ^ 63 ∧ [PyData.int 0].length * (((ws.map oI).length : Nat) : Int).toNat ≤ 1000000) ∧
      f__law_gone_3 [.dt (ln true row rooms), .dt (sqd true (ws.map oI)), .dt (iq true hs), .dt (.str (wy b)), .dt (.int (many : Nat)), .dt (.int sgn), .dt (.list (rep (((ws.map oI).length : Nat) : Int) [.int 0])), .no, .no, .no, .no, .no] { nx := fun _ => Q .none, rt := Q, rl := fun ds => Q (.list ds) } := fun sgn es => by
    rw [es]
    refine ⟨⟨by omega, by rw [List.length_map]; omega, by rw [Int.toNat_natCast, List.length_map]; show 1 * _ ≤ _; omega⟩, ?_⟩
    rw [er]
    unfold f__law_gone_3
    refine ⟨⟨by omega, by omega⟩, by rw [range_len]; omega, ?_⟩
    refine goneB_loop n0 n2 nz lw _ _ _ _ _ _ _ _ lh vec_len fun s7 s8 s9 s10 s11 => ?_
    show f__law_gone_2 _ _
    unfold f__law_gone_2
    have e := led_run (row := row) (rooms := rooms) (h0 := hs) (bws b ws many) (zr (nG row rooms)) (fun s m => by rw [(bws_hr (b := b) (k := many) lw s m).2]; exact vec_len.symm) (by rw [vec_len, lh]; exact gl)
    rw [led_nought] at e
    rw [range_len, Int.toNat_natCast, e]
    exact q
  unfold F__law_gone
  refine ⟨rfl, ?_⟩
  show if decide (wy b = "forth") = true then _ else _
  rw [wy_forth]
  cases b with
  | true => exact fin 1 rfl
  | false => exact fin (-1) rfl
end
end Ke
/-! repr of a line and two tuples of numbers -/
namespace Kd
open PySem PySem.Spec PyProof.Rows L2 Xg Dv
def dLn (row : Bool) (rooms : List Int) : PyData := .tuple [.str (fm row), .tuple (rooms.map PyData.int)]
def dThree (row : Bool) (rooms : List Int) (ws : List (Option Int)) (held : List Int) : PyData := .list [dLn row rooms, .tuple (ws.map oI), .tuple (held.map PyData.int)]
/-- leaves that are short -/
structure Lf (d : PyData) : Prop where
  sh : d.showable = true
  di : d.hasDict = false
  dp : d.depth = 0
  lv : d.leavesShort 13 = true
  wt : d.weight ≤ 40
theorem lf_int {i : Int} (h : 0 ≤ i ∧ i ≤ 1000000000) : Lf (.int i) := by
  have hn : i.natAbs < 2 ^ 30 := by omega
  have hlog : i.natAbs.log2 < 30 := by
    by_cases z : i.natAbs = 0
    · rw [z]
      decide
    · exact (Nat.log2_lt z).mpr hn
  refine ⟨?_, by simp [PyData.hasDict], by simp [PyData.depth], ?_, ?_⟩
  · rw [PyData.showable]
    exact decide_eq_true (by omega)
  · rw [PyData.leavesShort]
    exact decide_eq_true (PyData.shown_int_le (by omega))
  · rw [PyData.weight]
    split <;> omega
theorem lf_none : Lf .none := ⟨by simp [PyData.showable], by simp [PyData.hasDict], by simp [PyData.depth], by decide +kernel, by decide +kernel⟩
theorem lf_all {α : Type} (c : α → PyData) : ∀ l : List α, (∀ a ∈ l, Lf (c a)) → PyData.showableAll (l.map c) = true ∧ PyData.hasDictAll (l.map c) = false ∧ PyData.depthAll (l.map c) = 0 ∧ PyData.leavesShortAll 13 (l.map c) = true ∧ PyData.weightAll (l.map c) ≤ 41 * l.length
  | [], _ => ⟨by simp [PyData.showableAll], by simp [PyData.hasDictAll], by simp [PyData.depthAll], by simp [PyData.leavesShortAll], by simp [PyData.weightAll]⟩
  | a :: l, h => by
    obtain ⟨g1, g2, g3, g4, g5⟩ := lf_all c l fun x hx => h x (List.mem_cons_of_mem _ hx)
    obtain ⟨f1, f2, f3, f4, f5⟩ := h a List.mem_cons_self
    refine ⟨?_, ?_, ?_, ?_, ?_⟩
    · rw [List.map_cons, PyData.showableAll, f1, g1]
      rfl
    · rw [List.map_cons, PyData.hasDictAll, f2, g2]
      rfl
    · rw [List.map_cons, PyData.depthAll, f3, g3]
      rfl
    · rw [List.map_cons, PyData.leavesShortAll, f4, g4]
      rfl
    · rw [List.map_cons, PyData.weightAll, List.length_cons]
      omega
theorem lf_ints {l : List Int} (h : ∀ r ∈ l, 0 ≤ r ∧ r ≤ 1000000000) : ∀ a ∈ l, Lf (PyData.int a) := fun a ha => lf_int (h a ha)
theorem lf_opts {l : List (Option Int)} (h : ∀ x ∈ l, ∀ i, x = some i → 0 ≤ i ∧ i ≤ 1000000000) : ∀ a ∈ l, Lf (oI a) := fun a ha => by
  cases e : a with
  | none => exact lf_none
  | some i => exact lf_int (h a ha i e)
theorem dThree_ok {row : Bool} {rooms held : List Int} {ws : List (Option Int)} (h1 : ∀ r ∈ rooms, 0 ≤ r ∧ r ≤ 1000000000) (h2 : ∀ x ∈ ws, ∀ i, x = some i → 0 ≤ i ∧ i ≤ 1000000000) (h3 : ∀ r ∈ held, 0 ≤ r ∧ r ≤ 1000000000)
    (l1 : rooms.length ≤ 10) (l2 : ws.length ≤ 10) (l3 : held.length ≤ 10) :
    (dThree row rooms ws held).showable = true ∧ (dThree row rooms ws held).hasDict = false ∧ (dThree row rooms ws held).depth ≤ 60 ∧ (dThree row rooms ws held).shown.length ≤ sizeLine := by
  obtain ⟨a1, a2, a3, a4, a5⟩ := lf_all PyData.int rooms (lf_ints h1)
  obtain ⟨b1, b2, b3, b4, b5⟩ := lf_all oI ws (lf_opts h2)
  obtain ⟨c1, c2, c3, c4, c5⟩ := lf_all PyData.int held (lf_ints h3)
  have f1 : (PyData.str (fm row)).leavesShort 13 = true := by cases row <;> decide +kernel
  have f2 : (PyData.str (fm row)).weight ≤ 4 := by cases row <;> decide +kernel
  refine ⟨?_, ?_, ?_, PyData.shown_fits (B := 13) (by decide) (by decide) ?_ ?_⟩
  · simp [dThree, dLn, PyData.showable, PyData.showableAll, a1, b1, c1]
  · simp [dThree, dLn, PyData.hasDict, PyData.hasDictAll, a2, b2, c2]
  · simp [dThree, dLn, PyData.depth, PyData.depthAll, a3, b3, c3]
  · rw [PyData.leavesShort] at f1
    simp only [dThree, dLn, PyData.leavesShort, PyData.leavesShortAll, a4, b4, c4, f1]
    rfl
  · rw [PyData.weight] at f2
    simp only [dThree, dLn, PyData.weight, PyData.weightAll]
    omega
theorem reprT_ok {row : Bool} {rooms hs ks : List Int} (h1 : ∀ r ∈ rooms, 0 ≤ r ∧ r ≤ 1000000000) (h2 : ∀ r ∈ hs, 0 ≤ r ∧ r ≤ 1000000000) (h3 : ∀ r ∈ ks, 0 ≤ r ∧ r ≤ 1000000000) (l1 : rooms.length ≤ 10) (l2 : hs.length ≤ 10) (l3 : ks.length ≤ 10)
    : (PyData.list [ln true row rooms, iq true hs, iq true ks]).showable = true ∧ (PyData.list [ln true row rooms, iq true hs, iq true ks]).hasDict = false ∧ (PyData.list [ln true row rooms, iq true hs, iq true ks]).depth ≤ 60 ∧ (PyData.list [ln true row rooms, iq true hs, iq true ks]).shown.length ≤ sizeLine := by
  have e : PyData.list [ln true row rooms, iq true hs, iq true ks] = dThree row rooms (hs.map some) ks := by
    unfold dThree
    rw [List.map_map]
    rfl
  have z := dThree_ok (row := row) (ws := hs.map some) h1 (fun x hx i ei => by
    obtain ⟨y, hy, rfl⟩ := List.mem_map.mp hx
    have ei := Option.some.inj ei
    rw [← ei]
    exact h2 y hy) h3 l1 (by rw [List.length_map]; exact l2) l3
  rw [← e] at z
  exact z
end Kd
namespace Ke
open PySem PySem.Spec PyProof.Rows L2 Xg Dv Kd
theorem lt_big {m : Nat} (h : m < 2 ^ 62) : m < 2 ^ 1000 := Nat.lt_of_lt_of_le h (Nat.pow_le_pow_right (by decide) (by decide))
/-- all([right(box(script, k)) for k in range(1 + min(c, len(script)))]) -/
theorem lawB {F : FF} {ns : List Int} {c : Int} {Q : PyData → Prop} (hc : 0 ≤ c ∧ c ≤ 60) (hF : ∀ Q : PyData → Prop, Q (.bool true) → F [.box] Q) (q : Q (.bool true)) :
    sRet (eCB allD (dCons (eL (fComp 100 (fRange1 (eBin gAdd (eC (.int 1)) (eCB (g2 (gI fun i j => if j < i then j else i)) (dCons (eC (.int c)) (dCons (eLenS 0) dNil))))) [1] (gN 1) fYes (eBoxC 0 (eVar 1) F))) dNil)) [.scr ns, .no] { nx := fun _ => Q .none, rt := Q, rl := fun ds => Q (.list ds) } := by
  have main : ∀ m : Int, 0 ≤ m → m ≤ 99 → (-(2 ^ 62) ≤ m ∧ m < 2 ^ 62) ∧ (rangeD 0 m.toNat).length ≤ 100 ∧ compD (gN 1) fYes (eBoxC 0 (eVar 1) F) [.scr ns, .no] (rangeD 0 m.toNat) [] fun ds => boolsQ (fun ns => Q (.bool (ns.all id))) (.list ds) := fun m h1 h2 => by
    refine ⟨⟨by omega, by omega⟩, by rw [range_len]; omega, ?_⟩
    refine comp_row (fun _ => .bool true) range_len (fun i d hi hd P hp => ?_) ?_
    · obtain ⟨_, rfl⟩ := rng_at hd
      exact ⟨⟨by omega, by omega⟩, hF _ ⟨rfl, hp⟩⟩
    · rw [bools_all, List.length_range]
      refine ⟨List.replicate m.toNat true, rfl, ?_⟩
      show Q (.bool ((List.replicate m.toNat true).all id))
      rw [all_true]
      exact q
  refine main (1 + (if ((ns.length : Nat) : Int) < c then ((ns.length : Nat) : Int) else c)) ?_ ?_
  · split <;> omega
  · split <;> omega
end Ke
/-! far: there and back, from another standing on -/
namespace Kd
open PySem PySem.Spec PyProof.Rows L2 Xg Dv
section
variable {row b : Bool} {rooms hs x y : List Int} {ws : List (Option Int)} {Q : PyData → Prop} {k m : Nat}
/-- from another standing on -/
theorem run_rel {run : List (Bool × List (Option Int))} (lh : hs.length = rooms.length) (lx : x.length = nG row rooms) (hw : ∀ s ∈ run, s.2.length = nG row rooms) :
    ledL (ledL hs x) (runX row rooms (ledL hs x) run (zr (nG row rooms))) = ledL hs (runX row rooms hs run x) ∧ runX row rooms (ledL hs x) run (zr (nG row rooms)) = subL (runX row rooms hs run x) x := by
  have gl : rooms.length ≤ nG row rooms := gts_le
  have e1 := led_rel (row := row) (rooms := rooms) (h0 := hs) (z := x) lh lx hw
  have e2 := led_run (row := row) (rooms := rooms) (h0 := ledL hs x) run (zr (nG row rooms)) (fun s m => by rw [vec_len]; exact hw s m) (by rw [vec_len, ledL_len]; omega)
  rw [led_nought] at e2
  have e3 := e2.symm.trans e1
  exact ⟨congrArg Prod.fst e3, congrArg Prod.snd e3⟩
theorem bws_w (lw : ws.length = nG row rooms) : ∀ s ∈ bws b ws k, s.2.length = nG row rooms := fun s h => (bws_hr (b := b) (k := k) lw s h).2
/-- back as far as one came, and there again -/
theorem there_again (n0 : 0 < rooms.length) (lh : hs.length = rooms.length) (lw : ws.length = nG row rooms) (lx : x.length = nG row rooms) (h : m ≤ k) :
    runX row rooms hs (bws b ws m) (runX row rooms hs (bws (!b) ws m) (runX row rooms hs (bws b ws k) x)) = runX row rooms hs (bws b ws k) x := by
  have e : bws b ws k = bws b ws (k - m) ++ bws b ws m := by rw [← bws_add]; congr 1; omega
  rw [e, runX_app]
  have z := thrice2 (row := row) (rooms := rooms) (h0 := hs) n0 lh (b := b) (run := bws b ws m) (bws_hr lw) (x := runX row rooms hs (bws b ws (k - m)) x) (by rw [runX_len, lx])
  rw [bws_tb] at z
  exact z
/-- forth counts grow, back they fall -/
theorem run_up (n0 : 0 < rooms.length) (n2 : row = false → 2 ≤ rooms.length) (nz : rooms.length ≤ 1000) (lh : hs.length = rooms.length) (lw : ws.length = nG row rooms) (W : Wn ws) : ∀ (k : Nat) (x : List Int), x.length = nG row rooms → Vd rooms (ledL hs x) →
    ∀ j, j < nG row rooms → if b = true then x.getD j 0 ≤ (runX row rooms hs (bws b ws k) x).getD j 0 else (runX row rooms hs (bws b ws k) x).getD j 0 ≤ x.getD j 0
  | 0, x, lx, V, j, hj => by split <;> exact Int.le_refl _
  | k + 1, x, lx, V, j, hj => by
    have gl : rooms.length ≤ nG row rooms := gts_le
    have F : Ft row rooms ws (ledL hs x) := ⟨n0, n2, nz, lw, by rw [ledL_len, lh]⟩
    have V' : Vd rooms (ledL hs (addL x (cnt row rooms ws (ledL hs x) b))) := by
      rw [← led_add (by rw [lh, lx]; exact gl) (by rw [cnt_len, lw, lx])]
      exact V.next F W
    have ih := run_up n0 n2 nz lh lw W k (addL x (cnt row rooms ws (ledL hs x) b)) (by rw [add_len, lx]) V' j hj
    have st : runX row rooms hs (bws b ws (k + 1)) x = runX row rooms hs (bws b ws k) (addL x (cnt row rooms ws (ledL hs x) b)) := rfl
    rw [st]
    have g : (addL x (cnt row rooms ws (ledL hs x) b)).getD j 0 = x.getD j 0 + (cnt row rooms ws (ledL hs x) b).getD j 0 := add_get (by omega)
    have nn := mv_nn (f := b) F V W (j := j) (by omega)
    have gc : (cnt row rooms ws (ledL hs x) b).getD j 0 = if b = true then (mvd row rooms ws (ledL hs x) b).getD j 0 else -(mvd row rooms ws (ledL hs x) b).getD j 0 := vec_get (by omega)
    rw [g] at ih
    cases b with
    | true =>
      rw [if_pos rfl] at ih gc ⊢
      omega
    | false =>
      rw [if_neg Bool.false_ne_true] at ih gc ⊢
      omega
theorem run_vdX (n0 : 0 < rooms.length) (n2 : row = false → 2 ≤ rooms.length) (nz : rooms.length ≤ 1000) (lh : hs.length = rooms.length) (lw : ws.length = nG row rooms) (W : Wn ws) : ∀ (k : Nat) (x : List Int), x.length = nG row rooms → Vd rooms (ledL hs x) → Vd rooms (ledL hs (runX row rooms hs (bws b ws k) x))
  | 0, x, lx, V => V
  | k + 1, x, lx, V => by
    have gl : rooms.length ≤ nG row rooms := gts_le
    have F : Ft row rooms ws (ledL hs x) := ⟨n0, n2, nz, lw, by rw [ledL_len, lh]⟩
    have V' : Vd rooms (ledL hs (addL x (cnt row rooms ws (ledL hs x) b))) := by
      rw [← led_add (by rw [lh, lx]; exact gl) (by rw [cnt_len, lw, lx])]
      exact V.next F W
    exact run_vdX n0 n2 nz lh lw W k (addL x (cnt row rooms ws (ledL hs x) b)) (by rw [add_len, lx]) V'
theorem add_sub (lx : x.length = m) (ly : y.length = m) : addL x (subL y x) = y := ext_get (by rw [add_len, lx, ly]) fun i hi => by
  rw [add_len] at hi
  rw [add_get hi, sub_get (by omega)]
  omega
/-- back further than one came -/
theorem back_more (n0 : 0 < rooms.length) (lh : hs.length = rooms.length) (lw : ws.length = nG row rooms) (lx : x.length = nG row rooms) :
    ∀ j, j < nG row rooms → if b = true then (runX row rooms hs (bws (!b) ws k) (runX row rooms hs (bws b ws k) x)).getD j 0 ≤ x.getD j 0 else x.getD j 0 ≤ (runX row rooms hs (bws (!b) ws k) (runX row rooms hs (bws b ws k) x)).getD j 0 := by
  have l1 : (runX row rooms hs (bws b ws k) x).length = nG row rooms := by rw [runX_len, lx]
  cases b with
  | true =>
    intro j hj
    rw [if_pos rfl]
    have z := (mates (row := row) (rooms := rooms) (h0 := hs) n0 lh (bws true ws k) x (runX row rooms hs (bws true ws k) x) (bws_hr lw) lx l1).mp Le.refl
    rw [bws_tb] at z
    exact z j hj
  | false =>
    intro j hj
    rw [if_neg Bool.false_ne_true]
    have z := (mates (row := row) (rooms := rooms) (h0 := hs) n0 lh (bws true ws k) (runX row rooms hs (bws false ws k) x) x (bws_hr lw) l1 lx).mpr (by rw [bws_tb]; exact Le.refl)
    exact z j hj
end
end Kd
namespace Ke
open PySem PySem.Spec PyProof.Rows L2 Xg Dv Kd
theorem pair_shal {x y : List Int} (hx : x.length ≤ 1000) (hy : y.length ≤ 1000) : shal 5 (.list [iq true x, iq true y]) = true := by
  show (decide (2 ≤ 1000) && (shal 4 (iq true x) && (shal 4 (iq true y) && true))) = true
  rw [shal_iq hx, shal_iq hy]
  rfl
theorem summed_of {x y : List Int} {Q : PyData → Prop} (hl : y.length = x.length) (hz : x.length ≤ 1000) (q : Q (iq true (addL x y))) : F__law_summed [.dt (iq true x), .dt (iq true y)] Q := by
  have lz : (zipD (x.map PyData.int) (y.map PyData.int)).length = x.length := zip_len (len_i _) (by rw [len_i, hl])
  unfold F__law_summed
  refine ⟨rfl, (show (zipD (x.map PyData.int) (y.map PyData.int)).length ≤ 1000000 ∧ _ from ⟨by omega, comp_vec (fun i => x.getD i 0 + y.getD i 0) lz (fun i d hd P hp => ?_) q⟩)⟩
  obtain ⟨x, y, e1, e2, rfl⟩ := zip_at hd
  obtain ⟨_, rfl⟩ := map_at e1
  obtain ⟨_, rfl⟩ := map_at e2
  exact hp
theorem shp_bools {l : List Bool} : SeqAt.shaped (.list (l.map PyData.bool)) = true := by
  obtain ⟨g1, g2⟩ := lay_flat PyData.bool (fun _ => by simp [PyData.canLay0]) (fun _ => by simp [PyData.depth]) l
  unfold SeqAt.shaped
  rw [PyData.canLay0, PyData.depth, g1, g2]
  rfl
theorem none_false : ∀ n : Nat, ((List.replicate n true).map PyData.bool).any (fun z => PyData.eqv z (.bool false)) = false
  | 0 => rfl
  | n + 1 => by
    rw [List.replicate_succ, List.map_cons, List.any_cons, none_false n]
    decide +kernel
abbrev rtBody : FS := (sSeq (sAsg (eCall F__law_line (aBox 0 (aCons (eC (.int 4)) (aCons (eCall F__law_pick (aBox 0 (aCons (eLst (dCons (eC (.int 4)) (dCons (eBin (gIc CPow fun i j => i ^ j.toNat) (eC (.int 10)) (eC (.int 9))) dNil))) aNil))) aNil)))) (gN 2)) f__law_right_12)
theorem turn_of {E : DEnds} {s1 s2 s3 s4 s5 s6 s7 s8 s9 s10 s11 s12 s13 s14 s15 s16 : Sl} (q : ∀ s1 s2 s3 s4 s5 s6 s7 s8 s9 s10 s11 s12 s13 s14 s15 s16 : Sl, E.nx [.box, s1, s2, s3, s4, s5, s6, s7, s8, s9, s10, s11, s12, s13, s14, s15, s16, .no]) :
    rtBody [.box, s1, s2, s3, s4, s5, s6, s7, s8, s9, s10, s11, s12, s13, s14, s15, s16, .no] E := by
  refine (show CPow 10 9 ∧ _ from ⟨⟨by decide, by decide, by decide⟩, pick_of (ds := [.int 4, .int (10 ^ 9)]) (by show 0 < 2; decide) (by show 2 < 1000; decide) fun hg hh => ?_⟩)
  obtain ⟨high, rfl, g0, g1⟩ : ∃ high : Int, hg = .int high ∧ 1 ≤ high ∧ high ≤ 1000000000 := by
    simp only [List.mem_cons, List.not_mem_nil, or_false] at hh
    rcases hh with rfl | rfl
    · exact ⟨4, rfl, by decide, by decide⟩
    · exact ⟨10 ^ 9, rfl, by decide, by decide⟩
  refine lineB_of (most := 4) (by decide) (by decide) ⟨g0, g1⟩ fun row rooms L => ?_
  show f__law_right_12 [.box, s1, .dt (ln true row rooms), s3, s4, s5, s6, s7, s8, s9, s10, s11, s12, s13, s14, s15, s16, .no] _
  unfold f__law_right_12
  have nz := L.nz
  have n0 := L.n0
  have n2 := L.n2
  refine (show CPow 10 9 ∧ _ from ⟨⟨by decide, by decide, by decide⟩, pick_of (ds := [.int 3, .int (10 ^ 9)]) (by show 0 < 2; decide) (by show 2 < 1000; decide) fun hg hh => ?_⟩)
  obtain ⟨wide, rfl, w0, w1⟩ : ∃ high : Int, hg = .int high ∧ 1 ≤ high ∧ high ≤ 1000000000 := by
    simp only [List.mem_cons, List.not_mem_nil, or_false] at hh
    rcases hh with rfl | rfl
    · exact ⟨3, rfl, by decide, by decide⟩
    · exact ⟨10 ^ 9, rfl, by decide, by decide⟩
  refine widthsB_of (by omega) n0 ⟨w0, w1⟩ fun ws lw D => lotB_of (by omega) L.rm fun hs V => ?_
  have lh := V.len
  have W := D.wn
  have F8 : Fg8 row rooms hs ws := ⟨n0, by omega, lh, lw⟩
  show f__law_right_11 [.box, s1, .dt (ln true row rooms), .dt (sqd true (ws.map oI)), .dt (iq true hs), s5, s6, s7, s8, s9, s10, s11, s12, s13, s14, s15, s16, .no] _
  unfold f__law_right_11
  refine take_of (by decide) (by decide) fun r r0 r1 => ?_
  obtain ⟨b, hb⟩ : ∃ b, L2.atI [PyData.str "forth", .str "back"] r = some (.str (wy b)) := by
    have c : r = 0 ∨ r = 1 := by omega
    rcases c with rfl | rfl
    · exact ⟨true, rfl⟩
    · exact ⟨false, rfl⟩
  show atQ (L2.atI [PyData.str "forth", .str "back"] r) _
  rw [hb]
  refine (show CPow 10 7 ∧ CPow 10 11 ∧ CMul 5 (10 ^ 11) ∧ _ from ⟨⟨by decide, by decide, by decide⟩, ⟨by decide, by decide, by decide⟩, .inl ⟨by decide, by decide⟩, pick_of (ds := [.int 99, .int (10 ^ 7), .int (5 * 10 ^ 11)]) (by show 0 < 3; decide) (by show 3 < 1000; decide) fun hg hh => ?_⟩)
  obtain ⟨top, rfl, t0, t1⟩ : ∃ high : Int, hg = .int high ∧ 1 ≤ high ∧ high ≤ 500000000000 := by
    simp only [List.mem_cons, List.not_mem_nil, or_false] at hh
    rcases hh with rfl | rfl | rfl
    · exact ⟨99, rfl, by decide, by decide⟩
    · exact ⟨10 ^ 7, rfl, by decide, by decide⟩
    · exact ⟨5 * 10 ^ 11, rfl, by decide, by decide⟩
  show f__law_right_10 [.box, s1, .dt (ln true row rooms), .dt (sqd true (ws.map oI)), .dt (iq true hs), .dt (.str (wy b)), .dt (.int top), s7, s8, s9, s10, s11, s12, s13, s14, s15, s16, .no] _
  unfold f__law_right_10
  refine take_of (by omega) (by omega) fun f f0 f1 => take_of (by omega) (by omega) fun m m0 m1 => ?_
  obtain ⟨few, rfl⟩ : ∃ k : Nat, f = (k : Nat) := ⟨f.toNat, by omega⟩
  obtain ⟨more, rfl⟩ : ∃ k : Nat, m = (k : Nat) := ⟨m.toNat, by omega⟩
  have gb : 0 < nG row rooms ∧ nG row rooms ≤ 9 := by show 0 < gts row rooms.length ∧ gts row rooms.length ≤ 9; unfold gts; split <;> omega
  have l0 : (zr (nG row rooms)).length = nG row rooms := vec_len
  have V0 : Vd rooms (ledL hs (zr (nG row rooms))) := by rw [led_nought]; exact V
  -- the four counts
  obtain ⟨A, hA⟩ : ∃ A, runX row rooms hs (bws b ws few) (zr (nG row rooms)) = A := ⟨_, rfl⟩
  have lA : A.length = nG row rooms := by rw [← hA, runX_len, l0]
  have VA : Vd rooms (ledL hs A) := by rw [← hA]; exact run_vdX n0 n2 (by omega) lh lw W few _ l0 V0
  obtain ⟨B, hB⟩ : ∃ B, runX row rooms hs (bws b ws more) A = B := ⟨_, rfl⟩
  have lB : B.length = nG row rooms := by rw [← hB, runX_len, lA]
  have VB : Vd rooms (ledL hs B) := by rw [← hB]; exact run_vdX n0 n2 (by omega) lh lw W more _ lA VA
  obtain ⟨C, hC⟩ : ∃ C, runX row rooms hs (bws b ws 1) B = C := ⟨_, rfl⟩
  have lC : C.length = nG row rooms := by rw [← hC, runX_len, lB]
  have hB2 : runX row rooms hs (bws b ws (few + more)) (zr (nG row rooms)) = B := by rw [run_add, hA, hB]
  have hB3 : runX row rooms hs (bws b ws few) (runX row rooms hs (bws b ws more) (zr (nG row rooms))) = B := by rw [← run_add, Nat.add_comm, hB2]
  have hC2 : runX row rooms hs (bws b ws (few + more + 1)) (zr (nG row rooms)) = C := by rw [run_add, hB2, hC]
  have uA := run_up (b := b) n0 n2 (by omega) lh lw W few (zr (nG row rooms)) l0 V0
  have uB := run_up (b := b) n0 n2 (by omega) lh lw W more A lA VA
  have uC := run_up (b := b) n0 n2 (by omega) lh lw W 1 B lB VB
  rw [hA] at uA
  rw [hB] at uB
  rw [hC] at uC
  have FA : Fg8 row rooms (ledL hs A) ws := ⟨n0, by omega, by rw [ledL_len, lh], lw⟩
  have FB : Fg8 row rooms (ledL hs B) ws := ⟨n0, by omega, by rw [ledL_len, lh], lw⟩
  obtain ⟨e1, e2⟩ := run_rel (run := bws b ws more) lh lA (bws_w lw)
  rw [hB] at e1 e2
  obtain ⟨e3, e4⟩ := run_rel (run := bws b ws 1) lh lB (bws_w lw)
  rw [hC] at e3 e4
  have sAB : addL A (subL B A) = B := add_sub lA lB
  have sBC : addL B (subL C B) = C := add_sub lB lC
  have bf : few < 2 ^ 1000 := lt_big (by omega)
  have bm : more < 2 ^ 1000 := lt_big (by omega)
  have bfm : few + more < 2 ^ 1000 := lt_big (by omega)
  have bfm1 : few + more + 1 < 2 ^ 1000 := lt_big (by omega)
  show f__law_right_9 [.box, s1, .dt (ln true row rooms), .dt (sqd true (ws.map oI)), .dt (iq true hs), .dt (.str (wy b)), .dt (.int top), .dt (.int (few : Nat)), .dt (.int (more : Nat)), s9, s10, s11, s12, s13, s14, s15, s16, .no] _
  unfold f__law_right_9
  refine far_of (k := true) (kw := true) (ks := true) F8 bf ?_
  refine countsF_of (k := true) (kw := true) (ks := true) F8 bf ?_
  rw [hA]
  show f__law_right_8 [.box, s1, .dt (ln true row rooms), .dt (sqd true (ws.map oI)), .dt (iq true hs), .dt (.str (wy b)), .dt (.int top), .dt (.int (few : Nat)), .dt (.int (more : Nat)), .dt (iq true (ledL hs A)), .dt (iq true A), s11, s12, s13, s14, s15, s16, .no] _
  unfold f__law_right_8
  refine far_of (k := true) (kw := true) (ks := true) FA bm ?_
  refine countsF_of (k := true) (kw := true) (ks := true) FA bm ?_
  rw [e1, e2]
  show f__law_right_7 [.box, s1, .dt (ln true row rooms), .dt (sqd true (ws.map oI)), .dt (iq true hs), .dt (.str (wy b)), .dt (.int top), .dt (.int (few : Nat)), .dt (.int (more : Nat)), .dt (iq true (ledL hs A)), .dt (iq true A), .dt (iq true (ledL hs B)), .dt (iq true (subL B A)), s13, s14, s15, s16, .no] _
  unfold f__law_right_7
  refine far_of (k := true) (kw := true) (ks := true) (many := few + more) F8 bfm ?_
  refine countsF_of (k := true) (kw := true) (ks := true) (many := few + more) F8 bfm ?_
  rw [hB2]
  show f__law_right_6 [.box, s1, .dt (ln true row rooms), .dt (sqd true (ws.map oI)), .dt (iq true hs), .dt (.str (wy b)), .dt (.int top), .dt (.int (few : Nat)), .dt (.int (more : Nat)), .dt (iq true (ledL hs A)), .dt (iq true A), .dt (iq true (ledL hs B)), .dt (iq true (subL B A)), .dt (.list [iq true (ledL hs B), iq true B]), s14, s15, s16, .no] _
  unfold f__law_right_6
  refine summed_of (by rw [sub_len, lB, lA]) (by omega) ?_
  rw [sAB]
  refine same_of rfl (pair_shal (by rw [ledL_len]; omega) (by omega)) ?_
  show f__law_right_5 [.box, s1, .dt (ln true row rooms), .dt (sqd true (ws.map oI)), .dt (iq true hs), .dt (.str (wy b)), .dt (.int top), .dt (.int (few : Nat)), .dt (.int (more : Nat)), .dt (iq true (ledL hs A)), .dt (iq true A), .dt (iq true (ledL hs B)), .dt (iq true (subL B A)), .dt (.list [iq true (ledL hs B), iq true B]), s14, s15, s16, .no] _
  unfold f__law_right_5
  obtain ⟨M, hM⟩ : ∃ M, runX row rooms hs (bws b ws more) (zr (nG row rooms)) = M := ⟨_, rfl⟩
  have lM : M.length = nG row rooms := by rw [← hM, runX_len, l0]
  have FM : Fg8 row rooms (ledL hs M) ws := ⟨n0, by omega, by rw [ledL_len, lh], lw⟩
  obtain ⟨e5, e6⟩ := run_rel (run := bws b ws few) lh lM (bws_w lw)
  rw [hM] at hB3
  rw [hB3] at e5
  refine far_of (k := true) (kw := true) (ks := true) F8 bm ?_
  rw [hM]
  refine far_of (k := true) (kw := true) (ks := true) FM bf ?_
  rw [e5]
  refine ne_iq (k := true) ?_
  show f__law_right_4 [.box, s1, .dt (ln true row rooms), .dt (sqd true (ws.map oI)), .dt (iq true hs), .dt (.str (wy b)), .dt (.int top), .dt (.int (few : Nat)), .dt (.int (more : Nat)), .dt (iq true (ledL hs A)), .dt (iq true A), .dt (iq true (ledL hs B)), .dt (iq true (subL B A)), .dt (.list [iq true (ledL hs B), iq true B]), s14, s15, s16, .no] _
  unfold f__law_right_4
  refine goneB_of (many := 1) n0 n2 (by omega) lw FB.lh (by decide) ?_
  rw [e3, e4]
  show f__law_right_3 [.box, s1, .dt (ln true row rooms), .dt (sqd true (ws.map oI)), .dt (iq true hs), .dt (.str (wy b)), .dt (.int top), .dt (.int (few : Nat)), .dt (.int (more : Nat)), .dt (iq true (ledL hs A)), .dt (iq true A), .dt (iq true (ledL hs B)), .dt (iq true (subL B A)), .dt (.list [iq true (ledL hs B), iq true B]), .dt (iq true (ledL hs C)), .dt (iq true (subL C B)), s16, .no] _
  unfold f__law_right_3
  refine far_of (k := true) (kw := true) (ks := true) (many := few + more + 1) F8 bfm1 ?_
  refine countsF_of (k := true) (kw := true) (ks := true) (many := few + more + 1) F8 bfm1 ?_
  rw [hC2]
  show f__law_right_2 [.box, s1, .dt (ln true row rooms), .dt (sqd true (ws.map oI)), .dt (iq true hs), .dt (.str (wy b)), .dt (.int top), .dt (.int (few : Nat)), .dt (.int (more : Nat)), .dt (iq true (ledL hs A)), .dt (iq true A), .dt (iq true (ledL hs B)), .dt (iq true (subL B A)), .dt (.list [iq true (ledL hs C), iq true C]), .dt (iq true (ledL hs C)), .dt (iq true (subL C B)), s16, .no] _
  unfold f__law_right_2
  refine summed_of (by rw [sub_len, lB, lA]) (by omega) ?_
  rw [sAB]
  refine summed_of (by rw [sub_len, lC, lB]) (by omega) ?_
  rw [sBC]
  refine same_of rfl (pair_shal (by rw [ledL_len]; omega) (by omega)) ?_
  show f__law_right_1 [.box, s1, .dt (ln true row rooms), .dt (sqd true (ws.map oI)), .dt (iq true hs), .dt (.str (wy b)), .dt (.int top), .dt (.int (few : Nat)), .dt (.int (more : Nat)), .dt (iq true (ledL hs A)), .dt (iq true A), .dt (iq true (ledL hs B)), .dt (iq true (subL B A)), .dt (.list [iq true (ledL hs C), iq true C]), .dt (iq true (ledL hs C)), .dt (iq true (subL C B)), s16, .no] _
  unfold f__law_right_1
  have lS1 : (subL B A).length = nG row rooms := by rw [sub_len, lB]
  have lS2 : (subL C B).length = nG row rooms := by rw [sub_len, lC]
  have nn : ∀ x ∈ A ++ subL B A ++ subL C B, if b = true then 0 ≤ x else x ≤ 0 := fun x hx => by
    have at_ : ∀ (l : List Int), l.length = nG row rooms → x ∈ l → ∃ i, i < nG row rooms ∧ x = l.getD i 0 := fun l hl hx => by
      obtain ⟨i, hi, rfl⟩ := List.getElem_of_mem hx
      exact ⟨i, by omega, by rw [List.getD_eq_getElem?_getD, List.getElem?_eq_getElem hi]; rfl⟩
    simp only [List.mem_append] at hx
    rcases hx with (hx | hx) | hx
    · obtain ⟨i, hi, rfl⟩ := at_ _ lA hx
      have u := uA i hi
      rw [vec_get hi] at u
      exact u
    · obtain ⟨i, hi, rfl⟩ := at_ _ lS1 hx
      have u := uB i hi
      rw [sub_get (by omega)]
      split at u <;> rename_i c
      · rw [if_pos c]; omega
      · rw [if_neg c]; omega
    · obtain ⟨i, hi, rfl⟩ := at_ _ lS2 hx
      have u := uC i hi
      rw [sub_get (by omega)]
      split at u <;> rename_i c
      · rw [if_pos c]; omega
      · rw [if_neg c]; omega
  have la : (A.map PyData.int ++ (subL B A).map PyData.int).length = nG row rooms + nG row rooms := by rw [List.length_append, len_i, len_i, lA, lS1]
  refine (show (A.map PyData.int).length + ((subL B A).map PyData.int).length ≤ 1000000 ∧ _ from ⟨by rw [len_i, len_i]; omega, ?_⟩)
  refine (show (A.map PyData.int ++ (subL B A).map PyData.int).length + ((subL C B).map PyData.int).length ≤ 1000000 ∧ _ from ⟨by rw [len_i, la]; omega, ?_⟩)
  have em : A.map PyData.int ++ (subL B A).map PyData.int ++ (subL C B).map PyData.int = (A ++ subL B A ++ subL C B).map PyData.int := by rw [List.map_append, List.map_append]
  refine (show (A.map PyData.int ++ (subL B A).map PyData.int ++ (subL C B).map PyData.int).length ≤ 1000000 ∧ _ from ⟨by rw [List.length_append, la, len_i]; omega, ?_⟩)
  rw [em]
  refine comp_enc PyData.int (fun _ => .bool true) _ [] (fun x hx P hp => ?_) ?_
  · have u := nn x hx
    show if decide (wy b = "forth") = true then P (.bool (decide (0 ≤ x))) else P (.bool (decide (x ≤ 0)))
    rw [wy_forth]
    split at u <;> rename_i c
    · rw [if_pos c, decide_eq_true u]
      exact hp
    · rw [if_neg c, decide_eq_true u]
      exact hp
  · rw [List.nil_append, bools_all]
    show f__law_right_0 [.box, s1, .dt (ln true row rooms), .dt (sqd true (ws.map oI)), .dt (iq true hs), .dt (.str (wy b)), .dt (.int top), .dt (.int (few : Nat)), .dt (.int (more : Nat)), .dt (iq true (ledL hs A)), .dt (iq true A), .dt (iq true (ledL hs B)), .dt (iq true (subL B A)), .dt (.list [iq true (ledL hs C), iq true C]), .dt (iq true (ledL hs C)), .dt (iq true (subL C B)), .dt (.list ((List.replicate (A ++ subL B A ++ subL C B).length true).map PyData.bool)), .no] _
    unfold f__law_right_0
    refine (show SeqAt.shaped (.bool false) = true ∧ _ ∧ _ from ⟨by decide +kernel, shp_bools, ?_⟩)
    rw [none_false]
    exact q _ _ _ _ _ _ _ _ _ _ _ _ _ _ _ _
theorem right_of {Q : PyData → Prop} (q : Q (.bool true)) : F__law_right [.box] Q := by
  unfold F__law_right
  refine ⟨rfl, ⟨by decide, by decide⟩, by decide, ?_⟩
  refine for_inv (fun ρ => ∃ s1 s2 s3 s4 s5 s6 s7 s8 s9 s10 s11 s12 s13 s14 s15 s16 : Sl, ρ = [.box, s1, s2, s3, s4, s5, s6, s7, s8, s9, s10, s11, s12, s13, s14, s15, s16, .no]) _ _ (fun ρ d N i hd k => ?_) ⟨_, _, _, _, _, _, _, _, _, _, _, _, _, _, _, _, rfl⟩ (fun ρ i => ?_)
  · obtain ⟨s1, s2, s3, s4, s5, s6, s7, s8, s9, s10, s11, s12, s13, s14, s15, s16, rfl⟩ := i
    exact turn_of fun s1 s2 s3 s4 s5 s6 s7 s8 s9 s10 s11 s12 s13 s14 s15 s16 => k _ ⟨_, _, _, _, _, _, _, _, _, _, _, _, _, _, _, _, rfl⟩
  · obtain ⟨s1, s2, s3, s4, s5, s6, s7, s8, s9, s10, s11, s12, s13, s14, s15, s16, rfl⟩ := i
    show f__law_right_13 _ _
    unfold f__law_right_13
    exact q
theorem law_true (ns : List Int) : F_law [.scr ns] (fun d => d = .bool true) := by
  unfold F_law
  exact ⟨rfl, lawB (c := 3) (by decide) (fun Q q => right_of q) rfl⟩
end Ke
namespace Ke
open PySem PySem.Spec PyProof.Rows L2 Xg Dv Kd
theorem all_mk {l : PySem.W.OpenLaw} {w : World} {K : PySem.W.Frag} {h : Heap} {mg : Str → Option Value} {fa : Addr} (X : K.In h) (G : h.Ns mainGlobals mg) (hfa : mg "law" = some (.ref fa))
    {t_FORTH_ t_RING_ t_ROW_ : Tok}
    {u_is_number : Addr} {od_is_number an_is_number : Option Addr} {sl_is_number : Array (Option Value)} {oc_is_number kV_is_number dc_is_number pm_is_number cd_is_number ct_is_number : Value}
    {u_gates : Addr} {od_gates an_gates : Option Addr} {sl_gates : Array (Option Value)} {oc_gates kV_gates dc_gates pm_gates cd_gates ct_gates : Value}
    {u_led_to : Addr} {od_led_to an_led_to : Option Addr} {sl_led_to : Array (Option Value)} {oc_led_to kV_led_to dc_led_to pm_led_to cd_led_to ct_led_to : Value}
    {u_cost : Addr} {od_cost an_cost : Option Addr} {sl_cost : Array (Option Value)} {oc_cost kV_cost dc_cost pm_cost cd_cost ct_cost : Value}
    {u_is_gate : Addr} {od_is_gate an_is_gate : Option Addr} {sl_is_gate : Array (Option Value)} {oc_is_gate kV_is_gate dc_is_gate pm_is_gate cd_is_gate ct_is_gate : Value}
    {u_costs : Addr} {od_costs an_costs : Option Addr} {sl_costs : Array (Option Value)} {oc_costs kV_costs dc_costs pm_costs cd_costs ct_costs : Value}
    {u_gate_behind : Addr} {od_gate_behind an_gate_behind : Option Addr} {sl_gate_behind : Array (Option Value)} {oc_gate_behind kV_gate_behind dc_gate_behind pm_gate_behind cd_gate_behind ct_gate_behind : Value}
    {u_grid_of_one : Addr} {od_grid_of_one an_grid_of_one : Option Addr} {sl_grid_of_one : Array (Option Value)} {oc_grid_of_one kV_grid_of_one dc_grid_of_one pm_grid_of_one cd_grid_of_one ct_grid_of_one : Value}
    {u_doubled_grids : Addr} {od_doubled_grids an_doubled_grids : Option Addr} {sl_doubled_grids : Array (Option Value)} {oc_doubled_grids kV_doubled_grids dc_doubled_grids pm_doubled_grids cd_doubled_grids ct_doubled_grids : Value}
    {u_grids_in : Addr} {od_grids_in an_grids_in : Option Addr} {sl_grids_in : Array (Option Value)} {oc_grids_in kV_grids_in dc_grids_in pm_grids_in cd_grids_in ct_grids_in : Value}
    {u_chained : Addr} {od_chained an_chained : Option Addr} {sl_chained : Array (Option Value)} {oc_chained kV_chained dc_chained pm_chained cd_chained ct_chained : Value}
    {u_columns_of : Addr} {od_columns_of an_columns_of : Option Addr} {sl_columns_of : Array (Option Value)} {oc_columns_of kV_columns_of dc_columns_of pm_columns_of cd_columns_of ct_columns_of : Value}
    {u_least_sum : Addr} {od_least_sum an_least_sum : Option Addr} {sl_least_sum : Array (Option Value)} {oc_least_sum kV_least_sum dc_least_sum pm_least_sum cd_least_sum ct_least_sum : Value}
    {u_led_by : Addr} {od_led_by an_led_by : Option Addr} {sl_led_by : Array (Option Value)} {oc_led_by kV_led_by dc_led_by pm_led_by cd_led_by ct_led_by : Value}
    {u_led_back_by : Addr} {od_led_back_by an_led_back_by : Option Addr} {sl_led_back_by : Array (Option Value)} {oc_led_back_by kV_led_back_by dc_led_back_by pm_led_back_by cd_led_back_by ct_led_back_by : Value}
    {u_gone_on : Addr} {od_gone_on an_gone_on : Option Addr} {sl_gone_on : Array (Option Value)} {oc_gone_on kV_gone_on dc_gone_on pm_gone_on cd_gone_on ct_gone_on : Value}
    {u_noughts : Addr} {od_noughts an_noughts : Option Addr} {sl_noughts : Array (Option Value)} {oc_noughts kV_noughts dc_noughts pm_noughts cd_noughts ct_noughts : Value}
    {u_counts : Addr} {od_counts an_counts : Option Addr} {sl_counts : Array (Option Value)} {oc_counts kV_counts dc_counts pm_counts cd_counts ct_counts : Value}
    {u_far : Addr} {od_far an_far : Option Addr} {sl_far : Array (Option Value)} {oc_far kV_far dc_far pm_far cd_far ct_far : Value}
    {u__law_box : Addr} {od__law_box an__law_box : Option Addr} {sl__law_box : Array (Option Value)} {oc__law_box kV__law_box dc__law_box pm__law_box cd__law_box ct__law_box : Value}
    {u__law_take : Addr} {od__law_take an__law_take : Option Addr} {sl__law_take : Array (Option Value)} {oc__law_take kV__law_take dc__law_take pm__law_take cd__law_take ct__law_take : Value}
    {u__law_pick : Addr} {od__law_pick an__law_pick : Option Addr} {sl__law_pick : Array (Option Value)} {oc__law_pick kV__law_pick dc__law_pick pm__law_pick cd__law_pick ct__law_pick : Value}
    {u__law_same : Addr} {od__law_same an__law_same : Option Addr} {sl__law_same : Array (Option Value)} {oc__law_same kV__law_same dc__law_same pm__law_same cd__law_same ct__law_same : Value}
    {u__law_line : Addr} {od__law_line an__law_line : Option Addr} {sl__law_line : Array (Option Value)} {oc__law_line kV__law_line dc__law_line pm__law_line cd__law_line ct__law_line : Value}
    {u__law_gates : Addr} {od__law_gates an__law_gates : Option Addr} {sl__law_gates : Array (Option Value)} {oc__law_gates kV__law_gates dc__law_gates pm__law_gates cd__law_gates ct__law_gates : Value}
    {u__law_widths : Addr} {od__law_widths an__law_widths : Option Addr} {sl__law_widths : Array (Option Value)} {oc__law_widths kV__law_widths dc__law_widths pm__law_widths cd__law_widths ct__law_widths : Value}
    {u__law_lot : Addr} {od__law_lot an__law_lot : Option Addr} {sl__law_lot : Array (Option Value)} {oc__law_lot kV__law_lot dc__law_lot pm__law_lot cd__law_lot ct__law_lot : Value}
    {u__law_moved : Addr} {od__law_moved an__law_moved : Option Addr} {sl__law_moved : Array (Option Value)} {oc__law_moved kV__law_moved dc__law_moved pm__law_moved cd__law_moved ct__law_moved : Value}
    {u__law_gone : Addr} {od__law_gone an__law_gone : Option Addr} {sl__law_gone : Array (Option Value)} {oc__law_gone kV__law_gone dc__law_gone pm__law_gone cd__law_gone ct__law_gone : Value}
    {u__law_summed : Addr} {od__law_summed an__law_summed : Option Addr} {sl__law_summed : Array (Option Value)} {oc__law_summed kV__law_summed dc__law_summed pm__law_summed cd__law_summed ct__law_summed : Value}
    {u__law_right : Addr} {od__law_right an__law_right : Option Addr} {sl__law_right : Array (Option Value)} {oc__law_right kV__law_right dc__law_right pm__law_right cd__law_right ct__law_right : Value}
    {u_law : Addr} {od_law an_law : Option Addr} {sl_law : Array (Option Value)} {oc_law kV_law dc_law pm_law cd_law ct_law : Value}
    (a_is_number : PySem.W.nsIn K mainGlobals "is_number" = some (some (.ref u_is_number))) (l_is_number : K.lookup u_is_number = some ⟨oc_is_number, od_is_number, .func (PySem.W.fnOf "is_number" "is_number" (defArgs (topS 1)) (defBody (topS 1)) (defScope (topS 1)) .none kV_is_number dc_is_number pm_is_number an_is_number cd_is_number ct_is_number), sl_is_number⟩) (e_is_number : PySem.W.codeIn K cd_is_number "is_number" = true) (k_is_number : PySem.W.keepIn K (.ref u_is_number) = true)
    (a_gates : PySem.W.nsIn K mainGlobals "gates" = some (some (.ref u_gates))) (l_gates : K.lookup u_gates = some ⟨oc_gates, od_gates, .func (PySem.W.fnOf "gates" "gates" (defArgs (topS 5)) (defBody (topS 5)) (defScope (topS 5)) .none kV_gates dc_gates pm_gates an_gates cd_gates ct_gates), sl_gates⟩) (e_gates : PySem.W.codeIn K cd_gates "gates" = true) (k_gates : PySem.W.keepIn K (.ref u_gates) = true)
    (a_led_to : PySem.W.nsIn K mainGlobals "led_to" = some (some (.ref u_led_to))) (l_led_to : K.lookup u_led_to = some ⟨oc_led_to, od_led_to, .func (PySem.W.fnOf "led_to" "led_to" (defArgs (topS 8)) (defBody (topS 8)) (defScope (topS 8)) .none kV_led_to dc_led_to pm_led_to an_led_to cd_led_to ct_led_to), sl_led_to⟩) (e_led_to : PySem.W.codeIn K cd_led_to "led_to" = true) (k_led_to : PySem.W.keepIn K (.ref u_led_to) = true)
    (a_cost : PySem.W.nsIn K mainGlobals "cost" = some (some (.ref u_cost))) (l_cost : K.lookup u_cost = some ⟨oc_cost, od_cost, .func (PySem.W.fnOf "cost" "cost" (defArgs (topS 10)) (defBody (topS 10)) (defScope (topS 10)) .none kV_cost dc_cost pm_cost an_cost cd_cost ct_cost), sl_cost⟩) (e_cost : PySem.W.codeIn K cd_cost "cost" = true) (k_cost : PySem.W.keepIn K (.ref u_cost) = true)
    (a_is_gate : PySem.W.nsIn K mainGlobals "is_gate" = some (some (.ref u_is_gate))) (l_is_gate : K.lookup u_is_gate = some ⟨oc_is_gate, od_is_gate, .func (PySem.W.fnOf "is_gate" "is_gate" (defArgs (topS 11)) (defBody (topS 11)) (defScope (topS 11)) .none kV_is_gate dc_is_gate pm_is_gate an_is_gate cd_is_gate ct_is_gate), sl_is_gate⟩) (e_is_gate : PySem.W.codeIn K cd_is_gate "is_gate" = true) (k_is_gate : PySem.W.keepIn K (.ref u_is_gate) = true)
    (a_costs : PySem.W.nsIn K mainGlobals "costs" = some (some (.ref u_costs))) (l_costs : K.lookup u_costs = some ⟨oc_costs, od_costs, .func (PySem.W.fnOf "costs" "costs" (defArgs (topS 12)) (defBody (topS 12)) (defScope (topS 12)) .none kV_costs dc_costs pm_costs an_costs cd_costs ct_costs), sl_costs⟩) (e_costs : PySem.W.codeIn K cd_costs "costs" = true) (k_costs : PySem.W.keepIn K (.ref u_costs) = true)
    (a_gate_behind : PySem.W.nsIn K mainGlobals "gate_behind" = some (some (.ref u_gate_behind))) (l_gate_behind : K.lookup u_gate_behind = some ⟨oc_gate_behind, od_gate_behind, .func (PySem.W.fnOf "gate_behind" "gate_behind" (defArgs (topS 13)) (defBody (topS 13)) (defScope (topS 13)) .none kV_gate_behind dc_gate_behind pm_gate_behind an_gate_behind cd_gate_behind ct_gate_behind), sl_gate_behind⟩) (e_gate_behind : PySem.W.codeIn K cd_gate_behind "gate_behind" = true) (k_gate_behind : PySem.W.keepIn K (.ref u_gate_behind) = true)
    (a_grid_of_one : PySem.W.nsIn K mainGlobals "grid_of_one" = some (some (.ref u_grid_of_one))) (l_grid_of_one : K.lookup u_grid_of_one = some ⟨oc_grid_of_one, od_grid_of_one, .func (PySem.W.fnOf "grid_of_one" "grid_of_one" (defArgs (topS 15)) (defBody (topS 15)) (defScope (topS 15)) .none kV_grid_of_one dc_grid_of_one pm_grid_of_one an_grid_of_one cd_grid_of_one ct_grid_of_one), sl_grid_of_one⟩) (e_grid_of_one : PySem.W.codeIn K cd_grid_of_one "grid_of_one" = true) (k_grid_of_one : PySem.W.keepIn K (.ref u_grid_of_one) = true)
    (a_doubled_grids : PySem.W.nsIn K mainGlobals "doubled_grids" = some (some (.ref u_doubled_grids))) (l_doubled_grids : K.lookup u_doubled_grids = some ⟨oc_doubled_grids, od_doubled_grids, .func (PySem.W.fnOf "doubled_grids" "doubled_grids" (defArgs (topS 16)) (defBody (topS 16)) (defScope (topS 16)) .none kV_doubled_grids dc_doubled_grids pm_doubled_grids an_doubled_grids cd_doubled_grids ct_doubled_grids), sl_doubled_grids⟩) (e_doubled_grids : PySem.W.codeIn K cd_doubled_grids "doubled_grids" = true) (k_doubled_grids : PySem.W.keepIn K (.ref u_doubled_grids) = true)
    (a_grids_in : PySem.W.nsIn K mainGlobals "grids_in" = some (some (.ref u_grids_in))) (l_grids_in : K.lookup u_grids_in = some ⟨oc_grids_in, od_grids_in, .func (PySem.W.fnOf "grids_in" "grids_in" (defArgs (topS 17)) (defBody (topS 17)) (defScope (topS 17)) .none kV_grids_in dc_grids_in pm_grids_in an_grids_in cd_grids_in ct_grids_in), sl_grids_in⟩) (e_grids_in : PySem.W.codeIn K cd_grids_in "grids_in" = true) (k_grids_in : PySem.W.keepIn K (.ref u_grids_in) = true)
    (a_chained : PySem.W.nsIn K mainGlobals "chained" = some (some (.ref u_chained))) (l_chained : K.lookup u_chained = some ⟨oc_chained, od_chained, .func (PySem.W.fnOf "chained" "chained" (defArgs (topS 18)) (defBody (topS 18)) (defScope (topS 18)) .none kV_chained dc_chained pm_chained an_chained cd_chained ct_chained), sl_chained⟩) (e_chained : PySem.W.codeIn K cd_chained "chained" = true) (k_chained : PySem.W.keepIn K (.ref u_chained) = true)
    (a_columns_of : PySem.W.nsIn K mainGlobals "columns_of" = some (some (.ref u_columns_of))) (l_columns_of : K.lookup u_columns_of = some ⟨oc_columns_of, od_columns_of, .func (PySem.W.fnOf "columns_of" "columns_of" (defArgs (topS 19)) (defBody (topS 19)) (defScope (topS 19)) .none kV_columns_of dc_columns_of pm_columns_of an_columns_of cd_columns_of ct_columns_of), sl_columns_of⟩) (e_columns_of : PySem.W.codeIn K cd_columns_of "columns_of" = true) (k_columns_of : PySem.W.keepIn K (.ref u_columns_of) = true)
    (a_least_sum : PySem.W.nsIn K mainGlobals "least_sum" = some (some (.ref u_least_sum))) (l_least_sum : K.lookup u_least_sum = some ⟨oc_least_sum, od_least_sum, .func (PySem.W.fnOf "least_sum" "least_sum" (defArgs (topS 20)) (defBody (topS 20)) (defScope (topS 20)) .none kV_least_sum dc_least_sum pm_least_sum an_least_sum cd_least_sum ct_least_sum), sl_least_sum⟩) (e_least_sum : PySem.W.codeIn K cd_least_sum "least_sum" = true) (k_least_sum : PySem.W.keepIn K (.ref u_least_sum) = true)
    (a_led_by : PySem.W.nsIn K mainGlobals "led_by" = some (some (.ref u_led_by))) (l_led_by : K.lookup u_led_by = some ⟨oc_led_by, od_led_by, .func (PySem.W.fnOf "led_by" "led_by" (defArgs (topS 21)) (defBody (topS 21)) (defScope (topS 21)) .none kV_led_by dc_led_by pm_led_by an_led_by cd_led_by ct_led_by), sl_led_by⟩) (e_led_by : PySem.W.codeIn K cd_led_by "led_by" = true) (k_led_by : PySem.W.keepIn K (.ref u_led_by) = true)
    (a_led_back_by : PySem.W.nsIn K mainGlobals "led_back_by" = some (some (.ref u_led_back_by))) (l_led_back_by : K.lookup u_led_back_by = some ⟨oc_led_back_by, od_led_back_by, .func (PySem.W.fnOf "led_back_by" "led_back_by" (defArgs (topS 22)) (defBody (topS 22)) (defScope (topS 22)) .none kV_led_back_by dc_led_back_by pm_led_back_by an_led_back_by cd_led_back_by ct_led_back_by), sl_led_back_by⟩) (e_led_back_by : PySem.W.codeIn K cd_led_back_by "led_back_by" = true) (k_led_back_by : PySem.W.keepIn K (.ref u_led_back_by) = true)
    (a_gone_on : PySem.W.nsIn K mainGlobals "gone_on" = some (some (.ref u_gone_on))) (l_gone_on : K.lookup u_gone_on = some ⟨oc_gone_on, od_gone_on, .func (PySem.W.fnOf "gone_on" "gone_on" (defArgs (topS 23)) (defBody (topS 23)) (defScope (topS 23)) .none kV_gone_on dc_gone_on pm_gone_on an_gone_on cd_gone_on ct_gone_on), sl_gone_on⟩) (e_gone_on : PySem.W.codeIn K cd_gone_on "gone_on" = true) (k_gone_on : PySem.W.keepIn K (.ref u_gone_on) = true)
    (a_noughts : PySem.W.nsIn K mainGlobals "noughts" = some (some (.ref u_noughts))) (l_noughts : K.lookup u_noughts = some ⟨oc_noughts, od_noughts, .func (PySem.W.fnOf "noughts" "noughts" (defArgs (topS 25)) (defBody (topS 25)) (defScope (topS 25)) .none kV_noughts dc_noughts pm_noughts an_noughts cd_noughts ct_noughts), sl_noughts⟩) (e_noughts : PySem.W.codeIn K cd_noughts "noughts" = true) (k_noughts : PySem.W.keepIn K (.ref u_noughts) = true)
    (a_counts : PySem.W.nsIn K mainGlobals "counts" = some (some (.ref u_counts))) (l_counts : K.lookup u_counts = some ⟨oc_counts, od_counts, .func (PySem.W.fnOf "counts" "counts" (defArgs (topS 26)) (defBody (topS 26)) (defScope (topS 26)) .none kV_counts dc_counts pm_counts an_counts cd_counts ct_counts), sl_counts⟩) (e_counts : PySem.W.codeIn K cd_counts "counts" = true) (k_counts : PySem.W.keepIn K (.ref u_counts) = true)
    (a_far : PySem.W.nsIn K mainGlobals "far" = some (some (.ref u_far))) (l_far : K.lookup u_far = some ⟨oc_far, od_far, .func (PySem.W.fnOf "far" "far" (defArgs (topS 27)) (defBody (topS 27)) (defScope (topS 27)) .none kV_far dc_far pm_far an_far cd_far ct_far), sl_far⟩) (e_far : PySem.W.codeIn K cd_far "far" = true) (k_far : PySem.W.keepIn K (.ref u_far) = true)
    (a__law_box : PySem.W.nsIn K mainGlobals "_law_box" = some (some (.ref u__law_box))) (l__law_box : K.lookup u__law_box = some ⟨oc__law_box, od__law_box, .func (PySem.W.fnOf "_law_box" "_law_box" (defArgs (topS 29)) (defBody (topS 29)) (defScope (topS 29)) .none kV__law_box dc__law_box pm__law_box an__law_box cd__law_box ct__law_box), sl__law_box⟩) (e__law_box : PySem.W.codeIn K cd__law_box "_law_box" = true) (k__law_box : PySem.W.keepIn K (.ref u__law_box) = true)
    (a__law_take : PySem.W.nsIn K mainGlobals "_law_take" = some (some (.ref u__law_take))) (l__law_take : K.lookup u__law_take = some ⟨oc__law_take, od__law_take, .func (PySem.W.fnOf "_law_take" "_law_take" (defArgs (topS 30)) (defBody (topS 30)) (defScope (topS 30)) .none kV__law_take dc__law_take pm__law_take an__law_take cd__law_take ct__law_take), sl__law_take⟩) (e__law_take : PySem.W.codeIn K cd__law_take "_law_take" = true) (k__law_take : PySem.W.keepIn K (.ref u__law_take) = true)
    (a__law_pick : PySem.W.nsIn K mainGlobals "_law_pick" = some (some (.ref u__law_pick))) (l__law_pick : K.lookup u__law_pick = some ⟨oc__law_pick, od__law_pick, .func (PySem.W.fnOf "_law_pick" "_law_pick" (defArgs (topS 31)) (defBody (topS 31)) (defScope (topS 31)) .none kV__law_pick dc__law_pick pm__law_pick an__law_pick cd__law_pick ct__law_pick), sl__law_pick⟩) (e__law_pick : PySem.W.codeIn K cd__law_pick "_law_pick" = true) (k__law_pick : PySem.W.keepIn K (.ref u__law_pick) = true)
    (a__law_same : PySem.W.nsIn K mainGlobals "_law_same" = some (some (.ref u__law_same))) (l__law_same : K.lookup u__law_same = some ⟨oc__law_same, od__law_same, .func (PySem.W.fnOf "_law_same" "_law_same" (defArgs (topS 32)) (defBody (topS 32)) (defScope (topS 32)) .none kV__law_same dc__law_same pm__law_same an__law_same cd__law_same ct__law_same), sl__law_same⟩) (e__law_same : PySem.W.codeIn K cd__law_same "_law_same" = true) (k__law_same : PySem.W.keepIn K (.ref u__law_same) = true)
    (a__law_line : PySem.W.nsIn K mainGlobals "_law_line" = some (some (.ref u__law_line))) (l__law_line : K.lookup u__law_line = some ⟨oc__law_line, od__law_line, .func (PySem.W.fnOf "_law_line" "_law_line" (defArgs (topS 33)) (defBody (topS 33)) (defScope (topS 33)) .none kV__law_line dc__law_line pm__law_line an__law_line cd__law_line ct__law_line), sl__law_line⟩) (e__law_line : PySem.W.codeIn K cd__law_line "_law_line" = true) (k__law_line : PySem.W.keepIn K (.ref u__law_line) = true)
    (a__law_gates : PySem.W.nsIn K mainGlobals "_law_gates" = some (some (.ref u__law_gates))) (l__law_gates : K.lookup u__law_gates = some ⟨oc__law_gates, od__law_gates, .func (PySem.W.fnOf "_law_gates" "_law_gates" (defArgs (topS 34)) (defBody (topS 34)) (defScope (topS 34)) .none kV__law_gates dc__law_gates pm__law_gates an__law_gates cd__law_gates ct__law_gates), sl__law_gates⟩) (e__law_gates : PySem.W.codeIn K cd__law_gates "_law_gates" = true) (k__law_gates : PySem.W.keepIn K (.ref u__law_gates) = true)
    (a__law_widths : PySem.W.nsIn K mainGlobals "_law_widths" = some (some (.ref u__law_widths))) (l__law_widths : K.lookup u__law_widths = some ⟨oc__law_widths, od__law_widths, .func (PySem.W.fnOf "_law_widths" "_law_widths" (defArgs (topS 35)) (defBody (topS 35)) (defScope (topS 35)) .none kV__law_widths dc__law_widths pm__law_widths an__law_widths cd__law_widths ct__law_widths), sl__law_widths⟩) (e__law_widths : PySem.W.codeIn K cd__law_widths "_law_widths" = true) (k__law_widths : PySem.W.keepIn K (.ref u__law_widths) = true)
    (a__law_lot : PySem.W.nsIn K mainGlobals "_law_lot" = some (some (.ref u__law_lot))) (l__law_lot : K.lookup u__law_lot = some ⟨oc__law_lot, od__law_lot, .func (PySem.W.fnOf "_law_lot" "_law_lot" (defArgs (topS 36)) (defBody (topS 36)) (defScope (topS 36)) .none kV__law_lot dc__law_lot pm__law_lot an__law_lot cd__law_lot ct__law_lot), sl__law_lot⟩) (e__law_lot : PySem.W.codeIn K cd__law_lot "_law_lot" = true) (k__law_lot : PySem.W.keepIn K (.ref u__law_lot) = true)
    (a__law_moved : PySem.W.nsIn K mainGlobals "_law_moved" = some (some (.ref u__law_moved))) (l__law_moved : K.lookup u__law_moved = some ⟨oc__law_moved, od__law_moved, .func (PySem.W.fnOf "_law_moved" "_law_moved" (defArgs (topS 37)) (defBody (topS 37)) (defScope (topS 37)) .none kV__law_moved dc__law_moved pm__law_moved an__law_moved cd__law_moved ct__law_moved), sl__law_moved⟩) (e__law_moved : PySem.W.codeIn K cd__law_moved "_law_moved" = true) (k__law_moved : PySem.W.keepIn K (.ref u__law_moved) = true)
    (a__law_gone : PySem.W.nsIn K mainGlobals "_law_gone" = some (some (.ref u__law_gone))) (l__law_gone : K.lookup u__law_gone = some ⟨oc__law_gone, od__law_gone, .func (PySem.W.fnOf "_law_gone" "_law_gone" (defArgs (topS 38)) (defBody (topS 38)) (defScope (topS 38)) .none kV__law_gone dc__law_gone pm__law_gone an__law_gone cd__law_gone ct__law_gone), sl__law_gone⟩) (e__law_gone : PySem.W.codeIn K cd__law_gone "_law_gone" = true) (k__law_gone : PySem.W.keepIn K (.ref u__law_gone) = true)
    (a__law_summed : PySem.W.nsIn K mainGlobals "_law_summed" = some (some (.ref u__law_summed))) (l__law_summed : K.lookup u__law_summed = some ⟨oc__law_summed, od__law_summed, .func (PySem.W.fnOf "_law_summed" "_law_summed" (defArgs (topS 39)) (defBody (topS 39)) (defScope (topS 39)) .none kV__law_summed dc__law_summed pm__law_summed an__law_summed cd__law_summed ct__law_summed), sl__law_summed⟩) (e__law_summed : PySem.W.codeIn K cd__law_summed "_law_summed" = true) (k__law_summed : PySem.W.keepIn K (.ref u__law_summed) = true)
    (a__law_right : PySem.W.nsIn K mainGlobals "_law_right" = some (some (.ref u__law_right))) (l__law_right : K.lookup u__law_right = some ⟨oc__law_right, od__law_right, .func (PySem.W.fnOf "_law_right" "_law_right" (defArgs (topS 40)) (defBody (topS 40)) (defScope (topS 40)) .none kV__law_right dc__law_right pm__law_right an__law_right cd__law_right ct__law_right), sl__law_right⟩) (e__law_right : PySem.W.codeIn K cd__law_right "_law_right" = true) (k__law_right : PySem.W.keepIn K (.ref u__law_right) = true)
    (a_law : PySem.W.nsIn K mainGlobals "law" = some (some (.ref u_law))) (l_law : K.lookup u_law = some ⟨oc_law, od_law, .func (PySem.W.fnOf "law" "law" (defArgs (topS 41)) (defBody (topS 41)) (defScope (topS 41)) .none kV_law dc_law pm_law an_law cd_law ct_law), sl_law⟩) (e_law : PySem.W.codeIn K cd_law "law" = true) (k_law : PySem.W.keepIn K (.ref u_law) = true)
    (y_FORTH : PySem.W.nsIn K mainGlobals "FORTH" = some (some (.str "forth" t_FORTH_)))
    (y_RING : PySem.W.nsIn K mainGlobals "RING" = some (some (.str "ring" t_RING_)))
    (y_ROW : PySem.W.nsIn K mainGlobals "ROW" = some (some (.str "row" t_ROW_)))
    (z_abs : PySem.W.nsIn K mainGlobals "abs" = some none)
    (z_all : PySem.W.nsIn K mainGlobals "all" = some none)
    (z_bool : PySem.W.nsIn K mainGlobals "bool" = some none)
    (z_enumerate : PySem.W.nsIn K mainGlobals "enumerate" = some none)
    (z_int : PySem.W.nsIn K mainGlobals "int" = some none)
    (z_isinstance : PySem.W.nsIn K mainGlobals "isinstance" = some none)
    (z_len : PySem.W.nsIn K mainGlobals "len" = some none)
    (z_list : PySem.W.nsIn K mainGlobals "list" = some none)
    (z_min : PySem.W.nsIn K mainGlobals "min" = some none)
    (z_range : PySem.W.nsIn K mainGlobals "range" = some none)
    (z_str : PySem.W.nsIn K mainGlobals "str" = some none)
    (z_tuple : PySem.W.nsIn K mainGlobals "tuple" = some none)
    (z_zip : PySem.W.nsIn K mainGlobals "zip" = some none)
    : ∃ fd : FuncData, (∀ (s : Shared) (v : Value), BindsTo s fd ⟨[v], []⟩ [("_law_script", v)]) ∧ ∀ base : Heap, K.In base → base.Ns mainGlobals mg → FnG l.prog w K mg base 9 fa fd ["_law_script"] (spD K 153600 F_law) := by
  have e := hfa.symm.trans (PySem.W.mg_of X G a_law)
  cases e
  have U_is_number := fun_mk (st := topS 1) l_is_number e_is_number k_is_number
  have b_is_number := U_is_number.binds (ps := ["thing"]) fun _ _ _ _ _ _ us hl => match us, hl with | [_], _ => rfl
  have g_is_number := PySem.W.mg_of X G a_is_number
  have U_gates := fun_mk (st := topS 5) l_gates e_gates k_gates
  have b_gates := U_gates.binds (ps := ["line"]) fun _ _ _ _ _ _ us hl => match us, hl with | [_], _ => rfl
  have g_gates := PySem.W.mg_of X G a_gates
  have U_led_to := fun_mk (st := topS 8) l_led_to e_led_to k_led_to
  have b_led_to := U_led_to.binds (ps := ["standing", "counts"]) fun _ _ _ _ _ _ us hl => match us, hl with | [_, _], _ => rfl
  have g_led_to := PySem.W.mg_of X G a_led_to
  have U_cost := fun_mk (st := topS 10) l_cost e_cost k_cost
  have b_cost := U_cost.binds (ps := ["line", "widths", "standing", "gate", "other"]) fun _ _ _ _ _ _ us hl => match us, hl with | [_, _, _, _, _], _ => rfl
  have g_cost := PySem.W.mg_of X G a_cost
  have U_is_gate := fun_mk (st := topS 11) l_is_gate e_is_gate k_is_gate
  have b_is_gate := U_is_gate.binds (ps := ["line", "thing"]) fun _ _ _ _ _ _ us hl => match us, hl with | [_, _], _ => rfl
  have g_is_gate := PySem.W.mg_of X G a_is_gate
  have U_costs := fun_mk (st := topS 12) l_costs e_costs k_costs
  have b_costs := U_costs.binds (ps := ["line", "widths", "standing", "gate", "other"]) fun _ _ _ _ _ _ us hl => match us, hl with | [_, _, _, _, _], _ => rfl
  have g_costs := PySem.W.mg_of X G a_costs
  have U_gate_behind := fun_mk (st := topS 13) l_gate_behind e_gate_behind k_gate_behind
  have b_gate_behind := U_gate_behind.binds (ps := ["line", "gate"]) fun _ _ _ _ _ _ us hl => match us, hl with | [_, _], _ => rfl
  have g_gate_behind := PySem.W.mg_of X G a_gate_behind
  have U_grid_of_one := fun_mk (st := topS 15) l_grid_of_one e_grid_of_one k_grid_of_one
  have b_grid_of_one := U_grid_of_one.binds (ps := ["line", "widths", "standing"]) fun _ _ _ _ _ _ us hl => match us, hl with | [_, _, _], _ => rfl
  have g_grid_of_one := PySem.W.mg_of X G a_grid_of_one
  have U_doubled_grids := fun_mk (st := topS 16) l_doubled_grids e_doubled_grids k_doubled_grids
  have b_doubled_grids := U_doubled_grids.binds (ps := ["line", "widths", "standing", "many"]) fun _ _ _ _ _ _ us hl => match us, hl with | [_, _, _, _], _ => rfl
  have g_doubled_grids := PySem.W.mg_of X G a_doubled_grids
  have U_grids_in := fun_mk (st := topS 17) l_grids_in e_grids_in k_grids_in
  have b_grids_in := U_grids_in.binds (ps := ["grids", "many"]) fun _ _ _ _ _ _ us hl => match us, hl with | [_, _], _ => rfl
  have g_grids_in := PySem.W.mg_of X G a_grids_in
  have U_chained := fun_mk (st := topS 18) l_chained e_chained k_chained
  have b_chained := U_chained.binds (ps := ["grid", "other"]) fun _ _ _ _ _ _ us hl => match us, hl with | [_, _], _ => rfl
  have g_chained := PySem.W.mg_of X G a_chained
  have U_columns_of := fun_mk (st := topS 19) l_columns_of e_columns_of k_columns_of
  have b_columns_of := U_columns_of.binds (ps := ["grid"]) fun _ _ _ _ _ _ us hl => match us, hl with | [_], _ => rfl
  have g_columns_of := PySem.W.mg_of X G a_columns_of
  have U_least_sum := fun_mk (st := topS 20) l_least_sum e_least_sum k_least_sum
  have b_least_sum := U_least_sum.binds (ps := ["row", "column"]) fun _ _ _ _ _ _ us hl => match us, hl with | [_, _], _ => rfl
  have g_least_sum := PySem.W.mg_of X G a_least_sum
  have U_led_by := fun_mk (st := topS 21) l_led_by e_led_by k_led_by
  have b_led_by := U_led_by.binds (ps := ["grid", "numbers"]) fun _ _ _ _ _ _ us hl => match us, hl with | [_, _], _ => rfl
  have g_led_by := PySem.W.mg_of X G a_led_by
  have U_led_back_by := fun_mk (st := topS 22) l_led_back_by e_led_back_by k_led_back_by
  have b_led_back_by := U_led_back_by.binds (ps := ["grid", "numbers"]) fun _ _ _ _ _ _ us hl => match us, hl with | [_, _], _ => rfl
  have g_led_back_by := PySem.W.mg_of X G a_led_back_by
  have U_gone_on := fun_mk (st := topS 23) l_gone_on e_gone_on k_gone_on
  have b_gone_on := U_gone_on.binds (ps := ["grids", "way", "many", "counts"]) fun _ _ _ _ _ _ us hl => match us, hl with | [_, _, _, _], _ => rfl
  have g_gone_on := PySem.W.mg_of X G a_gone_on
  have U_noughts := fun_mk (st := topS 25) l_noughts e_noughts k_noughts
  have b_noughts := U_noughts.binds (ps := ["line"]) fun _ _ _ _ _ _ us hl => match us, hl with | [_], _ => rfl
  have g_noughts := PySem.W.mg_of X G a_noughts
  have U_counts := fun_mk (st := topS 26) l_counts e_counts k_counts
  have b_counts := U_counts.binds (ps := ["line", "widths", "standing", "way", "many"]) fun _ _ _ _ _ _ us hl => match us, hl with | [_, _, _, _, _], _ => rfl
  have g_counts := PySem.W.mg_of X G a_counts
  have U_far := fun_mk (st := topS 27) l_far e_far k_far
  have b_far := U_far.binds (ps := ["line", "widths", "standing", "way", "many"]) fun _ _ _ _ _ _ us hl => match us, hl with | [_, _, _, _, _], _ => rfl
  have g_far := PySem.W.mg_of X G a_far
  have U__law_box := fun_mk (st := topS 29) l__law_box e__law_box k__law_box
  have b__law_box := U__law_box.binds (ps := ["_law_script", "_law_k"]) fun _ _ _ _ _ _ us hl => match us, hl with | [_, _], _ => rfl
  have g__law_box := PySem.W.mg_of X G a__law_box
  have U__law_take := fun_mk (st := topS 30) l__law_take e__law_take k__law_take
  have b__law_take := U__law_take.binds (ps := ["_law_box_here", "_law_below"]) fun _ _ _ _ _ _ us hl => match us, hl with | [_, _], _ => rfl
  have g__law_take := PySem.W.mg_of X G a__law_take
  have U__law_pick := fun_mk (st := topS 31) l__law_pick e__law_pick k__law_pick
  have b__law_pick := U__law_pick.binds (ps := ["_law_box_here", "_law_some"]) fun _ _ _ _ _ _ us hl => match us, hl with | [_, _], _ => rfl
  have g__law_pick := PySem.W.mg_of X G a__law_pick
  have U__law_same := fun_mk (st := topS 32) l__law_same e__law_same k__law_same
  have b__law_same := U__law_same.binds (ps := ["_law_found", "_law_due"]) fun _ _ _ _ _ _ us hl => match us, hl with | [_, _], _ => rfl
  have g__law_same := PySem.W.mg_of X G a__law_same
  have U__law_line := fun_mk (st := topS 33) l__law_line e__law_line k__law_line
  have b__law_line := U__law_line.binds (ps := ["_law_box_here", "_law_most", "_law_high"]) fun _ _ _ _ _ _ us hl => match us, hl with | [_, _, _], _ => rfl
  have g__law_line := PySem.W.mg_of X G a__law_line
  have U__law_gates := fun_mk (st := topS 34) l__law_gates e__law_gates k__law_gates
  have b__law_gates := U__law_gates.binds (ps := ["_law_line_here"]) fun _ _ _ _ _ _ us hl => match us, hl with | [_], _ => rfl
  have g__law_gates := PySem.W.mg_of X G a__law_gates
  have U__law_widths := fun_mk (st := topS 35) l__law_widths e__law_widths k__law_widths
  have b__law_widths := U__law_widths.binds (ps := ["_law_box_here", "_law_line_here", "_law_high"]) fun _ _ _ _ _ _ us hl => match us, hl with | [_, _, _], _ => rfl
  have g__law_widths := PySem.W.mg_of X G a__law_widths
  have U__law_lot := fun_mk (st := topS 36) l__law_lot e__law_lot k__law_lot
  have b__law_lot := U__law_lot.binds (ps := ["_law_box_here", "_law_line_here"]) fun _ _ _ _ _ _ us hl => match us, hl with | [_, _], _ => rfl
  have g__law_lot := PySem.W.mg_of X G a__law_lot
  have U__law_moved := fun_mk (st := topS 37) l__law_moved e__law_moved k__law_moved
  have b__law_moved := U__law_moved.binds (ps := ["_law_line_here", "_law_widths_here", "_law_lot_here", "_law_way"]) fun _ _ _ _ _ _ us hl => match us, hl with | [_, _, _, _], _ => rfl
  have g__law_moved := PySem.W.mg_of X G a__law_moved
  have U__law_gone := fun_mk (st := topS 38) l__law_gone e__law_gone k__law_gone
  have b__law_gone := U__law_gone.binds (ps := ["_law_line_here", "_law_widths_here", "_law_lot_here", "_law_way", "_law_often"]) fun _ _ _ _ _ _ us hl => match us, hl with | [_, _, _, _, _], _ => rfl
  have g__law_gone := PySem.W.mg_of X G a__law_gone
  have U__law_summed := fun_mk (st := topS 39) l__law_summed e__law_summed k__law_summed
  have b__law_summed := U__law_summed.binds (ps := ["_law_one", "_law_other"]) fun _ _ _ _ _ _ us hl => match us, hl with | [_, _], _ => rfl
  have g__law_summed := PySem.W.mg_of X G a__law_summed
  have U__law_right := fun_mk (st := topS 40) l__law_right e__law_right k__law_right
  have b__law_right := U__law_right.binds (ps := ["_law_box_here"]) fun _ _ _ _ _ _ us hl => match us, hl with | [_], _ => rfl
  have g__law_right := PySem.W.mg_of X G a__law_right
  have U_law := fun_mk (st := topS 41) l_law e_law k_law
  have b_law := U_law.binds (ps := ["_law_script"]) fun _ _ _ _ _ _ us hl => match us, hl with | [_], _ => rfl
  have g_law := PySem.W.mg_of X G a_law
  refine ⟨PySem.W.fnOf "law" "law" (defArgs (topS 41)) (defBody (topS 41)) (defScope (topS 41)) .none kV_law dc_law pm_law an_law cd_law ct_law, fun s v => .of_eq rfl, fun base _ _ => ?_⟩
  have N : Nm mg := ⟨PySem.W.mg_none_of X G z_abs, PySem.W.mg_none_of X G z_all, PySem.W.mg_none_of X G z_bool, PySem.W.mg_none_of X G z_enumerate, PySem.W.mg_none_of X G z_int, PySem.W.mg_none_of X G z_isinstance, PySem.W.mg_none_of X G z_len, PySem.W.mg_none_of X G z_list, PySem.W.mg_none_of X G z_min, PySem.W.mg_none_of X G z_range, PySem.W.mg_none_of X G z_str, PySem.W.mg_none_of X G z_tuple, PySem.W.mg_none_of X G z_zip⟩
  have c_FORTH : ∃ u, mg "FORTH" = some u ∧ L2.RelV (.str "forth") u := ⟨_, PySem.W.mg_of X G y_FORTH, _, rfl⟩
  have c_RING : ∃ u, mg "RING" = some u ∧ L2.RelV (.str "ring") u := ⟨_, PySem.W.mg_of X G y_RING, _, rfl⟩
  have c_ROW : ∃ u, mg "ROW" = some u ∧ L2.RelV (.str "row") u := ⟨_, PySem.W.mg_of X G y_ROW, _, rfl⟩
  have D_is_number : Df l.prog w K mg base "is_number" ["thing"] 1 (spD K 0 F_is_number) := ⟨_, _, ok_is_number U_is_number N, g_is_number, U_is_number.kp, b_is_number⟩
  have D_gates : Df l.prog w K mg base "gates" ["line"] 1 (spD K 0 F_gates) := ⟨_, _, ok_gates U_gates N c_ROW, g_gates, U_gates.kp, b_gates⟩
  have D_led_to : Df l.prog w K mg base "led_to" ["standing", "counts"] 1 (spD K 0 F_led_to) := ⟨_, _, ok_led_to U_led_to N, g_led_to, U_led_to.kp, b_led_to⟩
  have D_gate_behind : Df l.prog w K mg base "gate_behind" ["line", "gate"] 1 (spD K 0 F_gate_behind) := ⟨_, _, ok_gate_behind U_gate_behind N c_RING, g_gate_behind, U_gate_behind.kp, b_gate_behind⟩
  have D_costs : Df l.prog w K mg base "costs" ["line", "widths", "standing", "gate", "other"] 2 (spD K 0 F_costs) := ⟨_, _, ok_costs U_costs N D_gate_behind, g_costs, U_costs.kp, b_costs⟩
  have DL_costs : Df l.prog w K mg base "costs" ["line", "widths", "standing", "gate", "other"] 2 (spL K 0 L_costs) := ⟨_, _, okL_costs U_costs N D_gate_behind, g_costs, U_costs.kp, b_costs⟩
  have D_is_gate : Df l.prog w K mg base "is_gate" ["line", "thing"] 2 (spD K 0 F_is_gate) := ⟨_, _, ok_is_gate U_is_gate N D_gates D_is_number, g_is_gate, U_is_gate.kp, b_is_gate⟩
  have D_cost : Df l.prog w K mg base "cost" ["line", "widths", "standing", "gate", "other"] 3 (spD K 0 F_cost) := ⟨_, _, ok_cost U_cost N D_costs DL_costs D_is_gate, g_cost, U_cost.kp, b_cost⟩
  have D_grid_of_one : Df l.prog w K mg base "grid_of_one" ["line", "widths", "standing"] 4 (spD K 0 F_grid_of_one) := ⟨_, _, ok_grid_of_one U_grid_of_one N D_cost D_gates, g_grid_of_one, U_grid_of_one.kp, b_grid_of_one⟩
  have DL_grid_of_one : Df l.prog w K mg base "grid_of_one" ["line", "widths", "standing"] 4 (spL K 0 L_grid_of_one) := ⟨_, _, okL_grid_of_one U_grid_of_one N D_cost D_gates, g_grid_of_one, U_grid_of_one.kp, b_grid_of_one⟩
  have D_columns_of : Df l.prog w K mg base "columns_of" ["grid"] 1 (spD K 0 F_columns_of) := ⟨_, _, ok_columns_of U_columns_of N, g_columns_of, U_columns_of.kp, b_columns_of⟩
  have DL_columns_of : Df l.prog w K mg base "columns_of" ["grid"] 1 (spL K 0 L_columns_of) := ⟨_, _, okL_columns_of U_columns_of N, g_columns_of, U_columns_of.kp, b_columns_of⟩
  have D_least_sum : Df l.prog w K mg base "least_sum" ["row", "column"] 1 (spD K 0 F_least_sum) := ⟨_, _, ok_least_sum U_least_sum N, g_least_sum, U_least_sum.kp, b_least_sum⟩
  have D_chained : Df l.prog w K mg base "chained" ["grid", "other"] 2 (spD K 0 F_chained) := ⟨_, _, ok_chained U_chained N D_columns_of DL_columns_of D_least_sum, g_chained, U_chained.kp, b_chained⟩
  have DL_chained : Df l.prog w K mg base "chained" ["grid", "other"] 2 (spL K 0 L_chained) := ⟨_, _, okL_chained U_chained N D_columns_of DL_columns_of D_least_sum, g_chained, U_chained.kp, b_chained⟩
  have D_doubled_grids : Df l.prog w K mg base "doubled_grids" ["line", "widths", "standing", "many"] 5 (spD K 0 F_doubled_grids) := ⟨_, _, ok_doubled_grids U_doubled_grids N D_chained DL_chained D_grid_of_one DL_grid_of_one, g_doubled_grids, U_doubled_grids.kp, b_doubled_grids⟩
  have DL_doubled_grids : Df l.prog w K mg base "doubled_grids" ["line", "widths", "standing", "many"] 5 (spL K 0 L_doubled_grids) := ⟨_, _, okL_doubled_grids U_doubled_grids N D_chained DL_chained D_grid_of_one DL_grid_of_one, g_doubled_grids, U_doubled_grids.kp, b_doubled_grids⟩
  have D_grids_in : Df l.prog w K mg base "grids_in" ["grids", "many"] 1 (spD K 0 F_grids_in) := ⟨_, _, ok_grids_in U_grids_in N, g_grids_in, U_grids_in.kp, b_grids_in⟩
  have DL_grids_in : Df l.prog w K mg base "grids_in" ["grids", "many"] 1 (spL K 0 L_grids_in) := ⟨_, _, okL_grids_in U_grids_in N, g_grids_in, U_grids_in.kp, b_grids_in⟩
  have D_led_by : Df l.prog w K mg base "led_by" ["grid", "numbers"] 2 (spD K 0 F_led_by) := ⟨_, _, ok_led_by U_led_by N D_least_sum, g_led_by, U_led_by.kp, b_led_by⟩
  have DL_led_by : Df l.prog w K mg base "led_by" ["grid", "numbers"] 2 (spL K 0 L_led_by) := ⟨_, _, okL_led_by U_led_by N D_least_sum, g_led_by, U_led_by.kp, b_led_by⟩
  have D_led_back_by : Df l.prog w K mg base "led_back_by" ["grid", "numbers"] 2 (spD K 0 F_led_back_by) := ⟨_, _, ok_led_back_by U_led_back_by N D_columns_of DL_columns_of D_least_sum, g_led_back_by, U_led_back_by.kp, b_led_back_by⟩
  have DL_led_back_by : Df l.prog w K mg base "led_back_by" ["grid", "numbers"] 2 (spL K 0 L_led_back_by) := ⟨_, _, okL_led_back_by U_led_back_by N D_columns_of DL_columns_of D_least_sum, g_led_back_by, U_led_back_by.kp, b_led_back_by⟩
  have D_gone_on : Df l.prog w K mg base "gone_on" ["grids", "way", "many", "counts"] 3 (spD K 0 F_gone_on) := ⟨_, _, ok_gone_on U_gone_on N c_FORTH D_grids_in DL_grids_in D_led_back_by DL_led_back_by D_led_by DL_led_by, g_gone_on, U_gone_on.kp, b_gone_on⟩
  have D_noughts : Df l.prog w K mg base "noughts" ["line"] 2 (spD K 0 F_noughts) := ⟨_, _, ok_noughts U_noughts N D_gates, g_noughts, U_noughts.kp, b_noughts⟩
  have D_counts : Df l.prog w K mg base "counts" ["line", "widths", "standing", "way", "many"] 6 (spD K 0 F_counts) := ⟨_, _, ok_counts U_counts N D_doubled_grids DL_doubled_grids D_gone_on D_noughts, g_counts, U_counts.kp, b_counts⟩
  have D_far : Df l.prog w K mg base "far" ["line", "widths", "standing", "way", "many"] 7 (spD K 0 F_far) := ⟨_, _, ok_far U_far N D_counts D_led_to, g_far, U_far.kp, b_far⟩
  have D__law_box : Df l.prog w K mg base "_law_box" ["_law_script", "_law_k"] 1 (spBx K) := ⟨_, _, g_box U__law_box N.len N.abs N.int, g__law_box, U__law_box.kp, b__law_box⟩
  have D__law_take : Df l.prog w K mg base "_law_take" ["_law_box_here", "_law_below"] 1 (spD K 1 F_take) := ⟨_, _, g_take U__law_take, g__law_take, U__law_take.kp, b__law_take⟩
  have D__law_pick : Df l.prog w K mg base "_law_pick" ["_law_box_here", "_law_some"] 2 (spD K 1 F__law_pick) := ⟨_, _, ok__law_pick U__law_pick N D__law_take, g__law_pick, U__law_pick.kp, b__law_pick⟩
  have D__law_same : Df l.prog w K mg base "_law_same" ["_law_found", "_law_due"] 6 (spD K 0 F_same) := ⟨_, _, g_same U__law_same b__law_same g__law_same ⟨N.isinstance, N.list, N.tuple, N.len, N.all, N.zip, N.str, N.int, N.bool⟩, g__law_same, U__law_same.kp, b__law_same⟩
  have D__law_line : Df l.prog w K mg base "_law_line" ["_law_box_here", "_law_most", "_law_high"] 3 (spD K 103 F__law_line) := ⟨_, _, ok__law_line U__law_line N D__law_pick D__law_take, g__law_line, U__law_line.kp, b__law_line⟩
  have D__law_gates : Df l.prog w K mg base "_law_gates" ["_law_line_here"] 1 (spD K 0 F__law_gates) := ⟨_, _, ok__law_gates U__law_gates N, g__law_gates, U__law_gates.kp, b__law_gates⟩
  have D__law_widths : Df l.prog w K mg base "_law_widths" ["_law_box_here", "_law_line_here", "_law_high"] 3 (spD K 202 F__law_widths) := ⟨_, _, ok__law_widths U__law_widths N D__law_gates D__law_pick D__law_take, g__law_widths, U__law_widths.kp, b__law_widths⟩
  have D__law_lot : Df l.prog w K mg base "_law_lot" ["_law_box_here", "_law_line_here"] 2 (spD K 201 F__law_lot) := ⟨_, _, ok__law_lot U__law_lot N D__law_take, g__law_lot, U__law_lot.kp, b__law_lot⟩
  have D__law_moved : Df l.prog w K mg base "_law_moved" ["_law_line_here", "_law_widths_here", "_law_lot_here", "_law_way"] 1 (spD K 0 F__law_moved) := ⟨_, _, ok__law_moved U__law_moved N, g__law_moved, U__law_moved.kp, b__law_moved⟩
  have DL__law_moved : Df l.prog w K mg base "_law_moved" ["_law_line_here", "_law_widths_here", "_law_lot_here", "_law_way"] 1 (spL K 0 L__law_moved) := ⟨_, _, okL__law_moved U__law_moved N, g__law_moved, U__law_moved.kp, b__law_moved⟩
  have D__law_gone : Df l.prog w K mg base "_law_gone" ["_law_line_here", "_law_widths_here", "_law_lot_here", "_law_way", "_law_often"] 2 (spD K 0 F__law_gone) := ⟨_, _, ok__law_gone U__law_gone N D__law_moved DL__law_moved, g__law_gone, U__law_gone.kp, b__law_gone⟩
  have D__law_summed : Df l.prog w K mg base "_law_summed" ["_law_one", "_law_other"] 1 (spD K 0 F__law_summed) := ⟨_, _, ok__law_summed U__law_summed N, g__law_summed, U__law_summed.kp, b__law_summed⟩
  have D__law_right : Df l.prog w K mg base "_law_right" ["_law_box_here"] 8 (spD K 1536 F__law_right) := ⟨_, _, ok__law_right U__law_right N D__law_gone D__law_line D__law_lot D__law_pick D__law_same D__law_summed D__law_take D__law_widths D_counts D_far, g__law_right, U__law_right.kp, b__law_right⟩
  exact ok_law U_law N D__law_box D__law_right
end Ke
open PySem PySem.W PyProof.Rows
set_option maxHeartbeats 0 in
theorem PySem.Challenge.cw_forthback_k31_whole_far_in_pieces_holds : PySem.Challenge.rw_forthback_k31_whole_far_in_pieces.Holds := by
  w_on; o_law; k_head; (case hw => w_witness2)
  k_fill
  refine Xg.walkG (l := PySem.Challenge.rw_forthback_k31_whole_far_in_pieces) (n := 63) (k := 9) (x := "_law_script") (sp := fun w => Dv.spD _ 153600 Ke.F_law) rfl (by decide) rfl ⟨rfl, by decide, by decide⟩ (fun w h Y => PySem.W.kIn_of Y) ?F (fun w _ a ns hl _ hS => Dv.law_sp (Ke.m_law []) (by decide) hS (Ke.law_true ns))
  case F =>
    intro w mg fa h KX G hmg
    refine' Ke.all_mk KX G hmg ?a_is_number ?l_is_number ?e_is_number ?k_is_number ?a_gates ?l_gates ?e_gates ?k_gates ?a_led_to ?l_led_to ?e_led_to ?k_led_to ?a_cost ?l_cost ?e_cost ?k_cost ?a_is_gate ?l_is_gate ?e_is_gate ?k_is_gate ?a_costs ?l_costs ?e_costs ?k_costs ?a_gate_behind ?l_gate_behind ?e_gate_behind ?k_gate_behind ?a_grid_of_one ?l_grid_of_one ?e_grid_of_one ?k_grid_of_one ?a_doubled_grids ?l_doubled_grids ?e_doubled_grids ?k_doubled_grids ?a_grids_in ?l_grids_in ?e_grids_in ?k_grids_in ?a_chained ?l_chained ?e_chained ?k_chained ?a_columns_of ?l_columns_of ?e_columns_of ?k_columns_of ?a_least_sum ?l_least_sum ?e_least_sum ?k_least_sum ?a_led_by ?l_led_by ?e_led_by ?k_led_by ?a_led_back_by ?l_led_back_by ?e_led_back_by ?k_led_back_by ?a_gone_on ?l_gone_on ?e_gone_on ?k_gone_on ?a_noughts ?l_noughts ?e_noughts ?k_noughts ?a_counts ?l_counts ?e_counts ?k_counts ?a_far ?l_far ?e_far ?k_far ?a__law_box ?l__law_box ?e__law_box ?k__law_box ?a__law_take ?l__law_take ?e__law_take ?k__law_take ?a__law_pick ?l__law_pick ?e__law_pick ?k__law_pick ?a__law_same ?l__law_same ?e__law_same ?k__law_same ?a__law_line ?l__law_line ?e__law_line ?k__law_line ?a__law_gates ?l__law_gates ?e__law_gates ?k__law_gates ?a__law_widths ?l__law_widths ?e__law_widths ?k__law_widths ?a__law_lot ?l__law_lot ?e__law_lot ?k__law_lot ?a__law_moved ?l__law_moved ?e__law_moved ?k__law_moved ?a__law_gone ?l__law_gone ?e__law_gone ?k__law_gone ?a__law_summed ?l__law_summed ?e__law_summed ?k__law_summed ?a__law_right ?l__law_right ?e__law_right ?k__law_right ?a_law ?l_law ?e_law ?k_law ?y_FORTH ?y_RING ?y_ROW ?z_abs ?z_all ?z_bool ?z_enumerate ?z_int ?z_isinstance ?z_len ?z_list ?z_min ?z_range ?z_str ?z_tuple ?z_zip
    (case a_is_number => k_is)
    (case l_is_number => k_is)
    (case e_is_number => k_is)
    (case k_is_number => k_is)
    (case a_gates => k_is)
    (case l_gates => k_is)
    (case e_gates => k_is)
    (case k_gates => k_is)
    (case a_led_to => k_is)
    (case l_led_to => k_is)
    (case e_led_to => k_is)
    (case k_led_to => k_is)
    (case a_cost => k_is)
    (case l_cost => k_is)
    (case e_cost => k_is)
    (case k_cost => k_is)
    (case a_is_gate => k_is)
    (case l_is_gate => k_is)
    (case e_is_gate => k_is)
    (case k_is_gate => k_is)
    (case a_costs => k_is)
    (case l_costs => k_is)
    (case e_costs => k_is)
    (case k_costs => k_is)
    (case a_gate_behind => k_is)
    (case l_gate_behind => k_is)
    (case e_gate_behind => k_is)
    (case k_gate_behind => k_is)
    (case a_grid_of_one => k_is)
    (case l_grid_of_one => k_is)
    (case e_grid_of_one => k_is)
    (case k_grid_of_one => k_is)
    (case a_doubled_grids => k_is)
    (case l_doubled_grids => k_is)
    (case e_doubled_grids => k_is)
    (case k_doubled_grids => k_is)
    (case a_grids_in => k_is)
    (case l_grids_in => k_is)
    (case e_grids_in => k_is)
    (case k_grids_in => k_is)
    (case a_chained => k_is)
    (case l_chained => k_is)
    (case e_chained => k_is)
    (case k_chained => k_is)
    (case a_columns_of => k_is)
    (case l_columns_of => k_is)
    (case e_columns_of => k_is)
    (case k_columns_of => k_is)
    (case a_least_sum => k_is)
    (case l_least_sum => k_is)
    (case e_least_sum => k_is)
    (case k_least_sum => k_is)
    (case a_led_by => k_is)
    (case l_led_by => k_is)
    (case e_led_by => k_is)
    (case k_led_by => k_is)
    (case a_led_back_by => k_is)
    (case l_led_back_by => k_is)
    (case e_led_back_by => k_is)
    (case k_led_back_by => k_is)
    (case a_gone_on => k_is)
    (case l_gone_on => k_is)
    (case e_gone_on => k_is)
    (case k_gone_on => k_is)
    (case a_noughts => k_is)
    (case l_noughts => k_is)
    (case e_noughts => k_is)
    (case k_noughts => k_is)
    (case a_counts => k_is)
    (case l_counts => k_is)
    (case e_counts => k_is)
    (case k_counts => k_is)
    (case a_far => k_is)
    (case l_far => k_is)
    (case e_far => k_is)
    (case k_far => k_is)
    (case a__law_box => k_is)
    (case l__law_box => k_is)
    (case e__law_box => k_is)
    (case k__law_box => k_is)
    (case a__law_take => k_is)
    (case l__law_take => k_is)
    (case e__law_take => k_is)
    (case k__law_take => k_is)
    (case a__law_pick => k_is)
    (case l__law_pick => k_is)
    (case e__law_pick => k_is)
    (case k__law_pick => k_is)
    (case a__law_same => k_is)
    (case l__law_same => k_is)
    (case e__law_same => k_is)
    (case k__law_same => k_is)
    (case a__law_line => k_is)
    (case l__law_line => k_is)
    (case e__law_line => k_is)
    (case k__law_line => k_is)
    (case a__law_gates => k_is)
    (case l__law_gates => k_is)
    (case e__law_gates => k_is)
    (case k__law_gates => k_is)
    (case a__law_widths => k_is)
    (case l__law_widths => k_is)
    (case e__law_widths => k_is)
    (case k__law_widths => k_is)
    (case a__law_lot => k_is)
    (case l__law_lot => k_is)
    (case e__law_lot => k_is)
    (case k__law_lot => k_is)
    (case a__law_moved => k_is)
    (case l__law_moved => k_is)
    (case e__law_moved => k_is)
    (case k__law_moved => k_is)
    (case a__law_gone => k_is)
    (case l__law_gone => k_is)
    (case e__law_gone => k_is)
    (case k__law_gone => k_is)
    (case a__law_summed => k_is)
    (case l__law_summed => k_is)
    (case e__law_summed => k_is)
    (case k__law_summed => k_is)
    (case a__law_right => k_is)
    (case l__law_right => k_is)
    (case e__law_right => k_is)
    (case k__law_right => k_is)
    (case a_law => k_is)
    (case l_law => k_is)
    (case e_law => k_is)
    (case k_law => k_is)
    (case y_FORTH => k_is)
    (case y_RING => k_is)
    (case y_ROW => k_is)
    (case z_abs => k_is)
    (case z_all => k_is)
    (case z_bool => k_is)
    (case z_enumerate => k_is)
    (case z_int => k_is)
    (case z_isinstance => k_is)
    (case z_len => k_is)
    (case z_list => k_is)
    (case z_min => k_is)
    (case z_range => k_is)
    (case z_str => k_is)
    (case z_tuple => k_is)
    (case z_zip => k_is)
