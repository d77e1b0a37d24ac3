import PyProof.Rows.All
import Wide.All
import OpenK.AllK
import Wide.FinOn
import HandS.Base
import HandS.Call
import HandS.List
import HandS.Comp
import HandS.Ends
import HandS.Iter
import HandS.Words
import HandS.TryOnly
import HandS.Evl
import HandS.Lambda
import HandS.Nested
import HandS.WordsList
import HandS.ExcInit
import HandS.ExcIs
import HandS.IsInst
import HandS.ExcValue
import HandS.Defaults
import KE.KExcInit
import HandS.Exc
import KE.KTryMore
import HandS.Walk
import HandS.Zip
import HandS.Conv
import HandS.Rev
import HandS.TupMul
import HandS.TupAny
import PyProof.ReprRoads
import KE.GoesMore
import HandS.Style
import HandS.WideBits
import HandS.FltList
import HandS.Wide
import PyProof.WalksMore
import PyProof.SumWalkG
import HandS.TupLe
import PyProof.WalkInts
import PyProof.MinMaxWalk
import PyProof.SeqI3
import KE.KIndexOf
import KE.GoesZip
import KE.GoesEnum
import HandS.Star
import HandS.SortKw
import KE.DataMinMax
import ObjForm.LawKit
import HandS.Deep
import HandS.SortInts
import KE.IntBitsLaws
import PyProof.ReprLen
import HandS.EndTab
import KE.KLam
import KE.DataMinKey
import PyProof.Rows.CallKwBuiltin
import HandS.Dict
import HandS.OwnEq
import HandS.Codes
import HandS.SetFor
import HandS.Strs
import HandS.CallSlots
import HandS.ExcOwn
import HandS.Sort
import PyProof.ListRange
import KE.KDictZip
import HandS.ListItems
import PyProof.ListNew
import PyProof.CollectWalk
import KE.KNestM
import PySem.Challenge.RW_forthback_k23_tables_by_own_least_sums
set_option Elab.async false
set_option linter.all false
set_option maxRecDepth 100000
set_option maxHeartbeats 8000000
namespace PySem
namespace XvL
open Builtin Builtin.ObjectAttr
variable {P : Program} {w : World} {A : Around} {E : Value → Shared → Prop} {R : Result → Shared → Prop}
variable {m : Heap} {gn : Array GenState} {dr : Drawn} {tn : Nat} {sy : OsState}
variable {nm qn : Str} {C N : Addr} {bs bm bmB : List Value} {hdct : Bool} {sn : List Str} {sub : List Value} {ab : Bool} {col : Option Bool} {dd : Option Addr}
variable {k0 k1 k2 k3 k5 : Option Value} {B newId initId : String}
end XvL
end PySem
namespace Xv
open PySem PySem.Spec PyProof.Rows L2
structure XC (K : PySem.W.Frag) (C : Addr) (newId : String) (bmB : List Value) : Prop where
  cls : ∃ nm qn N bs sn sub ab col dd k0 k1 k2 k3 k5,
    K.lookup C = some (excClassObj nm qn C N bs bmB true sn sub ab col dd k0 k1 k2 k3 k5 newId)
  sa : PySem.W.findIn K (.ref C) "__setattr__" = some (some (.builtin "object.__setattr__"))
  kC : PySem.W.keepIn K (.ref C) = true
  is : ExcC K C
structure BF (B newId initId : String) (bmB : List Value) : Prop where
  ex : ExcBaseFacts B newId initId bmB
  st : StoreFacts B bmB "object.__setattr__" "object"
  ob : bmB.contains (.type "object") = true
  stub : Manifest.isStub B = false
  typ : typeOf (.type B) = pure (.type "type")
  hand : PySem.W.handedIn (.builtin initId) = true
end Xv
namespace Xv
open PySem PySem.Spec PyProof.Rows L2
section
variable {X : Cx} {pins : List (Addr × Obj)} {σ : L2.St} {H : Hp} {s : Shared} {a C dx : Addr} {f : Str} {y : V} {u : Value}
variable {newId initId B : String} {bmB : List Value} {A : Around} {E : Value → Shared → Prop}
theorem XC.data {K : PySem.W.Frag} (T : XC K C newId bmB) : ∃ cd : ClassData, PySem.W.clsIn K C = some cd ∧ cd.mro = .ref C :: bmB ∧ cd.hasDict = true := by
  obtain ⟨nm, qn, N, bs, sn, sub, ab, col, dd, k0, k1, k2, k3, k5, hC⟩ := T.cls
  refine ⟨_, by unfold PySem.W.clsIn; rw [hC] <;> rfl, rfl, rfl⟩
end
section
variable {X : Cx} {e o : Expr} {es : List Expr} {to te : TE} {ta : TA} {f B : Str} {p p' p1 p2 pos : Pos} {newId initId Bs : String} {bmB : List Value}
end
end Xv
namespace Xv
open PySem PySem.Spec PyProof.Rows L2
section
variable {X : Cx} {k : Nat} {C fI : Addr} {fd : FuncData} {ps : List Str} {sp : Sp} {x kn : Str} {p pos kpos : Pos} {e : Expr} {es : List Expr} {te : TE} {ta : TA}
variable {newId initId Bs : String} {bmB : List Value}
end
def ExAt (H : Hp) (a C : Addr) (fs : List (Str × V)) : Prop := (fs = [] ∧ H a = some (exo a C none)) ∨ ∃ dx, H a = some (exo a C (some dx)) ∧ H dx = some (exd dx fs)
theorem ExAt.mono {H H' : Hp} {a C : Addr} {fs : List (Str × V)} (h : ExAt H a C fs) (e : Evl.Ex H H') : ExAt H' a C fs := by
  rcases h with ⟨h1, h2⟩ | ⟨dx, h1, h2⟩
  · exact .inl ⟨h1, e _ _ h2⟩
  · exact .inr ⟨dx, e _ _ h1, e _ _ h2⟩
end Xv
namespace PySem.W
open PySem PySem.Spec PySem.Calls PyProof.Rows
section
variable {prog : Program} {w : World} {A : Around} {E : Value → Shared → Prop} {s : Shared} {K : Frag} {x D : Addr} {ox : Obj} {od : Option Obj}
end
end PySem.W
namespace Xv
open PySem PySem.Spec PyProof.Rows L2
section
variable {X : Cx}
end
end Xv
namespace Xg
open PySem PySem.Spec PyProof.Rows L2
theorem pg_or {X : Cx} {e : Expr} {t u : TG} (a : PG X e t) (b : PG X e u) : PG X e (fun v σ H Q => t v σ H Q ∨ u v σ H Q) :=
  ⟨fun pins s σ H v z Q I r h => h.elim (a.run pins s σ H v z Q I r) (b.run pins s σ H v z Q I r)⟩
theorem op_or {X : Cx} {f : Value → Value → Sem Value} {r1 r2 : R2} (a : OpR X f r1) (b : OpR X f r2) : OpR X f (fun x y H Q => r1 x y H Q ∨ r2 x y H Q) :=
  fun pins s σ H x y v u Q I rx ry h => h.elim (a pins s σ H x y v u Q I rx ry) (b pins s σ H x y v u Q I rx ry)
def KwOnly (K : PySem.W.Frag) (fd : FuncData) (ps ks : List Str) (g : {α : Type} → List α → List α) : Prop :=
  ∀ (s : Shared) (ws : List Value), K.In s.heap → ws.length = ks.length → BindsTo s fd ⟨[], ks.zip ws⟩ (ps.zip (g ws))
structure FnG (P : Program) (w : World) (K : PySem.W.Frag) (mg : Str → Option Value) (base : Heap) (k : Nat) (f : Addr) (fd : FuncData) (ps : List Str) (sp : Sp) : Prop where
  len : ∀ vs H Q, sp vs H Q E0 → vs.length = ps.length
  run : ∀ (A : Around) (outer : List Env) (s : Shared) (H : Hp) (args : Args) (us : List Value) (vs : List V) (Q : VK), A.guards = some [] → Room k A → Env0 P w K mg base A outer s H →
    BindsTo s fd args (ps.zip us) → Vals vs us → sp vs H Q E0 → codeAny (model P w) A (.call (.ref f) args) (CR CX0 outer P w H s Q E0) s
section
variable {P : Program} {w : World} {K : PySem.W.Frag} {mg : Str → Option Value} {base : Heap}
theorem okG {x qual : Str} {st : Stmt} {f : Addr} {fd : FuncData} {N ps : List Str} {k : Nat} {sp : Sp} (F : Fun K x qual st f fd) (S : FnScope N ps (defScope st)) (len : ∀ vs H Q, sp vs H Q E0 → vs.length = ps.length)
    (hbody : ∀ (cdv : Value) (A : Around) (outer : List Env) (s : Shared) (H : Hp) (vs : List V) (Q : VK), (A.deeper (envOfC qual (defScope st) s.heap.objs.size f cdv)).guards = some [] →
      Room k (A.deeper (envOfC qual (defScope st) s.heap.objs.size f cdv)) → sp vs H Q E0 →
      ∃ t, PSs (cxOf CX0 P w K mg base N qual (defScope st) f cdv A outer s H E0).nox (defBody st) t ∧ t { nx := fun _ H' => Q .non H', rt := Q } (L2.start N vs) H) :
    FnG P w K mg base (k + 1) f fd ps sp := by
  obtain ⟨oc, od, kV, doc, pm, an, cdv, ct, osl, rfl, lk, hcd⟩ := F.ex
  refine ⟨len, fun A outer s H args us vs Q hG hr e0 hb r hsp => ?_⟩
  have inH : K.In s.heap := e0.mod.kin.keeps fun c u z => (e0.bs c u z).1
  have noL : s.heap.NoLimit := e0.mod.nolimit.keeps fun c u z => (e0.bs c u z).1
  refine codeAny_call_function hr.depth (inH _ _ lk) rfl S.co S.gen rfl (PySem.W.codeRec_of inH hcd) (hb _ _ _ _ ?_)
  refine wpAny_newFunctionEnv_cells S.kind (fun ⟨n, v⟩ hy => ?_) fun env he s1 ic => ?_
  · rcases S.par n (List.of_mem_zip hy).1 with z | z
    · exact .inl z
    · exact .inr ⟨z, PySem.W.cellsFrom_some _ _ _ (.inl z)⟩
  subst he
  refine ⟨noL.keeps ic.toInCall.keep, codeAny_func ?_⟩
  obtain ⟨t, ht0, hq⟩ := hbody cdv A outer s H vs Q hG (hr.deeper _) hsp
  have ht := ht0.nox
  have J0 : Inv (cxOf CX0 P w K mg base N qual (defScope st) f cdv A outer s H E0) [] (L2.start N vs) H s1 := inv_start S hr.hd e0 (len _ _ _ hsp) r ic
  refine wpAny_mono (ht.run [] s1 (L2.start N vs) H _ J0 hq) (fun fl s' hs => ?_) fun e s' hs => hs
  cases fl with
  | ret u =>
    obtain ⟨v, σ', H', J, rv, q⟩ := hs
    exact ⟨v, H', J.os, J.bare, J.base, J.hok, rv, q⟩
  | next =>
    obtain ⟨σ', H', J, q⟩ := hs
    exact ⟨V.non, H', J.os, J.bare, J.base, J.hok, rfl, q⟩
  | brk =>
    obtain ⟨_, _, _, q⟩ := hs
    exact False.elim q
  | cont =>
    obtain ⟨_, _, _, q⟩ := hs
    exact False.elim q
def tCallG (sp : Sp) (t : TA) : TE := fun σ H Q => t σ H fun vs H1 => sp vs H1 Q E0
theorem pe_callG {X : Cx} {k : Nat} {f : Addr} {fd : FuncData} {ps : List Str} {sp : Sp} {x : Str} {p pos : Pos} {e : Expr} {es : List Expr} {t : TA} (F : FnG X.prog X.w X.K X.mg X.base k f fd ps sp) (hG : X.A.guards = some []) (hr : Room k X.A)
    (hg : Gl X x) (hm : X.mg x = some (.ref f)) (hk : PySem.W.keepIn X.K (.ref f) = true) (hb : L2.Binds X.K fd ps []) (ha : PA X (e :: es) t) (hdb : (x == ("__debug__" : Str)) = false := by decide)
    (he : starEach (e :: es) X.env = (false, eval e X.env) :: starEach es X.env := by rfl) (hpl : (backTo pos (starEach es X.env)).any (·.1) = false := by rfl) :
    PE X (.Call (.Name x p) (e :: es) [] pos) (tCallG sp t) := by
  refine ⟨fun pins s σ H Q I h => ?_⟩
  refine wpAny_Call_Name_kw (ld_glob I hg hm ?_ hdb)
  refine PySem.W.callWith_K (h₀ := X.base) I.ok.mod.kin hk (thn (ha.run pos pins s σ H _ I h) fun us s1 ⟨vs, H1, I1, r, q⟩ => ⟨I1.kIn, ?_⟩) he hpl
  have hb1 := hb s1 us I1.kIn (by rw [List.append_nil, ← r.length]; exact F.len _ _ _ q)
  rw [List.append_nil] at hb1
  refine wpAny_call (codeAny_mono (F.run X.A X.stack s1 H1 ⟨us, []⟩ us vs Q hG hr I1.env0 hb1 r q) fun res s' hq => ?_)
  cases res with
  | error er => exact hq.elim
  | ok fl =>
    cases fl with
    | ret u => exact I1.after hq
    | next => exact False.elim hq
    | brk => exact False.elim hq
    | cont => exact False.elim hq
end
end Xg
namespace Ex
open PySem PySem.Spec PyProof.Rows L2 Xv
def ca (K : PySem.W.Frag) (x : Str) : Addr := match PySem.W.nsIn K mainGlobals x with
  | some (some (.ref C)) => C
  | _ => 0
def exg (a : Addr) (cls : Value) (d : Option Addr) : HO := .ext fun h => ∃ (oe : Obj) (vs : Array Value), h.get? a = some oe ∧ Zc cls d oe ∧ oe.data = .fields vs
def ExAt (H : Hp) (a C : Addr) (fs : List (Str × V)) : Prop := (fs = [] ∧ H a = some (exg a (.ref C) none)) ∨ ∃ dx, H a = some (exg a (.ref C) (some dx)) ∧ H dx = some (.xd fs)
theorem ExAt.mono {H H' : Hp} {a C : Addr} {fs : List (Str × V)} (h : ExAt H a C fs) (e : Evl.Ex H H') : ExAt H' a C fs := by
  rcases h with ⟨h1, h2⟩ | ⟨dx, h1, h2⟩
  · exact .inl ⟨h1, e _ _ h2⟩
  · exact .inr ⟨dx, e _ _ h1, e _ _ h2⟩
section
variable {X : Cx} {pins : List (Addr × Obj)} {σ : L2.St} {H : Hp} {s : Shared}
end
section
variable {X : Cx} {n m : Str} {i j : Nat} {body : List Stmt} {ty : Expr} {mp np ap pos pos' : Pos} {tb : WX → TS} {ok : Value → Prop}
end
end Ex
namespace Dv
open PySem PySem.Spec PyProof.Rows L2
open Classical
abbrev LIM : Nat := 900000000
def isT : HO → Bool
  | .tbl _ => true
  | _ => false
theorem isT_ne {o : HO} (h : isT o = false) : ∀ ps, o ≠ .tbl ps := fun ps e => by
  subst e
  cases h
theorem ne_isT {o : HO} (h : ∀ ps, o ≠ .tbl ps) : isT o = false := by
  cases o <;> first | rfl | exact absurd rfl (h _)
noncomputable def rm (H : Hp) (S : Addr → Prop) : Hp := fun a => if S a ∨ ∃ ps, H a = some (.tbl ps) then none else H a
theorem rm_some {H : Hp} {S : Addr → Prop} {a : Addr} {o : HO} (h : rm H S a = some o) : ¬ S a ∧ H a = some o := by
  unfold rm at h
  split at h
  · cases h
  · rename_i n
    exact ⟨fun z => n (.inl z), h⟩
theorem rm_nt {H : Hp} {S : Addr → Prop} {a : Addr} {o : HO} (h : rm H S a = some o) : isT o = false := by
  unfold rm at h
  split at h
  · cases h
  · rename_i n
    refine ne_isT fun ps e => n (.inr ⟨ps, ?_⟩)
    rw [← e]
    exact h
theorem rm_in {H : Hp} {S : Addr → Prop} {a : Addr} {o : HO} (n : ¬ S a) (h : H a = some o) (t : isT o = false := by rfl) : rm H S a = some o := by
  unfold rm
  rw [if_neg fun z => z.elim n fun ⟨ps, e⟩ => isT_ne t ps (Option.some.inj (h.symm.trans e))]
  exact h
theorem rm_le {H : Hp} {S : Addr → Prop} : Evl.Ex (rm H S) H := fun a o h => (rm_some h).2
theorem rm_mono {H H' : Hp} {S : Addr → Prop} (e : ∀ a o, ¬ S a → isT o = false → H a = some o → H' a = some o) : Evl.Ex (rm H S) (rm H' S) := fun a o h => by
  obtain ⟨n, g⟩ := rm_some h
  exact rm_in n (e a o n (rm_nt h) g) (rm_nt h)
theorem rm_sub {H : Hp} {S T : Addr → Prop} (h : ∀ a, T a → S a) : Evl.Ex (rm H S) (rm H T) := fun a o g => by
  obtain ⟨n, g'⟩ := rm_some g
  exact rm_in (fun z => n (h a z)) g' (rm_nt g)
theorem rm_ex {H H' : Hp} {S : Addr → Prop} (e : Evl.Ex H H') : Evl.Ex (rm H S) (rm H' S) := rm_mono fun a o _ _ h => e a o h
mutual
inductive Da (K : PySem.W.Frag) (H : Hp) : V → PyData → Prop
  | non : Da K H .non .none
  | bl (b : Bool) : Da K H (.bl b) (.bool b)
  | int (i : Int) : Da K H (.int i) (.int i)
  | str (x : Str) : Da K H (.str x) (.str x)
  | lst {a : Addr} {xs : List V} {ds : List PyData} : H a = some (.lst xs) → DaL K H xs ds → Da K H (.ref a) (.list ds)
  | tup {a : Addr} {xs : List V} {ds : List PyData} : H a = some (.tup xs) → DaL K H xs ds → Da K H (.ref a) (.tuple ds)
inductive DaL (K : PySem.W.Frag) (H : Hp) : List V → List PyData → Prop
  | nil : DaL K H [] []
  | cons {v : V} {vs : List V} {d : PyData} {ds : List PyData} : Da K H v d → DaL K H vs ds → DaL K H (v :: vs) (d :: ds)
end
section
variable {K : PySem.W.Frag} {H H' : Hp} {S : Addr → Prop}
mutual
theorem Da.mono (e : Evl.Ex H H') : ∀ {v : V} {d : PyData}, Da K H v d → Da K H' v d
  | _, _, .non => .non
  | _, _, .bl b => .bl b
  | _, _, .int i => .int i
  | _, _, .str x => .str x
  | _, _, .lst h g => .lst (e _ _ h) (DaL.mono e g)
  | _, _, .tup h g => .tup (e _ _ h) (DaL.mono e g)
theorem DaL.mono (e : Evl.Ex H H') : ∀ {vs : List V} {ds : List PyData}, DaL K H vs ds → DaL K H' vs ds
  | _, _, .nil => .nil
  | _, _, .cons h g => .cons (Da.mono e h) (DaL.mono e g)
end
mutual
theorem Da.dp : ∀ {v : V} {d : PyData}, Da K H v d → Dp K H v d
  | _, _, .non => .non
  | _, _, .bl b => .bl b
  | _, _, .int i => .int i
  | _, _, .str x => .str x
  | _, _, .lst h g => .lst (.inl (.inl h)) (DaL.dp g)
  | _, _, .tup h g => .tup (.inl (.inl h)) (DaL.dp g)
theorem DaL.dp : ∀ {vs : List V} {ds : List PyData}, DaL K H vs ds → DpAll K H vs ds
  | _, _, .nil => .nil
  | _, _, .cons h g => .cons (Da.dp h) (DaL.dp g)
end
theorem DaL.len : ∀ {vs : List V} {ds : List PyData}, DaL K H vs ds → vs.length = ds.length
  | _, _, .nil => rfl
  | _, _, .cons _ g => by rw [List.length_cons, List.length_cons, DaL.len g]
theorem DaL.at_ : ∀ {vs : List V} {ds : List PyData} {i : Nat} {d : PyData}, DaL K H vs ds → ds[i]? = some d → ∃ v, vs[i]? = some v ∧ Da K H v d
  | _, _, _, _, .nil, e => by simp at e
  | _, _, 0, _, .cons h g, e => by
    simp at e
    subst e
    exact ⟨_, rfl, h⟩
  | _, _, i + 1, _, .cons h g, e => DaL.at_ (i := i) g (by simpa using e)
theorem DaL.at' : ∀ {vs : List V} {ds : List PyData} {i : Nat} {v : V}, DaL K H vs ds → vs[i]? = some v → ∃ d, ds[i]? = some d ∧ Da K H v d
  | _, _, _, _, .nil, e => by simp at e
  | _, _, 0, _, .cons h g, e => by
    simp at e
    subst e
    exact ⟨_, rfl, h⟩
  | _, _, i + 1, _, .cons h g, e => DaL.at' (i := i) g (by simpa using e)
theorem DaL.app : ∀ {vs ws : List V} {ds es : List PyData}, DaL K H vs ds → DaL K H ws es → DaL K H (vs ++ ws) (ds ++ es)
  | _, _, _, _, .nil, h => h
  | _, _, _, _, .cons h g, k => .cons h (DaL.app g k)
theorem DaL.of_at : ∀ {vs : List V} {ds : List PyData}, vs.length = ds.length → (∀ (i : Nat) (v : V) (d : PyData), vs[i]? = some v → ds[i]? = some d → Da K H v d) → DaL K H vs ds
  | [], [], _, _ => .nil
  | v :: vs, d :: ds, l, h => .cons (h 0 v d rfl rfl) (DaL.of_at (by simpa using l) fun i x y e g => h (i + 1) x y (by simpa using e) (by simpa using g))
  | [], _ :: _, l, _ => by simp at l
  | _ :: _, [], l, _ => by simp at l
theorem DaL.take {vs : List V} {ds : List PyData} (h : DaL K H vs ds) (n : Nat) : DaL K H (vs.take n) (ds.take n) :=
  .of_at (by rw [List.length_take, List.length_take, h.len]) fun i v d e g => by
    rw [List.getElem?_take] at e g
    split at e <;> rename_i z
    · rw [if_pos z] at g
      obtain ⟨d', k1, k2⟩ := h.at' e
      rw [g] at k1; cases k1
      exact k2
    · cases e
theorem DaL.drop {vs : List V} {ds : List PyData} (h : DaL K H vs ds) (n : Nat) : DaL K H (vs.drop n) (ds.drop n) :=
  .of_at (by rw [List.length_drop, List.length_drop, h.len]) fun i v d e g => by
    rw [List.getElem?_drop] at e g
    obtain ⟨d', k1, k2⟩ := h.at' e
    rw [g] at k1; cases k1
    exact k2
theorem DaL.rev {vs : List V} {ds : List PyData} (h : DaL K H vs ds) : DaL K H vs.reverse ds.reverse := by
  induction h using DaL.rec (motive_1 := fun _ _ _ => True) with
  | non => trivial
  | bl => trivial
  | int => trivial
  | str => trivial
  | lst => trivial
  | tup => trivial
  | nil => exact .nil
  | cons h g _ ih =>
    rw [List.reverse_cons, List.reverse_cons]
    exact ih.app (.cons h .nil)
theorem DaL.ints_inv : ∀ {ns : List Int} {vs : List V}, DaL K H vs (ns.map PyData.int) → vs = ns.map V.int
  | [], _, .nil => rfl
  | n :: r, _, .cons h g => by
    cases h
    rw [DaL.ints_inv g]
    rfl
theorem DaL.bools_inv : ∀ {bs : List Bool} {vs : List V}, DaL K H vs (bs.map PyData.bool) → vs = bs.map V.bl
  | [], _, .nil => rfl
  | n :: r, _, .cons h g => by
    cases h
    rw [DaL.bools_inv g]
    rfl
theorem DaL.atI {vs : List V} {ds : List PyData} {i : Int} {d : PyData} (h : DaL K H vs ds) (e : L2.atI ds i = some d) : ∃ v, L2.atI vs i = some v ∧ Da K H v d := by
  unfold L2.atI at e ⊢
  rw [h.len]
  cases z : ixN ds.length i with
  | none => rw [z] at e; cases e
  | some j =>
    rw [z] at e
    exact h.at_ e
end
def isTp : HO → Bool
  | .tup _ => true
  | _ => false
def Al (S : Addr → Prop) (H : Hp) : Prop := ∀ a, S a → ∃ o, H a = some o ∧ isTp o = false
theorem Al.no {S : Addr → Prop} {H : Hp} (h : Al S H) (a : Addr) (s : S a) (n : H a = none) : False := by
  obtain ⟨o, e, _⟩ := h a s
  rw [n] at e
  cases e
theorem Al.ex {S : Addr → Prop} {H H' : Hp} (h : Al S H) (e : Evl.Ex H H') : Al S H' := fun a s => let ⟨o, z, t⟩ := h a s; ⟨o, e a o z, t⟩
theorem Al.new {S : Addr → Prop} {H : Hp} {p : Addr} (h : Al S H) (n : H p = none) : ¬ S p := fun s => h.no p s n
section
variable {K : PySem.W.Frag} {H : Hp} {S : Addr → Prop} {p : Addr} {xs : List V} {ds : List PyData}
theorem new_tup (al : Al S H) (n : H p = none) (h : DaL K (rm H S) xs ds) : Da K (rm (upd H p (.tup xs)) S) (.ref p) (.tuple ds) := by
  exact .tup (rm_in (al.new n) upd_same) (h.mono (rm_ex (Evl.Ex.new n)))
theorem new_lst (al : Al S H) (n : H p = none) (h : DaL K (rm H S) xs ds) : Da K (rm (upd H p (.lst xs)) S) (.ref p) (.list ds) := by
  exact .lst (rm_in (al.new n) upd_same) (h.mono (rm_ex (Evl.Ex.new n)))
end
inductive Vw (K : PySem.W.Frag) (b : Option Addr) (S : Addr → Prop) (H : Hp) : V → PyData → Prop
  | st {v : V} {d : PyData} : Da K (rm H S) v d → Vw K b S H v d
  | ow {p : Addr} {vs : List V} {ds : List PyData} : b ≠ some p → H p = some (.lst vs) → DaL K (rm H S) vs ds → Vw K b S H (.ref p) (.list ds)
section
variable {K : PySem.W.Frag} {b : Option Addr} {H H' : Hp} {S : Addr → Prop} {v : V} {d : PyData} {ds : List PyData}
theorem Vw.dp (h : Vw K b S H v d) : Dp K H v d := by
  cases h with
  | st h => exact (h.mono rm_le).dp
  | ow _ h g => exact .lst (.inl (.inl h)) (g.mono rm_le).dp
theorem Vw.list (h : Vw K b S H v (.list ds)) : ∃ p vs, v = .ref p ∧ H p = some (.lst vs) ∧ DaL K (rm H S) vs ds := by
  cases h with
  | st h =>
    cases h with
    | lst h g => exact ⟨_, _, rfl, rm_le _ _ h, g⟩
  | ow _ h g => exact ⟨_, _, rfl, h, g⟩
theorem Vw.tuple (h : Vw K b S H v (.tuple ds)) : ∃ p vs, v = .ref p ∧ SqT K H p vs ∧ DaL K (rm H S) vs ds := by
  cases h with
  | st h =>
    cases h with
    | tup h g => exact ⟨_, _, rfl, .inl (.inl (rm_le _ _ h)), g⟩
theorem Vw.int {i : Int} (h : Vw K b S H v (.int i)) : v = .int i := by
  cases h with
  | st h => cases h; rfl
theorem Vw.bool {k : Bool} (h : Vw K b S H v (.bool k)) : v = .bl k := by
  cases h with
  | st h => cases h; rfl
theorem Vw.str {x : Str} (h : Vw K b S H v (.str x)) : v = .str x := by
  cases h with
  | st h => cases h; rfl
theorem Vw.none (h : Vw K b S H v .none) : v = .non := by
  cases h with
  | st h => cases h; rfl
end
def flat : PyData → Bool
  | .none => true
  | .bool _ => true
  | .int _ => true
  | .str _ => true
  | _ => false
theorem Da.flat {K : PySem.W.Frag} {H H' : Hp} {v : V} {d : PyData} (h : Da K H v d) (f : Dv.flat d = true) : Da K H' v d := by
  cases h with
  | non => exact .non
  | bl b => exact .bl b
  | int i => exact .int i
  | str x => exact .str x
  | lst _ _ => cases f
  | tup _ _ => cases f
def VD (md : Bool) (K : PySem.W.Frag) (b : Option Addr) (S : Addr → Prop) (H : Hp) (v : V) (d : PyData) : Prop := match md with
  | true => Da K (rm H S) v d
  | false => Vw K b S H v d
theorem VD.vw {md : Bool} {K : PySem.W.Frag} {b : Option Addr} {S : Addr → Prop} {H : Hp} {v : V} {d : PyData} (h : VD md K b S H v d) : Vw K b S H v d := by
  cases md with
  | true => exact .st h
  | false => exact h
def BxO : Option Addr → Hp → Nat → Prop
  | none, _, _ => True
  | some b, H, m => ∃ x y z : Int, 0 ≤ x ∧ 0 ≤ y ∧ y < 1000000000000 ∧ 0 ≤ z ∧ z ≤ m ∧ H b = some (.lst [.int x, .int y, .int z])
def lamDefs : List Str := ["when", "rests_when", "slowest"]
def lamQ (x : Str) : Str := x ++ ".<locals>." ++ "<lambda>"
def Tof (K : PySem.W.Frag) : List (Addr × Str) := lamDefs.filterMap fun x => (PySem.W.tabIn K x).map fun p => (p.2, lamQ x)
abbrev Tbs (K : PySem.W.Frag) (H : Hp) : Prop := LamX.Tabs (Tof K) H
def HoLe (K : PySem.W.Frag) (H H' : Hp) (c : Addr) (o : HO) : Prop := match o with
  | .tbl _ => (∃ qs, H' c = some (.tbl qs)) ∧ ∀ q, (c, q) ∈ Tof K → LamX.TabS H c q → LamX.TabS H' c q
  | o => H' c = some o
theorem HoLe.eq {K : PySem.W.Frag} {H H' : Hp} {c : Addr} {o : HO} (h : HoLe K H H' c o) (t : isT o = false) : H' c = some o := by
  cases o <;> first | exact h | cases t
theorem HoLe.of {K : PySem.W.Frag} {H H' : Hp} {c : Addr} {o : HO} (e : Evl.Ex H H') (h : H c = some o) : HoLe K H H' c o := by
  cases o with
  | tbl ps => exact ⟨⟨ps, e _ _ h⟩, fun q _ t => t.ext e⟩
  | _ => exact e _ _ h
theorem HoLe.nt {K : PySem.W.Frag} {H H' : Hp} {c : Addr} {o : HO} (t : isT o = false) (h : H' c = some o) : HoLe K H H' c o := by
  cases o <;> first | exact h | cases t
theorem HoLe.ne {K : PySem.W.Frag} {H H' : Hp} {c : Addr} {o : HO} (h : HoLe K H H' c o) : H' c ≠ none := by
  cases o with
  | tbl ps =>
    obtain ⟨⟨qs, e⟩, _⟩ := h
    rw [e]
    simp
  | _ =>
    rw [show H' c = _ from h]
    simp
theorem HoLe.trans {K : PySem.W.Frag} {H H1 H2 : Hp} {c : Addr} {o : HO} (h : HoLe K H H1 c o) (g : ∀ o, H1 c = some o → HoLe K H1 H2 c o) : HoLe K H H2 c o := by
  cases o with
  | tbl ps =>
    obtain ⟨⟨qs, e⟩, f⟩ := h
    obtain ⟨e2, f2⟩ := g _ e
    exact ⟨e2, fun q m t => f2 q m (f q m t)⟩
  | _ => exact (g _ h)
theorem tabS_chg {H : Hp} {p c : Addr} {q : Str} {o : HO} (h : LamX.TabS H c q) (n : ∀ ps, H p ≠ some (.tbl ps)) (n2 : ∀ q, H p ≠ some (LamX.CodeO p q)) : LamX.TabS (upd H p o) c q := by
  obtain ⟨ps, e, r1, r2⟩ := h
  refine ⟨ps, by rw [upd_ne fun z => n ps (by rw [← z]; exact e)]; exact e, r1, fun pos cv hc => ?_⟩
  obtain ⟨c, e1, e2⟩ := r2 pos cv hc
  exact ⟨c, e1, by rw [upd_ne fun z => n2 _ (by rw [z] at e2; exact e2)]; exact e2⟩
theorem HoLe.chg {K : PySem.W.Frag} {H : Hp} {c p : Addr} {u o : HO} (ne : c ≠ p) (h : H c = some u) (n : ∀ ps, H p ≠ some (.tbl ps)) (n2 : ∀ q, H p ≠ some (LamX.CodeO p q)) : HoLe K H (upd H p o) c u := by
  cases u with
  | tbl ps => exact ⟨⟨ps, by rw [upd_ne ne]; exact h⟩, fun q _ t => tabS_chg t n n2⟩
  | _ =>
    show upd H p o c = _
    rw [upd_ne ne]
    exact h
theorem HoLe.lst {K : PySem.W.Frag} {H : Hp} {c p : Addr} {u o : HO} {xs : List V} (ne : c ≠ p) (h : H c = some u) (e : H p = some (.lst xs)) : HoLe K H (upd H p o) c u := .chg ne h (fun ps z => by rw [e] at z; cases z) fun q z => by rw [e] at z; unfold LamX.CodeO at z; cases z
theorem HoLe.ins {K : PySem.W.Frag} {H : Hp} {c p C dx : Addr} {u o : HO} {xs : List (Str × V)} (ne : c ≠ p) (h : H c = some u) (e : H p = some (.ins C dx xs)) : HoLe K H (upd H p o) c u := .chg ne h (fun ps z => by rw [e] at z; cases z) fun q z => by rw [e] at z; unfold LamX.CodeO at z; cases z
def Stp (K : PySem.W.Frag) (b : Option Addr) (H H' : Hp) : Prop := ∀ c o, b ≠ some c → H c = some o → HoLe K H H' c o
section
variable {K : PySem.W.Frag} {b : Option Addr} {S : Addr → Prop} {H H1 H2 H' : Hp} {m n : Nat} {v : V} {d : PyData} {md : Bool}
theorem Stp.refl : Stp K b H H := fun _ _ _ h => HoLe.of (Evl.Ex.refl _) h
theorem Stp.trans (h : Stp K b H H1) (g : Stp K b H1 H2) : Stp K b H H2 := fun c o n e => (h c o n e).trans fun o' e' => g c o' n e'
theorem Stp.ex (e : Evl.Ex H H') : Stp K b H H' := fun c o _ h => HoLe.of e h
theorem BxO.ex (h : BxO b H m) (e : Evl.Ex H H') : BxO b H' m := by
  cases b with
  | none => trivial
  | some b =>
    obtain ⟨x, y, z, h1, h2, h3, h4, h5, h6⟩ := h
    exact ⟨x, y, z, h1, h2, h3, h4, h5, e _ _ h6⟩
theorem BxO.le (h : BxO b H m) (l : m ≤ n) : BxO b H n := by
  cases b with
  | none => trivial
  | some b =>
    obtain ⟨x, y, z, h1, h2, h3, h4, h5, h6⟩ := h
    exact ⟨x, y, z, h1, h2, h3, h4, by omega, h6⟩
theorem Stp.rm (h : Stp K b H H') (bs : ∀ p, b = some p → S p) : Evl.Ex (rm H S) (rm H' S) := rm_mono fun a o n t g => (h a o (fun e => n (bs a e)) g).eq t
theorem Vw.step (h : Vw K b S H v d) (st : Stp K b H H') (bs : ∀ p, b = some p → S p) : Vw K b S H' v d := by
  cases h with
  | st h => exact .st (h.mono (st.rm bs))
  | ow n h g => exact .ow n (st _ _ n h) (g.mono (st.rm bs))
theorem VD.step (h : VD md K b S H v d) (st : Stp K b H H') (bs : ∀ p, b = some p → S p) : VD md K b S H' v d := by
  cases md with
  | true => exact Da.mono (st.rm bs) h
  | false => exact Vw.step h st bs
end
structure TbF (K : PySem.W.Frag) (C : Addr) : Prop where
  at_ : PySem.W.nsIn K mainGlobals "Table" = some (some (.ref C))
  cl : L2.Cls K C
  n1 : L2.NoAttr K C "made_of"
  n2 : L2.NoAttr K C "many"
  n3 : L2.NoAttr K C "grid"
def TbO (K : PySem.W.Frag) (H : Hp) (v : V) (g : PyData) : Prop := ∃ (p C dx : Addr) (vM vG : V) (dM : PyData) (n : Int) (dG : PyData), v = .ref p ∧ TbF K C ∧ H p = some (.ins C dx [("made_of", vM), ("many", .int n), ("grid", vG)]) ∧ Da K H vM dM ∧ Da K H vG dG ∧ g = .tuple [dM, .int n, dG]
theorem TbO.mono {K : PySem.W.Frag} {H H' : Hp} {v : V} {g : PyData} (e : Evl.Ex H H') (h : TbO K H v g) : TbO K H' v g := by
  obtain ⟨p, C, dx, vM, vG, dM, n, dG, e1, f, e2, d1, d2, e3⟩ := h
  exact ⟨p, C, dx, vM, vG, dM, n, dG, e1, f, e p _ e2, Da.mono e d1, Da.mono e d2, e3⟩
def LfO (f : Addr) (F : NdefX.NF) (body : Expr) : HO := .ext fun h => ∃ (od : Option Addr) (sl : Array (Option Value)) (pm ctv : Value), h.get? f = some (⟨.type "function", od, .func (PySem.W.kla_fn "<lambda>" F.qual F.params body F.scope F.cl pm (.ref F.c) ctv), sl⟩ : Obj)
def CelO (o : Obj) : HO := .frz o (.ext fun _ => True)
abbrev par1 (x : Str) (p : Pos) : Arguments := { posonlyargs := [], args := [{ arg := x, annotation := none, pos := p }], vararg := none, kwonlyargs := [], kw_defaults := [], kwarg := none, defaults := [] }
def lamFr : Nat → List Str
  | 0 => ["gate", "many"]
  | 1 => ["last"]
  | _ => ["parts"]
def lamPar : Nat → Str
  | 2 => "one"
  | _ => "told"
def lamN (k : Nat) : List Str := lamPar k :: lamFr k
inductive LamB : Nat → Expr → Prop
  | when (a b c d e : Pos) : LamB 0 (.Compare (.Subscript (.Name "told" a) (.Name "gate" b) c) [.GtE] [.Name "many" d] e)
  | rests (a b c : Pos) : LamB 1 (.Compare (.Name "told" a) [.Eq] [.Name "last" b] c)
  | slow (j1 j2 j3 : Nat) (a b c d e f g h i j k l m : Pos) : LamB 2 (.BinOp (.Subscript (.Name "one" a) (.Constant (.int 0) j1 b) c) .Mult (.BinOp (.Name "parts" d) .FloorDiv (.BinOp (.Call (.Name "len" e) [.Subscript (.Name "one" f) (.Constant (.int 1) j2 g) h] [] i) .Sub (.Constant (.int 1) j3 j) k) l) m)
structure LamTxt (k : Nat) (F : NdefX.NF) (body : Expr) : Prop where
  par : ∃ p, F.params = par1 (lamPar k) p
  body : LamB k body
  sc : NdefX.NScope (lamN k) [lamPar k] (lamFr k) F.scope
  gl : k = 2 → F.scope.names.lookup ("len" : Str) = some NameKind.globalImplicit
inductive Cap (H : Hp) (cl : List (Str × Addr)) : List Str → List Addr → List V → Prop
  | nil : Cap H cl [] [] []
  | cons {y : Str} {c : Addr} {o : Obj} {u : Value} {v : V} {fr : List Str} {cs : List Addr} {vs : List V} : cl.lookup y = some c → H c = some (CelO o) → o.data = .cell (some u) → L2.RelV v u → c ∉ cs → Cap H cl fr cs vs → Cap H cl (y :: fr) (c :: cs) (v :: vs)
theorem Cap.mono {H H' : Hp} {cl : List (Str × Addr)} (e : Evl.Ex H H') : ∀ {fr : List Str} {cs : List Addr} {vs : List V}, Cap H cl fr cs vs → Cap H' cl fr cs vs
  | _, _, _, .nil => .nil
  | _, _, _, .cons a b c d n r => .cons a (e _ _ b) c d n (Cap.mono e r)
def LamV (K : PySem.W.Frag) (H : Hp) (v : V) (k : Nat) (ds : List PyData) : Prop := ∃ (f : Addr) (F : NdefX.NF) (body : Expr) (cs : List Addr) (vs : List V), v = .ref f ∧ LamTxt k F body ∧ H f = some (LfO f F body) ∧ H F.c = some (LamX.CodeO F.c F.qual) ∧
  Cap H F.cl (lamFr k) cs vs ∧ (∀ y c, F.cl.lookup y = some c → y ∈ lamFr k) ∧ DaL K H vs ds
theorem LamV.mono {K : PySem.W.Frag} {H H' : Hp} {v : V} {k : Nat} {ds : List PyData} (e : Evl.Ex H H') (h : LamV K H v k ds) : LamV K H' v k ds := by
  obtain ⟨f, F, body, cs, vs, e1, t, e2, e3, c, cc, d⟩ := h
  exact ⟨f, F, body, cs, vs, e1, t, e _ _ e2, e _ _ e3, c.mono e, cc, DaL.mono e d⟩
def ExV (K : PySem.W.Frag) (H : Hp) (v : V) (x : Str) (d : Option (Str × PyData)) : Prop := ∃ (a : Addr) (fs : List (Str × V)), v = .ref a ∧ ExcC K (Ex.ca K x) ∧ Ex.ExAt H a (Ex.ca K x) fs ∧ match d with
  | none => fs = []
  | some p => ∃ w, fs = [(p.1, w)] ∧ Da K H w p.2
theorem ExV.mono {K : PySem.W.Frag} {H H' : Hp} {v : V} {x : Str} {d : Option (Str × PyData)} (e : Evl.Ex H H') (h : ExV K H v x d) : ExV K H' v x d := by
  obtain ⟨a, fs, e1, c, g, r⟩ := h
  refine ⟨a, fs, e1, c, g.mono e, ?_⟩
  cases d with
  | none => exact r
  | some p =>
    obtain ⟨w, r1, r2⟩ := r
    exact ⟨w, r1, Da.mono e r2⟩
inductive DaK (K : PySem.W.Frag) (H : Hp) : List (List L2.Key × V) → List (List L2.Key × PyData) → Prop
  | nil : DaK K H [] []
  | cons {k : List L2.Key} {v : V} {d : PyData} {ws : List (List L2.Key × V)} {kvs : List (List L2.Key × PyData)} : Da K H v d → DaK K H ws kvs → DaK K H ((k, v) :: ws) ((k, d) :: kvs)
theorem DaK.mono {K : PySem.W.Frag} {H H' : Hp} (e : Evl.Ex H H') : ∀ {ws : List (List L2.Key × V)} {kvs : List (List L2.Key × PyData)}, DaK K H ws kvs → DaK K H' ws kvs
  | _, _, .nil => .nil
  | _, _, .cons h g => .cons (Da.mono e h) (DaK.mono e g)
def DcO (K : PySem.W.Frag) (H : Hp) (v : V) (kvs : List (List L2.Key × PyData)) : Prop := ∃ (p : Addr) (ws : List (List L2.Key × V)), v = .ref p ∧ H p = some (.dT ws) ∧ DaK K H ws kvs
theorem DcO.mono {K : PySem.W.Frag} {H H' : Hp} {v : V} {kvs : List (List L2.Key × PyData)} (e : Evl.Ex H H') (h : DcO K H v kvs) : DcO K H' v kvs := let ⟨p, ws, e1, e2, g⟩ := h; ⟨p, ws, e1, e _ _ e2, g.mono e⟩
def FtO (K : PySem.W.Frag) (H : Hp) (v : V) (ds : List PyData) : Prop := ∃ (p : Addr) (o : Obj) (vs : List V), v = .ref p ∧ H p = some (.frz o (.tup vs)) ∧ o.cls = .type "tuple" ∧ o.dict = none ∧ DaL K H vs ds
theorem FtO.mono {K : PySem.W.Frag} {H H' : Hp} {v : V} {ds : List PyData} (e : Evl.Ex H H') (h : FtO K H v ds) : FtO K H' v ds := let ⟨p, o, vs, e1, e2, e3, e4, g⟩ := h; ⟨p, o, vs, e1, e _ _ e2, e3, e4, DaL.mono e g⟩
inductive Sl where
  | no
  | dt (d : PyData)
  | own (ds : List PyData)
  | box
  | scr (ns : List Int)
  | op (g : PyData)
  | fn (k : Nat) (ds : List PyData)
  | exc (c : Str) (d : Option (Str × PyData))
  | dct (kvs : List (List L2.Key × PyData))
  | dck (kvs : List (List L2.Key × PyData))
  | frt (ds : List PyData)
def isOw : Sl → Bool
  | .own _ => true
  | .dct _ => true
  | _ => false
def SlR (K : PySem.W.Frag) (b : Option Addr) (S : Addr → Prop) (H : Hp) (x : Option (Option V)) : Sl → Prop
  | .no => True
  | .dt d => ∃ v, x = some (some v) ∧ Da K (rm H S) v d
  | .own ds => ∃ p vs, x = some (some (.ref p)) ∧ S p ∧ b ≠ some p ∧ H p = some (.lst vs) ∧ DaL K (rm H S) vs ds
  | .box => ∃ p, x = some (some (.ref p)) ∧ b = some p
  | .scr ns => ∃ p, x = some (some (.ref p)) ∧ SqL K (rm H S) p (ns.map V.int)
  | .op g => ∃ v, x = some (some v) ∧ TbO K (rm H S) v g
  | .fn k ds => ∃ v, x = some (some v) ∧ LamV K (rm H S) v k ds
  | .exc c d => ∃ v, x = some (some v) ∧ ExV K (rm H S) v c d
  | .dct kvs => ∃ p ws, x = some (some (.ref p)) ∧ S p ∧ b ≠ some p ∧ H p = some (.dT ws) ∧ DaK K (rm H S) ws kvs
  | .dck kvs => ∃ v, x = some (some v) ∧ DcO K (rm H S) v kvs
  | .frt ds => ∃ v, x = some (some v) ∧ FtO K (rm H S) v ds
structure DEnv (K : PySem.W.Frag) (b : Option Addr) (S : Addr → Prop) (m : Nat) (H : Hp) (σ : L2.St) (ρ : List Sl) : Prop where
  len : σ.length = ρ.length
  sl : ∀ (i : Nat) (s : Sl), ρ[i]? = some s → SlR K b S H σ[i]? s
  bx : BxO b H m
  bs : ∀ p, b = some p → S p
  al : Al S H
  tb : Tbs K H
section
variable {K : PySem.W.Frag} {b : Option Addr} {S : Addr → Prop} {H H' : Hp} {m n : Nat} {σ : L2.St} {ρ : List Sl}
theorem SlR.step {x : Option (Option V)} {s : Sl} (h : SlR K b S H x s) (st : Stp K b H H') (bs : ∀ p, b = some p → S p) : SlR K b S H' x s := by
  cases s with
  | no => trivial
  | dt d =>
    obtain ⟨v, e, g⟩ := h
    exact ⟨v, e, g.mono (st.rm bs)⟩
  | own ds =>
    obtain ⟨p, vs, e, s1, n, g, k⟩ := h
    exact ⟨p, vs, e, s1, n, st _ _ n g, k.mono (st.rm bs)⟩
  | box => exact h
  | scr ns =>
    obtain ⟨p, e, g⟩ := h
    exact ⟨p, e, Evl.ex_l (st.rm bs) g⟩
  | op g =>
    obtain ⟨v, e, g⟩ := h
    exact ⟨v, e, g.mono (st.rm bs)⟩
  | fn k ds =>
    obtain ⟨v, e, g⟩ := h
    exact ⟨v, e, g.mono (st.rm bs)⟩
  | exc c d =>
    obtain ⟨v, e, g⟩ := h
    exact ⟨v, e, g.mono (st.rm bs)⟩
  | dct kvs =>
    obtain ⟨p, ws, e, s1, n, g, k⟩ := h
    exact ⟨p, ws, e, s1, n, st _ _ n g, k.mono (st.rm bs)⟩
  | dck kvs =>
    obtain ⟨v, e, g⟩ := h
    exact ⟨v, e, g.mono (st.rm bs)⟩
  | frt ds =>
    obtain ⟨v, e, g⟩ := h
    exact ⟨v, e, g.mono (st.rm bs)⟩
theorem Al.step (h : Al S H) (st : Stp K b H H') (bx : BxO b H' n) : Al S H' := fun a s => by
  by_cases z : b = some a
  · subst z
    obtain ⟨_, _, _, _, _, _, _, _, e⟩ := bx
    exact ⟨_, e, rfl⟩
  · obtain ⟨o, q, t⟩ := h a s
    have g := st a o z q
    cases y : isT o with
    | false => exact ⟨o, g.eq y, t⟩
    | true =>
      cases o with
      | tbl ps =>
        obtain ⟨⟨qs, e⟩, _⟩ := g
        exact ⟨_, e, rfl⟩
      | _ => cases y
theorem Tbs.step (h : Tbs K H) (bx : BxO b H m) (st : Stp K b H H') : Tbs K H' := fun p hp => by
  obtain ⟨ps, e, r⟩ := h p hp
  refine (st p.1 _ (fun z => ?_) e).2 p.2 hp ⟨ps, e, r⟩
  subst z
  obtain ⟨_, _, _, _, _, _, _, _, e2⟩ := bx
  rw [e] at e2
  cases e2
theorem Tbs.chg {p : Addr} {o : HO} (h : Tbs K H) (n : ∀ ps, H p ≠ some (.tbl ps)) (n2 : ∀ q, H p ≠ some (LamX.CodeO p q)) : Tbs K (upd H p o) := fun t ht => tabS_chg (h t ht) n n2
theorem Tbs.lst {p : Addr} {o : HO} {xs : List V} (h : Tbs K H) (e : H p = some (.lst xs)) : Tbs K (upd H p o) := h.chg (fun ps z => by rw [e] at z; cases z) fun q z => by rw [e] at z; unfold LamX.CodeO at z; cases z
theorem Tbs.ins {p C dx : Addr} {o : HO} {xs : List (Str × V)} (h : Tbs K H) (e : H p = some (.ins C dx xs)) : Tbs K (upd H p o) := h.chg (fun ps z => by rw [e] at z; cases z) fun q z => by rw [e] at z; unfold LamX.CodeO at z; cases z
theorem Tbs.ex (h : Tbs K H) (e : Evl.Ex H H') : Tbs K H' := LamX.Tabs.ext h e
theorem DEnv.both (h : DEnv K b S m H σ ρ) : Al S H ∧ Tbs K H := ⟨h.al, h.tb⟩
theorem DEnv.step (h : DEnv K b S m H σ ρ) (st : Stp K b H H') (bx : BxO b H' n) : DEnv K b S n H' σ ρ :=
  ⟨h.len, fun i s e => (h.sl i s e).step st h.bs, bx, h.bs, h.al.step st bx, h.tb.step h.bx st⟩
theorem DEnv.le (h : DEnv K b S m H σ ρ) (l : m ≤ n) : DEnv K b S n H σ ρ := ⟨h.len, h.sl, h.bx.le l, h.bs, h.al, h.tb⟩
end
abbrev FE := List Sl → (PyData → Prop) → Prop
structure Snd (md : Bool) (K : PySem.W.Frag) (t : TE) (c : Nat) (f : FE) : Prop where
  mono : ∀ (ρ : List Sl) (P P' : PyData → Prop), (∀ d, P d → P' d) → f ρ P → f ρ P'
  run : ∀ (b : Option Addr) (S : Addr → Prop) (m : Nat) (σ : L2.St) (H : Hp) (ρ : List Sl) (Q : VK), DEnv K b S m H σ ρ → m + c ≤ LIM →
    f ρ (fun d => ∀ v H', Stp K b H H' → BxO b H' (m + c) → VD md K b S H' v d → Q v H') → t σ H Q
theorem Snd.go {md : Bool} {K : PySem.W.Frag} {t : TE} {c : Nat} {f : FE} (a : Snd md K t c f) {b : Option Addr} {S : Addr → Prop} {m : Nat} {σ : L2.St} {H : Hp} {ρ : List Sl} {Q : VK} {P : PyData → Prop} (E : DEnv K b S m H σ ρ) (hm : m + c ≤ LIM) (hf : f ρ P)
    (k : ∀ d v H', P d → Stp K b H H' → BxO b H' (m + c) → VD md K b S H' v d → Q v H') : t σ H Q :=
  a.run b S m σ H ρ Q E hm (a.mono ρ _ _ (fun d p v H' s x y => k d v H' p s x y) hf)
theorem Snd.v {md : Bool} {K : PySem.W.Frag} {t : TE} {c : Nat} {f : FE} (a : Snd md K t c f) : Snd false K t c f :=
  ⟨a.mono, fun b S m σ H ρ Q E hm hf => a.go E hm hf fun d v H' p st bx vd => p v H' st bx vd.vw⟩
end Dv
namespace Dv
open PySem PySem.Spec PyProof.Rows L2
open Classical
abbrev FT := List Sl → (Bool → Prop) → Prop
abbrev FD := List Sl → (List PyData → Prop) → Prop
abbrev FA := List Sl → (List Sl → Prop) → Prop
structure SndT (K : PySem.W.Frag) (t : TT) (c : Nat) (f : FT) : Prop where
  mono : ∀ (ρ : List Sl) (P P' : Bool → Prop), (∀ d, P d → P' d) → f ρ P → f ρ P'
  go : ∀ {b : Option Addr} {S : Addr → Prop} {m : Nat} {σ : L2.St} {H : Hp} {ρ : List Sl} {Q : Bool → Hp → Prop} {P : Bool → Prop}, DEnv K b S m H σ ρ → m + c ≤ LIM → f ρ P →
    (∀ k H', P k → Stp K b H H' → BxO b H' (m + c) → Q k H') → t σ H Q
inductive VwL (md : Bool) (K : PySem.W.Frag) (b : Option Addr) (S : Addr → Prop) (H : Hp) : List V → List PyData → Prop
  | nil : VwL md K b S H [] []
  | cons {v : V} {vs : List V} {d : PyData} {ds : List PyData} : VD md K b S H v d → VwL md K b S H vs ds → VwL md K b S H (v :: vs) (d :: ds)
theorem VwL.dal {K : PySem.W.Frag} {b : Option Addr} {S : Addr → Prop} {H : Hp} : ∀ {vs : List V} {ds : List PyData}, VwL true K b S H vs ds → DaL K (rm H S) vs ds
  | _, _, .nil => .nil
  | _, _, .cons h g => .cons h (VwL.dal g)
structure SndD (md : Bool) (K : PySem.W.Frag) (t : TA) (n : Nat) (c : Nat) (f : FD) : Prop where
  mono : ∀ (ρ : List Sl) (P P' : List PyData → Prop), (∀ d, P d → P' d) → f ρ P → f ρ P'
  go : ∀ {b : Option Addr} {S : Addr → Prop} {m : Nat} {σ : L2.St} {H : Hp} {ρ : List Sl} {Q : List V → Hp → Prop} {P : List PyData → Prop}, DEnv K b S m H σ ρ → m + c ≤ LIM → f ρ P →
    (∀ ds vs H', P ds → vs.length = n → Stp K b H H' → BxO b H' (m + c) → VwL md K b S H' vs ds → Q vs H') → t σ H Q
def ArgR (K : PySem.W.Frag) (b : Option Addr) (S : Addr → Prop) (H : Hp) (v : V) : Sl → Prop
  | .dt d => Da K (rm H S) v d
  | .box => ∃ p, v = .ref p ∧ b = some p
  | .scr ns => ∃ p, v = .ref p ∧ SqL K (rm H S) p (ns.map V.int)
  | .op g => TbO K (rm H S) v g
  | .fn k ds => LamV K (rm H S) v k ds
  | .dck kvs => DcO K (rm H S) v kvs
  | _ => False
inductive ArgL (K : PySem.W.Frag) (b : Option Addr) (S : Addr → Prop) (H : Hp) : List V → List Sl → Prop
  | nil : ArgL K b S H [] []
  | cons {v : V} {vs : List V} {s : Sl} {as : List Sl} : ArgR K b S H v s → ArgL K b S H vs as → ArgL K b S H (v :: vs) (s :: as)
structure SndA (K : PySem.W.Frag) (t : TA) (c : Nat) (f : FA) : Prop where
  mono : ∀ (ρ : List Sl) (P P' : List Sl → Prop), (∀ d, P d → P' d) → f ρ P → f ρ P'
  go : ∀ {b : Option Addr} {S : Addr → Prop} {m : Nat} {σ : L2.St} {H : Hp} {ρ : List Sl} {Q : List V → Hp → Prop} {P : List Sl → Prop}, DEnv K b S m H σ ρ → m + c ≤ LIM → f ρ P →
    (∀ as vs H', P as → Stp K b H H' → BxO b H' (m + c) → ArgL K b S H' vs as → Q vs H') → t σ H Q
theorem mk_snd {md : Bool} {K : PySem.W.Frag} {t : TE} {c : Nat} {f : FE} (mono : ∀ (ρ : List Sl) (P P' : PyData → Prop), (∀ d, P d → P' d) → f ρ P → f ρ P')
    (go : ∀ {b : Option Addr} {S : Addr → Prop} {m : Nat} {σ : L2.St} {H : Hp} {ρ : List Sl} {Q : VK} {P : PyData → Prop}, DEnv K b S m H σ ρ → m + c ≤ LIM → f ρ P →
      (∀ d v H', P d → Stp K b H H' → BxO b H' (m + c) → VD md K b S H' v d → Q v H') → t σ H Q) : Snd md K t c f :=
  ⟨mono, fun b S m σ H ρ Q E hm hf => go E hm hf fun d v H' p s x y => p v H' s x y⟩
section
variable {K : PySem.W.Frag} {md md2 : Bool} {ta tb : TE} {ca cb c : Nat} {fa fb : FE}
abbrev eVar (i : Nat) : FE := fun ρ Q => match ρ[i]? with
  | some (.dt d) => Q d
  | _ => False
abbrev eVarV (i : Nat) : FE := fun ρ Q => match ρ[i]? with
  | some (.dt d) => Q d
  | some (.own ds) => Q (.list ds)
  | _ => False
theorem snd_var {i : Nat} : Snd true K (tVar i) 0 (eVar i) := mk_snd
  (fun ρ P P' h g => by
    unfold eVar at g ⊢
    split at g
    · exact h _ g
    · exact g.elim)
  (fun {b S m σ H ρ Q P} E hm hf k => by
    unfold eVar at hf
    split at hf
    · rename_i d e
      obtain ⟨v, e1, e2⟩ := E.sl i _ e
      exact ⟨v, e1, k d v H hf Stp.refl E.bx e2⟩
    · exact hf.elim)
theorem sndV_var {i : Nat} : Snd false K (tVar i) 0 (eVarV i) := mk_snd
  (fun ρ P P' h g => by
    unfold eVarV at g ⊢
    split at g
    · exact h _ g
    · exact h _ g
    · exact g.elim)
  (fun {b S m σ H ρ Q P} E hm hf k => by
    unfold eVarV at hf
    split at hf
    · rename_i d e
      obtain ⟨v, e1, e2⟩ := E.sl i _ e
      exact ⟨v, e1, k d v H hf Stp.refl E.bx (.st e2)⟩
    · rename_i ds e
      obtain ⟨p, vs, e1, e2, e3, e4, e5⟩ := E.sl i _ e
      exact ⟨.ref p, e1, k _ _ H hf Stp.refl E.bx (.ow e3 e4 e5)⟩
    · exact hf.elim)
abbrev eC (d : PyData) : FE := fun _ Q => Q d
theorem snd_int {i : Int} : Snd true K (tC (.int i)) 0 (eC (.int i)) := mk_snd (fun ρ P P' h g => h _ g) (fun E hm hf k => k _ _ _ hf Stp.refl E.bx (.int i))
theorem snd_bl {i : Bool} : Snd true K (tC (.bl i)) 0 (eC (.bool i)) := mk_snd (fun ρ P P' h g => h _ g) (fun E hm hf k => k _ _ _ hf Stp.refl E.bx (.bl i))
theorem snd_str {i : Str} : Snd true K (tC (.str i)) 0 (eC (.str i)) := mk_snd (fun ρ P P' h g => h _ g) (fun E hm hf k => k _ _ _ hf Stp.refl E.bx (.str i))
theorem snd_non : Snd true K (tC .non) 0 (eC .none) := mk_snd (fun ρ P P' h g => h _ g) (fun E hm hf k => k _ _ _ hf Stp.refl E.bx .non)
structure OpSnd (K : PySem.W.Frag) (r : R2) (g : PyData → PyData → (PyData → Prop) → Prop) : Prop where
  mono : ∀ x y (P P' : PyData → Prop), (∀ d, P d → P' d) → g x y P → g x y P'
  run : ∀ {b : Option Addr} {S : Addr → Prop} {H : Hp} {x y : V} {dx dy : PyData} {Q : VK} {P : PyData → Prop}, Al S H → Vw K b S H x dx → Vw K b S H y dy → g dx dy P →
    (∀ d v H', P d → Evl.Ex H H' → Da K (rm H' S) v d → Q v H') → r x y H Q
abbrev eBin (g : PyData → PyData → (PyData → Prop) → Prop) (fa fb : FE) : FE := fun ρ Q => fa ρ fun x => fb ρ fun y => g x y Q
theorem snd_op {r : R2} {g : PyData → PyData → (PyData → Prop) → Prop} (o : OpSnd K r g) (a : Snd md K ta ca fa) (b : Snd md2 K tb cb fb) : Snd true K (tOp r ta tb) (ca + cb) (eBin g fa fb) := mk_snd
  (fun ρ P P' h q => a.mono _ _ _ (fun x => b.mono _ _ _ fun y => o.mono x y _ _ h) q)
  (fun E hm hf k => a.go E (by omega) hf fun x vx H1 h1 s1 b1 d1 => b.go (E.step s1 b1) (by omega) h1 fun y vy H2 h2 s2 b2 d2 =>
    o.run ((E.step s1 b1).step s2 b2).al (d1.vw.step s2 E.bs) d2.vw h2 fun d v H' p e q => k d v H' p ((s1.trans s2).trans (Stp.ex e)) ((b2.ex e).le (by omega)) q)
structure UnSnd (K : PySem.W.Frag) (r : V → Hp → VK → Prop) (g : PyData → (PyData → Prop) → Prop) : Prop where
  mono : ∀ x (P P' : PyData → Prop), (∀ d, P d → P' d) → g x P → g x P'
  run : ∀ {b : Option Addr} {S : Addr → Prop} {H : Hp} {x : V} {dx : PyData} {Q : VK} {P : PyData → Prop}, Al S H → Vw K b S H x dx → g dx P →
    (∀ d v H', P d → Evl.Ex H H' → Da K (rm H' S) v d → Q v H') → r x H Q
abbrev eUn (g : PyData → (PyData → Prop) → Prop) (fa : FE) : FE := fun ρ Q => fa ρ fun x => g x Q
theorem snd_un0 {r : V → Hp → VK → Prop} {g : PyData → (PyData → Prop) → Prop} (o : UnSnd K r g) (a : Snd md K ta ca fa) : Snd true K (fun σ H Q => ta σ H fun x H1 => r x H1 Q) ca (eUn g fa) := mk_snd
  (fun ρ P P' h q => a.mono _ _ _ (fun x => o.mono x _ _ h) q)
  (fun E hm hf k => a.go E (by omega) hf fun x vx H1 h1 s1 b1 d1 =>
    o.run (E.step s1 b1).al d1.vw h1 fun d v H' p e q => k d v H' p (s1.trans (Stp.ex e)) (b1.ex e) q)
theorem snd_un {r : V → Hp → VK → Prop} {g : PyData → (PyData → Prop) → Prop} (o : UnSnd K r g) (a : Snd md K ta ca fa) : Snd true K (tUn r ta) ca (eUn g fa) := snd_un0 (r := r) o a
abbrev asB (Q : Bool → Prop) : PyData → Prop
  | .bool k => Q k
  | _ => False
theorem asB_mono {P P' : Bool → Prop} (h : ∀ k, P k → P' k) : ∀ d, asB P d → asB P' d := fun d g => by
  cases d <;> first | exact h _ g | exact g.elim
abbrev fTest (f : FE) : FT := fun ρ Q => f ρ (asB Q)
theorem asB_of {md : Bool} {b : Option Addr} {S : Addr → Prop} {H : Hp} {Q : Bool → Prop} {d : PyData} {v : V} (h : asB Q d) (g : VD md K b S H v d) : ∃ k, v = .bl k ∧ Q k := by
  cases d with
  | bool k => exact ⟨k, g.vw.bool, h⟩
  | _ => exact h.elim
theorem sndt_test (a : Snd md K ta ca fa) : SndT K (tTest ta) ca (fTest fa) :=
  ⟨fun ρ P P' h g => a.mono _ _ _ (asB_mono h) g, fun E hm hf k => a.go E hm hf fun d v H' p s x y => by
    obtain ⟨q, rfl, z⟩ := asB_of p y
    exact ⟨q, rfl, k q H' z s x⟩⟩
theorem sndt_B (a : Snd md K ta ca fa) : SndT K (tB ta) ca (fTest fa) :=
  ⟨fun ρ P P' h g => a.mono _ _ _ (asB_mono h) g, fun E hm hf k => a.go E hm hf fun d v H' p s x y => by
    obtain ⟨q, rfl, z⟩ := asB_of p y
    exact ⟨q, rfl, k q H' z s x⟩⟩
abbrev truD (Q : Bool → Prop) : PyData → Prop
  | .none => Q false
  | .bool k => Q k
  | .int i => Q (i != 0)
  | .list ds => Q (!ds.isEmpty)
  | .tuple ds => Q (!ds.isEmpty)
  | _ => False
theorem DaL.empty {H : Hp} {vs : List V} {ds : List PyData} (h : DaL K H vs ds) : (!vs.isEmpty) = !ds.isEmpty := by
  cases h <;> rfl
theorem truD_mono {P P' : Bool → Prop} (h : ∀ k, P k → P' k) : ∀ d, truD P d → truD P' d := fun d g => by
  cases d <;> first | exact h _ g | exact g.elim
abbrev fTru (f : FE) : FT := fun ρ Q => f ρ (truD Q)
theorem sndt_tru (a : Snd md K ta ca fa) : SndT K (fun σ H Q => ta σ H fun x H' => ∃ k, TruV K x H' k ∧ Q k H') ca (fTru fa) :=
  ⟨fun ρ P P' h g => a.mono _ _ _ (truD_mono h) g, fun E hm hf k => a.go E hm hf fun d v H' p s x y => by
    have y := y.vw
    cases d with
    | none => rw [y.none]; exact ⟨false, rfl, k _ _ p s x⟩
    | bool q => rw [y.bool]; exact ⟨q, rfl, k _ _ p s x⟩
    | int i => rw [y.int]; exact ⟨_, rfl, k _ _ p s x⟩
    | list ds =>
      obtain ⟨q, vs, rfl, e, g⟩ := y.list
      exact ⟨_, .inl ⟨vs, .inl (.inl e), rfl⟩, by rw [g.empty]; exact k _ _ p s x⟩
    | tuple ds =>
      obtain ⟨q, vs, rfl, e, g⟩ := y.tuple
      exact ⟨_, .inr (.inl ⟨vs, e, rfl⟩), by rw [g.empty]; exact k _ _ p s x⟩
    | str _ => exact p.elim
    | dict _ => exact p.elim⟩
abbrev fAnd (f g : FT) : FT := fun ρ Q => f ρ fun k => if k = true then g ρ Q else Q false
abbrev fOr (f g : FT) : FT := fun ρ Q => f ρ fun k => if k = true then Q true else g ρ Q
abbrev fNot (f : FT) : FT := fun ρ Q => f ρ fun k => Q (!k)
variable {tt tu : TT} {ft fu : FT} {ct cu : Nat}
theorem sndt_and (a : SndT K tt ct ft) (b : SndT K tu cu fu) : SndT K (tAnd tt tu) (ct + cu) (fAnd ft fu) :=
  ⟨fun ρ P P' h g => a.mono _ _ _ (fun k q => by
      cases k with
      | true => exact b.mono _ _ _ h q
      | false => exact h _ q) g,
   fun E hm hf k => a.go E (by omega) hf fun q H1 p s1 b1 => by
    cases q with
    | true => exact b.go (E.step s1 b1) (by omega) p fun q2 H2 p2 s2 b2 => k _ _ p2 (s1.trans s2) (b2.le (by omega))
    | false => exact k _ _ p s1 (b1.le (by omega))⟩
theorem sndt_or (a : SndT K tt ct ft) (b : SndT K tu cu fu) : SndT K (tOr tt tu) (ct + cu) (fOr ft fu) :=
  ⟨fun ρ P P' h g => a.mono _ _ _ (fun k q => by
      cases k with
      | false => exact b.mono _ _ _ h q
      | true => exact h _ q) g,
   fun E hm hf k => a.go E (by omega) hf fun q H1 p s1 b1 => by
    cases q with
    | false => exact b.go (E.step s1 b1) (by omega) p fun q2 H2 p2 s2 b2 => k _ _ p2 (s1.trans s2) (b2.le (by omega))
    | true => exact k _ _ p s1 (b1.le (by omega))⟩
theorem sndt_not (a : SndT K tt ct ft) : SndT K (tNot tt) ct (fNot ft) :=
  ⟨fun ρ P P' h g => a.mono _ _ _ (fun k q => h _ q) g, fun E hm hf k => a.go E hm hf fun q H1 p s1 b1 => k _ _ p s1 b1⟩
abbrev eAnd (f g : FE) : FE := fun ρ Q => f ρ (asB fun k => if k = true then g ρ Q else Q (.bool false))
abbrev eNot (f : FE) : FE := fun ρ Q => f ρ (asB fun k => Q (.bool (!k)))
theorem snd_and (a : Snd md K ta ca fa) (b : Snd true K tb cb fb) : Snd true K (tAndV ta tb) (ca + cb) (eAnd fa fb) := mk_snd
  (fun ρ P P' h q => a.mono _ _ _ (asB_mono fun k z => by
      cases k with
      | true => exact b.mono _ _ _ h z
      | false => exact h _ z) q)
  (fun E hm hf k => a.go E (by omega) hf fun x vx H1 h1 s1 b1 d1 => by
    obtain ⟨q, rfl, z⟩ := asB_of h1 d1
    refine ⟨q, rfl, ?_⟩
    cases q with
    | true => exact b.go (E.step s1 b1) (by omega) z fun y vy H2 h2 s2 b2 d2 => k _ _ _ h2 (s1.trans s2) (b2.le (by omega)) d2
    | false => exact k _ _ _ z s1 (b1.le (by omega)) (.bl false))
theorem snd_not (a : Snd md K ta ca fa) : Snd true K (tNotV ta) ca (eNot fa) := mk_snd
  (fun ρ P P' h q => a.mono _ _ _ (asB_mono fun k z => h _ z) q)
  (fun E hm hf k => a.go E (by omega) hf fun x vx H1 h1 s1 b1 d1 => by
    obtain ⟨q, rfl, z⟩ := asB_of h1 d1
    exact ⟨q, rfl, k _ _ _ z s1 b1 (.bl _)⟩)
abbrev eIf (t : FT) (f g : FE) : FE := fun ρ Q => t ρ fun k => if k = true then f ρ Q else g ρ Q
theorem snd_if (t : SndT K tt ct ft) (a : Snd true K ta ca fa) (b : Snd true K tb cb fb) : Snd true K (tIf tt ta tb) (ct + (ca + cb)) (eIf ft fa fb) := mk_snd
  (fun ρ P P' h q => t.mono _ _ _ (fun k z => by
      cases k with
      | true => exact a.mono _ _ _ h z
      | false => exact b.mono _ _ _ h z) q)
  (fun E hm hf k => t.go E (by omega) hf fun q H1 p s1 b1 => by
    cases q with
    | true => exact a.go (E.step s1 b1) (by omega) p fun y vy H2 h2 s2 b2 d2 => k _ _ _ h2 (s1.trans s2) (b2.le (by omega)) d2
    | false => exact b.go (E.step s1 b1) (by omega) p fun y vy H2 h2 s2 b2 d2 => k _ _ _ h2 (s1.trans s2) (b2.le (by omega)) d2)
abbrev dNil : FD := fun _ Q => Q []
abbrev dCons (f : FE) (g : FD) : FD := fun ρ Q => f ρ fun d => g ρ fun ds => Q (d :: ds)
theorem VwL.step {b : Option Addr} {S : Addr → Prop} {H H' : Hp} (st : Stp K b H H') (bs : ∀ p, b = some p → S p) : ∀ {vs : List V} {ds : List PyData}, VwL md K b S H vs ds → VwL md K b S H' vs ds
  | _, _, .nil => .nil
  | _, _, .cons h g => .cons (h.step st bs) (VwL.step st bs g)
theorem sndd_nil : SndD md K tNil 0 0 dNil := ⟨fun ρ P P' h g => h _ g, fun E hm hf k => k _ _ _ hf rfl Stp.refl E.bx .nil⟩
variable {tr : TA} {fr : FD} {n cr : Nat}
theorem sndd_cons (a : Snd md K ta ca fa) (r : SndD md K tr n cr fr) : SndD md K (tCons ta tr) (n + 1) (ca + cr) (dCons fa fr) :=
  ⟨fun ρ P P' h g => a.mono _ _ _ (fun d => r.mono _ _ _ fun ds => h _) g, fun E hm hf k => a.go E (by omega) hf fun d v H1 h1 s1 b1 d1 =>
    r.go (E.step s1 b1) (by omega) h1 fun ds vs H2 h2 l s2 b2 d2 => k _ _ _ h2 (by rw [List.length_cons, l]) (s1.trans s2) (b2.le (by omega)) (.cons (d1.step s2 E.bs) d2)⟩
abbrev eTup (f : FD) : FE := fun ρ Q => f ρ fun ds => Q (.tuple ds)
abbrev eLst (f : FD) : FE := fun ρ Q => f ρ fun ds => Q (.list ds)
theorem snd_tup (r : SndD true K tr n cr fr) (hn : n ≤ sizeLine) : Snd true K (tTup tr) cr (eTup fr) := mk_snd
  (fun ρ P P' h g => r.mono _ _ _ (fun ds => h _) g)
  (fun E hm hf k => r.go E hm hf fun ds vs H1 h1 l s1 b1 d1 => ⟨by rw [l]; exact hn, fun p np => k _ _ _ h1 (s1.trans (Stp.ex (Evl.Ex.new np))) (b1.ex (Evl.Ex.new np)) (new_tup (E.step s1 b1).al np d1.dal)⟩)
structure SndL (K : PySem.W.Frag) (t : TE) (c : Nat) (f : FD) : Prop where
  mono : ∀ (ρ : List Sl) (P P' : List PyData → Prop), (∀ d, P d → P' d) → f ρ P → f ρ P'
  go : ∀ {b : Option Addr} {S : Addr → Prop} {m : Nat} {σ : L2.St} {H : Hp} {ρ : List Sl} {Q : VK} {P : List PyData → Prop}, DEnv K b S m H σ ρ → m + c ≤ LIM → f ρ P →
    (∀ ds vs p H', P ds → H p = none → Stp K b H H' → BxO b H' (m + c) → H' p = some (.lst vs) → DaL K (rm H' fun a => S a ∨ a = p) vs ds → Q (.ref p) H') → t σ H Q
theorem SndL.d {t : TE} {f : FD} (a : SndL K t c f) : Snd true K t c (fun ρ Q => f ρ fun ds => Q (.list ds)) := mk_snd
  (fun ρ P P' h g => a.mono _ _ _ (fun ds => h _) g)
  (fun E hm hf k => a.go E hm hf fun ds vs p H' h n st bx e g => k _ _ _ h st bx (.lst (rm_in (E.al.new n) e) (g.mono (rm_sub fun a z => .inl z))))
theorem back {b : Option Addr} {H H1 : Hp} {p : Addr} {k : Nat} (st : Stp K b H H1) (bx : BxO b H1 k) (np : H1 p = none) : H p = none := by
  cases z : H p with
  | none => rfl
  | some o =>
    exfalso
    by_cases q : b = some p
    · rw [q] at bx
      obtain ⟨_, _, _, _, _, _, _, _, e2⟩ := bx
      rw [np] at e2
      cases e2
    · exact (st p o q z).ne np
theorem DaL.fresh {S : Addr → Prop} {H : Hp} {p : Addr} {o : HO} {vs : List V} {ds : List PyData} (h : DaL K (rm H S) vs ds) (np : H p = none) : DaL K (rm (upd H p o) fun a => S a ∨ a = p) vs ds := h.mono fun a o z => by
  obtain ⟨g1, g2⟩ := rm_some z
  have ne : a ≠ p := fun w => by rw [w, np] at g2; cases g2
  exact rm_in (fun w => w.elim g1 ne) (by rw [upd_ne ne]; exact g2) (rm_nt z)
theorem sndl_lst (r : SndD true K tr n cr fr) (hn : n ≤ sizeLine) : SndL K (tLst tr) cr fr := ⟨r.mono,
  (fun E hm hf k => r.go E hm hf fun ds vs H1 h1 l s1 b1 d1 => ⟨by rw [l]; exact hn, fun p np =>
    k _ _ _ _ h1 (back s1 b1 np) (s1.trans (Stp.ex (Evl.Ex.new np))) (b1.ex (Evl.Ex.new np)) upd_same (d1.dal.fresh np)⟩)⟩
end
end Dv
namespace RT
open PySem PySem.Spec PyProof.Rows
section
variable {prog : Program} {w : World} {A : Around} {E : Value → Shared → Prop} {s : Shared}
end
end RT
namespace Xg
open PySem PySem.Spec PyProof.Rows L2
end Xg
namespace Xg
open PySem PySem.Spec PyProof.Rows L2
theorem tuple_mul1 (l : Addr) (items : Array Value) (n : Nat) (dd : Option Addr) (sl : Array (Option Value)) (u : Tok) :
    Meets (Builtin.«tuple.__mul__» ⟨[.ref l, .int 1 u], []⟩) (fun _ R s => s.heap.get? l = some { cls := .type "tuple", dict := dd, data := .seq items n, slots := sl } ∧ R (.ok (.ret (Value.ref l))) s) :=
  .of_wp fun prog w A R s h => by
    obtain ⟨hp, g, d, tk, os⟩ := s
    obtain ⟨hl, h⟩ := h
    have f1 := AutoSeq1.idx_int
    have c1 : (items.isEmpty || (1 : Int) == 1) = true := by simp
    wp_walk using wpAny_loadPart' hl
    exact ⟨_, rfl, h⟩
def rRep1 (K : PySem.W.Frag) : R2 := fun x y H Q => ∃ l xs, x = .ref l ∧ y = .int 1 ∧ SqT K H l xs ∧ Q (.ref l) H
theorem op_rep1 {X : Cx} : OpR X (binaryOp .Mult) (rRep1 X.K) := by
  intro pins s σ H x y v u Q I rx ry h
  obtain ⟨l, xs, rfl, rfl, hT, q⟩ := h
  cases rx
  obtain ⟨t, rfl⟩ := ry
  obtain ⟨its, r, ⟨⟨cls, dd, data, sl⟩, ho, hc, n, hd⟩, hs⟩ := I.tuple hT
  simp only at hc hd
  subst hc hd
  refine wpAny_binaryOp_repeat_ref (T := "tuple") (U := "int") (by decide) ⟨_, ho, rfl⟩ (fun s' => typeIs_int s' 1 t) noFill_tuple_mul F.fills_int_mul F.slot_int_rmul repeat_tuple F.slot_int_index.lookup
    (call_meets F.slot_int_rmul (typeIs_int s 1 t) F.entry_int_rmul (F.args_int_rmul_2 _ _) (int_rmul_tuple 1 t l its.toArray n dd sl)
      ⟨ho, rfl, ⟨_, ho, rfl⟩, call_meets F.slot_tuple_mul ⟨_, ho, rfl⟩ F.entry_tuple_mul (F.args_tuple_mul_2 _ _) (tuple_mul1 l its.toArray n dd sl t) ⟨ho, ?_⟩⟩)
  exact ⟨.ref l, H, I, rfl, q⟩
theorem tuple_mul0 (l : Addr) (items : Array Value) (n : Nat) (dd : Option Addr) (sl : Array (Option Value)) (u : Tok) (c1 : (items.isEmpty || (0 : Int) == 1) = false) :
    Meets (Builtin.«tuple.__mul__» ⟨[.ref l, .int 0 u], []⟩) (fun _ R s => s.heap.get? l = some { cls := .type "tuple", dict := dd, data := .seq items n, slots := sl } ∧
      R (.ok (.ret (Value.ref s.heap.objs.size))) { s with heap := s.heap.push { cls := Value.type "tuple", data := Data.seq #[] }, toks := s.toks }) :=
  .of_wp fun prog w A R s h => by
    obtain ⟨hp, g, d, tk, os⟩ := s
    obtain ⟨hl, h⟩ := h
    have f1 := AutoSeq1.idx_int
    wp_walk using wpAny_loadPart' hl
    repeat (first
      | (refine wpAny_ite_false (decide_eq_false (by rw [c1]; exact Bool.false_ne_true)) ?_; wp_walk using wpAny_loadPart' hl))
    exact ⟨_, rfl, h⟩
def rRep0 (K : PySem.W.Frag) : R2 := fun x y H Q => ∃ l xs, x = .ref l ∧ y = .int 0 ∧ SqT K H l xs ∧ xs ≠ [] ∧ ∀ p, H p = none → Q (.ref p) (upd H p (.tup []))
theorem op_rep0 {X : Cx} : OpR X (binaryOp .Mult) (rRep0 X.K) := by
  intro pins s σ H x y v u Q I rx ry h
  obtain ⟨l, xs, rfl, rfl, hT, hne, q⟩ := h
  cases rx
  obtain ⟨t, rfl⟩ := ry
  obtain ⟨its, r, ⟨⟨cls, dd, data, sl⟩, ho, hc, n, hd⟩, hs⟩ := I.tuple hT
  simp only at hc hd
  subst hc hd
  have hle : its.length = xs.length := r.length.symm
  have hi : its.toArray.isEmpty = false := by
    cases its with
    | nil => exact absurd (List.eq_nil_of_length_eq_zero hle.symm) hne
    | cons a b => rfl
  refine wpAny_binaryOp_repeat_ref (T := "tuple") (U := "int") (by decide) ⟨_, ho, rfl⟩ (fun s' => typeIs_int s' 0 t) noFill_tuple_mul F.fills_int_mul F.slot_int_rmul repeat_tuple F.slot_int_index.lookup
    (call_meets F.slot_int_rmul (typeIs_int s 0 t) F.entry_int_rmul (F.args_int_rmul_2 _ _) (int_rmul_tuple 0 t l its.toArray n dd sl)
      ⟨ho, rfl, ⟨_, ho, rfl⟩, call_meets F.slot_tuple_mul ⟨_, ho, rfl⟩ F.entry_tuple_mul (F.args_tuple_mul_2 _ _) (tuple_mul0 l its.toArray n dd sl t (by rw [hi]; rfl)) ⟨ho, ?_⟩⟩)
  have hp : H s.heap.objs.size = none := I.hok.fresh (Nat.le_refl _)
  refine ⟨.ref s.heap.objs.size, _, I.laid (o := .tup []) (t' := s.toks) (fun b o e => Heap.get?_push_of_some _ e) (Nat.le_refl _) ?_, rfl, q _ hp⟩
  exact ⟨Nat.zero_le _, [], .nil, ⟨_, Heap.get?_push_size s.heap rfl, rfl, 0, rfl⟩⟩
end Xg
namespace Zq
open PySem PySem.Spec PyProof.Rows L2
open PySem.Sem (wp)
def sqK (t : Bool) (g : Heap) (l : Addr) (xs : Array Value) : Prop := bif t then g.IsTuple l xs else g.IsList l xs
def itK (t : Bool) (g : Heap) (p l : Addr) (i : Nat) : Prop := bif t then g.IsTupleIter p l i else g.IsListIter p l i
theorem sq_ext {t : Bool} {g g' : Heap} {l b : Addr} {xs : Array Value} (x : sqK t g l xs) (e : Heap.ExtBut b g g') (n : l ≠ b) : sqK t g' l xs := by
  cases t
  · exact Heap.IsList.extBut x e n
  · exact Heap.IsTuple.extBut x e n
theorem it_ext {t : Bool} {g g' : Heap} {p l b : Addr} {i : Nat} (x : itK t g p l i) (e : Heap.ExtBut b g g') (n : p ≠ b) : itK t g' p l i := by
  cases t
  · exact Heap.IsListIter.extBut x e n
  · exact Heap.IsTupleIter.extBut x e n
theorem it_at {t : Bool} {g g' : Heap} {p l : Addr} {i : Nat} (x : itK t g p l i) (e : ∀ o, g.get? p = some o → g'.get? p = some o) : itK t g' p l i := by
  cases t
  · exact Heap.IsListIter.at x e
  · exact Heap.IsTupleIter.at x e
theorem it_obj {t : Bool} {g : Heap} {p l : Addr} {i : Nat} (x : itK t g p l i) : ∃ o, g.get? p = some o ∧ o.data = .fields #[.ref l, .int i 0] := by
  cases t
  · exact let ⟨o, e, _, d⟩ := x; ⟨o, e, d⟩
  · exact let ⟨o, e, _, d⟩ := x; ⟨o, e, d⟩
section
variable {prog : Program} {w : World} {A : Around} {E : Value → Shared → Prop} {s : Shared}
theorem nx_item {t : Bool} {p l : Addr} {i : Nat} {xs : Array Value} {x : Value} {Q : Value → Shared → Prop} (h : itK t s.heap p l i) (hl : sqK t s.heap l xs) (hx : xs[i]? = some x)
    (q : ∀ g, itK t g p l (i + 1) → Heap.SameBut p s.heap g → Q x { s with heap := g }) : wpAny (model prog w) A (Builtin.SmallTypes.nextOf (.ref p)) Q E s := by
  cases t
  · exact wpAny_nextOf_list_item h hl hx q
  · exact RZ.nextOf_tuple_item h hl hx q
theorem nx_end {t : Bool} {p l : Addr} {i : Nat} {xs : Array Value} {Q : Value → Shared → Prop} (hh : A.handled = none) (h : itK t s.heap p l i) (hl : sqK t s.heap l xs) (hx : xs[i]? = none)
    (q : ∀ g e, Heap.ExtBut p s.heap g → (∃ o, g.get? e = some o ∧ o.cls = .type "StopIteration") → E (.ref e) { s with heap := g }) : wpAny (model prog w) A (Builtin.SmallTypes.nextOf (.ref p)) Q E s := by
  cases t
  · exact wpAny_nextOf_list_end hh h hl hx q
  · exact RZ.nextOf_tuple_end hh h hl hx q
def Stay (g g' : Heap) (z T p1 p2 : Addr) : Prop := ∀ c o, c ≠ z → c ≠ T → c ≠ p1 → c ≠ p2 → g.get? c = some o → g'.get? c = some o
theorem zq_item {t u : Bool} {z S T p1 p2 l1 l2 : Addr} {i j : Nat} {xs ys : Array Value} {x y a b : Value} {Q : Value → Shared → Prop} (D : ZipApart z S T p1 p2 l1 l2)
    (z0 : IsZip s.heap z S T .none) (S0 : IsPair s.heap S (.ref p1) (.ref p2)) (T0 : IsPair s.heap T a b) (f1 : itK t s.heap p1 l1 i) (f2 : itK u s.heap p2 l2 j)
    (m1 : sqK t s.heap l1 xs) (m2 : sqK u s.heap l2 ys) (hx : xs[i]? = some x) (hy : ys[j]? = some y)
    (q : ∀ g, IsZip g z S T (rawInt s.heap.objs.size) → IsPair g T x y → itK t g p1 l1 (i + 1) → itK u g p2 l2 (j + 1) → IsPair g s.heap.objs.size x y → g.objs.size = s.heap.objs.size + 1 → Stay s.heap g z T p1 p2 →
      Q (.ref s.heap.objs.size) { s with heap := g }) : wpAny (model prog w) A (Builtin.«zip.__next__» ⟨[.ref z], []⟩) (fun r s' => ∃ v, r = .done (.ret v) ∧ Q v s') E s := by
  show wpAny _ _ (field (.ref z) 2 >>= fun _ => _) _ _ _
  refine wpAny_bind (wpAny_field z0 rfl (x := .bool false) rfl ?_)
  show wpAny _ _ (field (.ref z) 3 >>= fun _ => _) _ _ _
  refine wpAny_bind (wpAny_field z0 rfl (x := .ref S) rfl (wpAny_bind (wpAny_seqItems S0 rfl ?_)))
  show wpAny _ _ (Builtin.SmallTypes.ownedTupleIsFree (.ref z) >>= fun _ => _) _ _ _
  refine wpAny_bind ?_
  unfold Builtin.SmallTypes.ownedTupleIsFree
  refine wpAny_bind (wpAny_field z0 rfl (x := .none) rfl (wpAny_pure ?_))
  simp only [if_true]
  refine wpAny_bind (wpAny_rule (wpAny_bind (wpAny_field z0 rfl (x := .ref T) rfl (wpAny_bind (wpAny_setField_rec z0 (by simp) fun g1 z1 k1 => ?_)))))
  replace z1 : IsZip g1 z S T .ellipsis := z1
  refine wpAny_bind ?_
  simp only [List.zipIdx_cons, List.zipIdx_nil, List.forIn_cons, List.forIn_nil]
  refine wpAny_bind (wpAny_bind (wpAny_onRaise ?_))
  show wpAny _ _ (Builtin.SmallTypes.nextOf (.ref p1) >>= fun _ => _) _ _ _
  refine wpAny_bind (nx_item (it_ext f1 k1.extBut D.i1z) (sq_ext m1 k1.extBut D.l1z) hx fun g2 f1b k2 => wpAny_pure ?_)
  have T2 : IsPair g2 T a b := k2.extBut _ _ D.TOi1 (k1.extBut _ _ D.TOz T0)
  refine wpAny_bind (wpAny_seqItems T2 rfl (wpAny_bind (wpAny_updateSeq_pair T2 fun g3 T3 k3 => ?_)))
  replace T3 : IsPair g3 T x b := T3
  refine wpAny_bind (wpAny_letGo (wpAny_pure (wpAny_bind (wpAny_bind (wpAny_onRaise ?_)))))
  show wpAny _ _ (Builtin.SmallTypes.nextOf (.ref p2) >>= fun _ => _) _ _ _
  have f2c := it_ext (it_ext (it_ext f2 k1.extBut D.i2z) k2.extBut D.i12.symm) k3.extBut D.TOi2.symm
  have m2c := sq_ext (sq_ext (sq_ext m2 k1.extBut D.l2z) k2.extBut D.l2i1) k3.extBut D.l2TO
  refine wpAny_bind (nx_item f2c m2c hy fun g4 f2d k4 => wpAny_pure ?_)
  have T4 : IsPair g4 T x b := k4.extBut _ _ D.TOi2 T3
  refine wpAny_bind (wpAny_seqItems T4 rfl (wpAny_bind (wpAny_updateSeq_pair T4 fun g5 T5 k5 => ?_)))
  replace T5 : IsPair g5 T x y := T5
  refine wpAny_bind (wpAny_letGo (wpAny_pure (wpAny_pure (wpAny_bind (wpAny_seqItems T5 rfl (wpAny_bind (wpAny_newTuple ?_)))))))
  have n5 : g5.objs.size = s.heap.objs.size := by rw [k5.1, k4.1, k3.1, k2.1, k1.1]
  have z5 : IsZip g5 z S T .ellipsis := k5.extBut _ _ D.TOz.symm (k4.extBut _ _ D.i2z.symm (k3.extBut _ _ D.TOz.symm (k2.extBut _ _ D.i1z.symm z1)))
  have st5 : Stay s.heap g5 z T p1 p2 := fun c o c1 c2 c3 c4 e => k5.extBut _ _ c2 (k4.extBut _ _ c4 (k3.extBut _ _ c2 (k2.extBut _ _ c3 (k1.extBut _ _ c1 e))))
  have f15 : itK t g5 p1 l1 (i + 1) := it_ext (it_ext (it_ext f1b k3.extBut D.TOi1.symm) k4.extBut D.i12) k5.extBut D.TOi1.symm
  have f25 : itK u g5 p2 l2 (j + 1) := it_ext f2d k5.extBut D.TOi2.symm
  have ltz : z < g5.objs.size := Heap.lt_size z5
  show wpAny _ _ (Builtin.SmallTypes.ownedTupleHandOut (.ref z) (.ref g5.objs.size) >>= fun _ => _) _ _ _
  refine wpAny_bind ?_
  unfold Builtin.SmallTypes.ownedTupleHandOut
  have z6 : IsZip (g5.push { cls := .type "tuple", data := .seq #[x, y] }) z S T .ellipsis := Heap.get?_push_of_some _ z5
  refine wpAny_bind (wpAny_setField_rec z6 (by simp) fun g7 z7 k7 => ?_)
  replace z7 : IsZip g7 z S T (rawInt g5.objs.size) := z7
  refine wpAny_setField_rec z7 (by simp) fun g8 z8 k8 => ?_
  replace z8 : IsZip g8 z S T (rawInt g5.objs.size) := z8
  have on : ∀ c o, c ≠ z → g5.get? c = some o → g8.get? c = some o := fun c o c1 e => k8.extBut _ _ c1 (k7.extBut _ _ c1 (Heap.get?_push_of_some _ e))
  have W8 : IsPair g8 g5.objs.size x y := k8.extBut _ _ (Nat.ne_of_gt ltz) (k7.extBut _ _ (Nat.ne_of_gt ltz) (Heap.get?_push_size _ rfl))
  have n8 : g8.objs.size = g5.objs.size + 1 := by rw [k8.1, k7.1, Heap.size_push]
  rw [n5] at z8 W8 n8
  refine wpAny_pure ⟨.ref g5.objs.size, rfl, ?_⟩
  rw [n5]
  exact q g8 z8 (on _ _ D.TOz T5) (it_at f15 fun o e => on _ o D.i1z e) (it_at f25 fun o e => on _ o D.i2z e) W8 n8 fun c o c1 c2 c3 c4 e => on c o c1 (st5 c o c1 c2 c3 c4 e)
theorem zq_end {t u : Bool} {z S T p1 p2 l1 l2 : Addr} {i j : Nat} {xs ys : Array Value} {a b : Value} {Q : Fin → Shared → Prop} (hh : A.handled = none) (D : ZipApart z S T p1 p2 l1 l2)
    (z0 : IsZip s.heap z S T .none) (S0 : IsPair s.heap S (.ref p1) (.ref p2)) (T0 : IsPair s.heap T a b) (f1 : itK t s.heap p1 l1 i) (f2 : itK u s.heap p2 l2 j)
    (m1 : sqK t s.heap l1 xs) (m2 : sqK u s.heap l2 ys) (he : xs[i]? = none ∨ ys[j]? = none)
    (q : ∀ g e, Stay s.heap g z T p1 p2 → (∃ o, g.get? e = some o ∧ o.cls = .type "StopIteration") → E (.ref e) { s with heap := g }) : wpAny (model prog w) A (Builtin.«zip.__next__» ⟨[.ref z], []⟩) Q E s := by
  show wpAny _ _ (field (.ref z) 2 >>= fun _ => _) _ _ _
  refine wpAny_bind (wpAny_field z0 rfl (x := .bool false) rfl ?_)
  show wpAny _ _ (field (.ref z) 3 >>= fun _ => _) _ _ _
  refine wpAny_bind (wpAny_field z0 rfl (x := .ref S) rfl (wpAny_bind (wpAny_seqItems S0 rfl ?_)))
  show wpAny _ _ (Builtin.SmallTypes.ownedTupleIsFree (.ref z) >>= fun _ => _) _ _ _
  refine wpAny_bind ?_
  unfold Builtin.SmallTypes.ownedTupleIsFree
  refine wpAny_bind (wpAny_field z0 rfl (x := .none) rfl (wpAny_pure ?_))
  simp only [if_true]
  refine wpAny_bind (wpAny_rule (wpAny_bind (wpAny_field z0 rfl (x := .ref T) rfl (wpAny_bind (wpAny_setField_rec z0 (by simp) fun g1 z1 k1 => ?_)))))
  replace z1 : IsZip g1 z S T .ellipsis := z1
  refine wpAny_bind ?_
  simp only [List.zipIdx_cons, List.zipIdx_nil, List.forIn_cons, List.forIn_nil]
  refine wpAny_bind (wpAny_bind (wpAny_onRaise ?_))
  show wpAny _ _ (Builtin.SmallTypes.nextOf (.ref p1) >>= fun _ => _) _ _ _
  have f1a := it_ext f1 k1.extBut D.i1z
  have m1a := sq_ext m1 k1.extBut D.l1z
  cases hx : xs[i]? with
  | none =>
    refine wpAny_bind (nx_end hh f1a m1a hx fun g2 e k2 ⟨o, eo, ec⟩ => ?_)
    have z2 : IsZip g2 z S T .ellipsis := k2 _ _ D.i1z.symm z1
    have ne : e ≠ z := fun c => by rw [c, z2] at eo; cases eo; simp at ec
    exact wpAny_setField_rec z2 (by simp) fun g3 _ k3 => q g3 e (fun c o c1 _ c3 _ v => k3.extBut _ _ c1 (k2 _ _ c3 (k1.extBut _ _ c1 v))) ⟨o, k3.extBut _ _ ne eo, ec⟩
  | some x =>
    have hy : ys[j]? = none := he.resolve_left (by rw [hx]; simp)
    refine wpAny_bind (nx_item f1a m1a hx fun g2 f1b k2 => wpAny_pure ?_)
    have T2 : IsPair g2 T a b := k2.extBut _ _ D.TOi1 (k1.extBut _ _ D.TOz T0)
    refine wpAny_bind (wpAny_seqItems T2 rfl (wpAny_bind (wpAny_updateSeq_pair T2 fun g3 T3 k3 => ?_)))
    refine wpAny_bind (wpAny_letGo (wpAny_pure (wpAny_bind (wpAny_bind (wpAny_onRaise ?_)))))
    show wpAny _ _ (Builtin.SmallTypes.nextOf (.ref p2) >>= fun _ => _) _ _ _
    have f2c := it_ext (it_ext (it_ext f2 k1.extBut D.i2z) k2.extBut D.i12.symm) k3.extBut D.TOi2.symm
    have m2c := sq_ext (sq_ext (sq_ext m2 k1.extBut D.l2z) k2.extBut D.l2i1) k3.extBut D.l2TO
    refine wpAny_bind (nx_end hh f2c m2c hy fun g4 e k4 ⟨o, eo, ec⟩ => ?_)
    have z4 : IsZip g4 z S T .ellipsis := k4 _ _ D.i2z.symm (k3.extBut _ _ D.TOz.symm (k2.extBut _ _ D.i1z.symm z1))
    have ne : e ≠ z := fun c => by rw [c, z4] at eo; cases eo; simp at ec
    exact wpAny_setField_rec z4 (by simp) fun g5 _ k5 => q g5 e (fun c o c1 c2 c3 c4 v => k5.extBut _ _ c1 (k4 _ _ c4 (k3.extBut _ _ c2 (k2.extBut _ _ c3 (k1.extBut _ _ c1 v))))) ⟨o, k5.extBut _ _ ne eo, ec⟩
end
end Zq
namespace Zq
open PySem PySem.Spec PyProof.Rows L2
open PySem.Sem (wp)
section
variable {prog : Program} {w : World} {A : Around} {E : Value → Shared → Prop} {s : Shared}
theorem pyn_item {t u : Bool} {z S T p1 p2 l1 l2 : Addr} {i j : Nat} {xs ys : Array Value} {x y a b : Value} {Q : Option Value → Shared → Prop} (D : ZipApart z S T p1 p2 l1 l2)
    (z0 : IsZip s.heap z S T .none) (S0 : IsPair s.heap S (.ref p1) (.ref p2)) (T0 : IsPair s.heap T a b) (f1 : itK t s.heap p1 l1 i) (f2 : itK u s.heap p2 l2 j)
    (m1 : sqK t s.heap l1 xs) (m2 : sqK u s.heap l2 ys) (hx : xs[i]? = some x) (hy : ys[j]? = some y)
    (q : ∀ g, IsZip g z S T (rawInt s.heap.objs.size) → IsPair g T x y → itK t g p1 l1 (i + 1) → itK u g p2 l2 (j + 1) → IsPair g s.heap.objs.size x y → g.objs.size = s.heap.objs.size + 1 → Stay s.heap g z T p1 p2 →
      Q (some (.ref s.heap.objs.size)) { s with heap := g }) : wpAny (model prog w) A (pyNext (.ref z)) Q E s := by
  have ty : s.TypeIs (.ref z) "zip" := ⟨_, z0, rfl⟩
  unfold pyNext
  refine wpAny_bind (wpAny_attempt (wpAny_callSpecial?_slot (name := Str.ofString "__next__") ty F.slot_zip_next (wpAny_call_entry F.slot_zip_next ty F.entry_zip_next (zq_item D z0 S0 T0 f1 f2 m1 m2 hx hy fun g a1 a2 a3 a4 a5 a6 a7 => wpAny_pure (q g a1 a2 a3 a4 a5 a6 a7)) (F.args_zip_next_1 _))))
theorem pyn_end {t u : Bool} {z S T p1 p2 l1 l2 : Addr} {i j : Nat} {xs ys : Array Value} {a b : Value} {Q : Option Value → Shared → Prop} (hh : A.handled = none) (D : ZipApart z S T p1 p2 l1 l2)
    (z0 : IsZip s.heap z S T .none) (S0 : IsPair s.heap S (.ref p1) (.ref p2)) (T0 : IsPair s.heap T a b) (f1 : itK t s.heap p1 l1 i) (f2 : itK u s.heap p2 l2 j)
    (m1 : sqK t s.heap l1 xs) (m2 : sqK u s.heap l2 ys) (he : xs[i]? = none ∨ ys[j]? = none) (q : ∀ g, Stay s.heap g z T p1 p2 → Q none { s with heap := g }) : wpAny (model prog w) A (pyNext (.ref z)) Q E s := by
  have ty : s.TypeIs (.ref z) "zip" := ⟨_, z0, rfl⟩
  unfold pyNext
  refine wpAny_bind (wpAny_attempt (wpAny_callSpecial?_slot (name := Str.ofString "__next__") ty F.slot_zip_next (wpAny_call_entry F.slot_zip_next ty F.entry_zip_next (zq_end hh D z0 S0 T0 f1 f2 m1 m2 he fun g e st ⟨o, eo, ec⟩ => ?_) (F.args_zip_next_1 _))))
  exact wpAny_bind (wpAny_isInstance (T := "StopIteration") (b := true) ⟨o, eo, ec⟩ isSubtype_stop (wpAny_pure (q _ st)))
abbrev e1 (g : Heap) (l1 : Addr) : Heap := g.push { cls := .type "tuple_iterator", data := .fields #[.ref l1, .int 0 0] }
abbrev e2 (g : Heap) (l1 l2 : Addr) : Heap := (e1 g l1).push { cls := .type "list_iterator", data := .fields #[.ref l2, .int 0 0] }
abbrev e3 (g : Heap) (l1 l2 : Addr) : Heap := (e2 g l1 l2).push { cls := .type "tuple", data := .seq #[.ref g.objs.size, .ref (e1 g l1).objs.size] }
abbrev e4 (g : Heap) (l1 l2 : Addr) : Heap := (e3 g l1 l2).push { cls := .type "tuple", data := .seq #[.none, .none] }
abbrev e5 (g : Heap) (l1 l2 : Addr) : Heap := (e4 g l1 l2).push { cls := .type "zip", data := .fields #[.none, .bool false, .bool false, .ref (e2 g l1 l2).objs.size, .ref (e3 g l1 l2).objs.size] }
theorem made (l1 l2 : Addr) (xs ys : Array Value) : Meets (Builtin.«zip.__new__» ⟨[.type "zip", .ref l1, .ref l2], []⟩) (fun _ R s => s.heap.IsTuple l1 xs ∧ s.heap.IsList l2 ys ∧ R (.ok (.ret (.ref (e4 s.heap l1 l2).objs.size))) { s with heap := e5 s.heap l1 l2 }) :=
  .of_wp fun prog w A R s h => by
    obtain ⟨g, a, d, k, o⟩ := s; obtain ⟨m1, m2, r⟩ := h
    have sub := sub_zip
    have M1 : Heap.IsTuple (Shared.heap ⟨g, a, d, k, o⟩) l1 xs := m1
    have M2 : Heap.IsList (Shared.heap ⟨e1 g l1, a, d, k, o⟩) l2 ys := Heap.IsList.push m2 _
    wp_walk using wpAny_pyIter_tuple M1, wpAny_pyIter_list M2
    exact ⟨_, rfl, r⟩
theorem call_zq {l1 l2 : Addr} {xs ys : Array Value} {Q : Value → Shared → Prop} (m1 : s.heap.IsTuple l1 xs) (m2 : s.heap.IsList l2 ys)
    (q : ∀ g, IsZip g (s.heap.objs.size + 4) (s.heap.objs.size + 2) (s.heap.objs.size + 3) .none → IsPair g (s.heap.objs.size + 2) (.ref s.heap.objs.size) (.ref (s.heap.objs.size + 1)) → IsPair g (s.heap.objs.size + 3) .none .none →
      itK true g s.heap.objs.size l1 0 → itK false g (s.heap.objs.size + 1) l2 0 → (∀ c o, s.heap.get? c = some o → g.get? c = some o) → Q (.ref (s.heap.objs.size + 4)) { s with heap := g }) :
    wpAny (model prog w) A (call (.type "zip") [.ref l1, .ref l2]) Q E s := by
  refine callType_new F.called_zip (by decide) (F.typeCall_zip_2 _ _) (F.newCall_zip_2 _ _) (fun obj => F.args_object_init_3 obj _ _) F.entry_zip_new (made l1 l2 xs ys) ⟨m1, m2, ?_⟩
  have n1 : (e1 s.heap l1).objs.size = s.heap.objs.size + 1 := Heap.size_push ..
  have n2 : (e2 s.heap l1 l2).objs.size = s.heap.objs.size + 2 := (Heap.size_push ..).trans (congrArg (· + 1) n1)
  have n3 : (e3 s.heap l1 l2).objs.size = s.heap.objs.size + 3 := (Heap.size_push ..).trans (congrArg (· + 1) n2)
  have n4 : (e4 s.heap l1 l2).objs.size = s.heap.objs.size + 4 := (Heap.size_push ..).trans (congrArg (· + 1) n3)
  have k1 : ∀ {c : Addr} {o : Obj}, (e1 s.heap l1).get? c = some o → (e5 s.heap l1 l2).get? c = some o := fun e => Heap.get?_push_of_some _ (Heap.get?_push_of_some _ (Heap.get?_push_of_some _ (Heap.get?_push_of_some _ e)))
  have k2 : ∀ {c : Addr} {o : Obj}, (e2 s.heap l1 l2).get? c = some o → (e5 s.heap l1 l2).get? c = some o := fun e => Heap.get?_push_of_some _ (Heap.get?_push_of_some _ (Heap.get?_push_of_some _ e))
  have g5 : (e5 s.heap l1 l2).get? (e4 s.heap l1 l2).objs.size = some _ := Heap.get?_push_size _ rfl
  have g4 : (e5 s.heap l1 l2).get? (e3 s.heap l1 l2).objs.size = some _ := Heap.get?_push_of_some _ (Heap.get?_push_size _ rfl)
  have g3 : (e5 s.heap l1 l2).get? (e2 s.heap l1 l2).objs.size = some _ := Heap.get?_push_of_some _ (Heap.get?_push_of_some _ (Heap.get?_push_size _ rfl))
  have g2 : (e5 s.heap l1 l2).get? (e1 s.heap l1).objs.size = some _ := k2 (Heap.get?_push_size _ rfl)
  have g1 : (e5 s.heap l1 l2).get? s.heap.objs.size = some _ := k1 (Heap.get?_push_size _ rfl)
  show _ ∧ _
  rw [n2, n3, n4] at g5
  rw [n3] at g4
  rw [n1, n2] at g3
  rw [n1] at g2
  rw [n4]
  exact ⟨⟨_, g5, rfl⟩, q _ g5 g3 g4 ⟨_, g1, rfl, rfl⟩ ⟨_, g2, rfl, rfl⟩ fun c o e => k1 (Heap.get?_push_of_some _ e)⟩
end
end Zq
namespace Zq
open PySem PySem.Spec PyProof.Rows L2
def ItM (K : PySem.W.Frag) (a b : Addr) : It where
  go i H := ∃ (xs ys : List V) (x y : V), (SqT K H a xs ∧ xs[i]? = some x) ∧ (SqL K H b ys ∧ ys[i]? = some y)
  yld i H v H' := ∃ W x y, v = .ref W ∧ H W = none ∧ H' = upd H W (.tup [x, y]) ∧ (∀ l, SqT K H a l → l[i]? = some x) ∧ (∀ l, SqL K H b l → l[i]? = some y)
  stop i H := ∃ xs ys : List V, SqT K H a xs ∧ SqL K H b ys ∧ min xs.length ys.length ≤ i
def tnM (z S T p1 p2 a b : Addr) (i : Nat) (g : Heap) : Prop := IsZip g z S T .none ∧ IsPair g S (.ref p1) (.ref p2) ∧ (∃ x y, IsPair g T x y) ∧ itK true g p1 a i ∧ itK false g p2 b i
theorem five {z S T p1 p2 c : Addr} {M : Prop} (h : c ∈ [z, S, T, p1, p2]) (m1 : c = z → M) (m2 : c = S → M) (m3 : c = T → M) (m4 : c = p1 → M) (m5 : c = p2 → M) : M := by
  simp only [List.mem_cons, List.not_mem_nil, or_false] at h
  exact h.elim m1 fun h => h.elim m2 fun h => h.elim m3 fun h => h.elim m4 m5
theorem tnM_obj {z S T p1 p2 a b : Addr} {i : Nat} {g : Heap} (st : tnM z S T p1 p2 a b i g) {c : Addr} (hc : c ∈ [z, S, T, p1, p2]) : ∃ o, g.get? c = some o ∧ ∀ v, o.data ≠ .cell v := by
  obtain ⟨z0, S0, ⟨x, y, T0⟩, f1, f2⟩ := st
  obtain ⟨o1, g1, d1⟩ := it_obj f1
  obtain ⟨o2, g2, d2⟩ := it_obj f2
  refine five hc (fun e => ?_) (fun e => ?_) (fun e => ?_) (fun e => ?_) (fun e => ?_) <;> rw [e]
  · exact ⟨_, z0, fun _ k => nomatch k⟩
  · exact ⟨_, S0, fun _ k => nomatch k⟩
  · exact ⟨_, T0, fun _ k => nomatch k⟩
  · exact ⟨o1, g1, fun _ k => by cases d1.symm.trans k⟩
  · exact ⟨o2, g2, fun _ k => by cases d2.symm.trans k⟩
theorem turn_M {P : Program} {w : World} {K : PySem.W.Frag} {es : List Expr} {kk : Nat} {tp : Pos} {a b z S T p1 p2 : Addr} (D : ZipApart z S T p1 p2 a b) :
    Turn P w K (.Tuple es kk tp) (ItM K a b) [z, S, T, p1, p2] z (tnM z S T p1 p2 a b) where
  mem := List.mem_cons_self
  obj := fun i g st c hc => tnM_obj st hc
  keep := fun i g g' ⟨z0, S0, ⟨x, y, T0⟩, f1, f2⟩ k => ⟨k z (by simp) _ z0, k S (by simp) _ S0, ⟨x, y, k T (by simp) _ T0⟩, it_at f1 (k p1 (by simp)), it_at f2 (k p2 (by simp))⟩
  item := by
    rintro X rfl rfl rfl hc i pins s σ H E I hf st ⟨xs, ys, x, y, ⟨qx, ex⟩, qy, ey⟩
    have lts : ∀ c ∈ [z, S, T, p1, p2], c < s.heap.objs.size := fun c hm => let ⟨_, e, _⟩ := tnM_obj st hm; Heap.lt_size e
    obtain ⟨z0, S0, ⟨x0, y0, T0⟩, f1, f2⟩ := st
    obtain ⟨us, r1, m1, _⟩ := I.tuple qx
    obtain ⟨vs, r2, m2, _⟩ := I.list qy
    obtain ⟨u, eu, ru⟩ := r1.get ex
    obtain ⟨v, ev, rv⟩ := r2.get ey
    refine pyn_item (t := true) (u := false) D z0 S0 T0 f1 f2 m1 m2.isList (x := u) (y := v) (by simpa using eu) (by simpa using ev) fun g z1 T1 f1' f2' W1 n1 st => ⟨_, rfl, ?_⟩
    refine wpAny_letOwnedTupleGo_zip (s := { s with heap := g }) z1 fun g' z2 sb => ?_
    have out : ∀ c o, c ∉ [z, S, T, p1, p2] → s.heap.get? c = some o → g'.get? c = some o := fun c o hb e => by
      have h5 : c ≠ z ∧ c ≠ T ∧ c ≠ p1 ∧ c ≠ p2 := by
        simp only [List.mem_cons, List.not_mem_nil, or_false, not_or] at hb
        exact ⟨hb.1, hb.2.2.1, hb.2.2.2.1, hb.2.2.2.2⟩
      exact (sb.2 c h5.1).trans (st c o h5.1 h5.2.1 h5.2.2.1 h5.2.2.2 e)
    have W2 : g'.get? s.heap.objs.size = some { cls := .type "tuple", data := .seq #[u, v] } := (sb.2 _ (Nat.ne_of_gt (lts z List.mem_cons_self))).trans W1
    have okW : ObjOk X.prog X.w (upd H s.heap.objs.size (.tup [x, y])) g' s.heap.objs.size (.tup [x, y]) := ⟨(by decide : 2 ≤ sizeLine), [u, v], .cons ru (.cons rv .nil), ⟨_, W2, rfl, _, rfl⟩⟩
    have I' : Inv X pins σ (upd H s.heap.objs.size (.tup [x, y])) { s with heap := g' } := I.turnedNew (t' := s.toks) (ch := [z, S, T, p1, p2]) out hf (Nat.le_refl _) okW
    refine ⟨.ref s.heap.objs.size, _, I', rfl, ⟨_, x, y, rfl, I.hok.fresh (Nat.le_refl _), rfl, fun l hl => I.tuple_inj hl qx ▸ ex, fun l hl => I.list_inj hl qy ▸ ey⟩, ⟨z2, ?_, ⟨u, v, ?_⟩, it_at f1' fun o e => (sb.2 _ D.i1z).trans e, it_at f2' fun o e => (sb.2 _ D.i2z).trans e⟩, fun c hm => ?_⟩
    · exact (sb.2 _ D.TIz).trans (st _ _ D.TIz D.TITO D.TIi1 D.TIi2 S0)
    · exact (sb.2 _ D.TOz).trans T1
    · exact (upd_ne (Nat.ne_of_lt (lts c hm))).trans (hf c hm).1
  done := by
    rintro X rfl rfl rfl hc i pins s σ H E I hf ⟨z0, S0, ⟨x0, y0, T0⟩, f1, f2⟩ ⟨xs, ys, qx, qy, he⟩
    obtain ⟨us, r1, m1, _⟩ := I.tuple qx
    obtain ⟨vs, r2, m2, _⟩ := I.list qy
    have n1 := r1.length
    have n2 := r2.length
    have no : us.toArray[i]? = none ∨ vs.toArray[i]? = none := by
      simp only [List.getElem?_toArray, List.getElem?_eq_none_iff]
      omega
    refine pyn_end (t := true) (u := false) (I.ok.hd hc) D z0 S0 T0 f1 f2 m1 m2.isList no fun g st => ⟨rfl, I.turnedL (t' := s.toks) (ch := [z, S, T, p1, p2]) (fun c o hb e => ?_) hf⟩
    simp only [List.mem_cons, List.not_mem_nil, or_false, not_or] at hb
    exact st c o hb.1 hb.2.2.1 hb.2.2.2.1 hb.2.2.2.2 e
  self := fun A i s Q E st q => wpAny_pyIter_zip st.1 q
theorem walk_zipM {K : PySem.W.Frag} {a b : Addr} {xs ys : List V} {n : Nat} (hn : n = min xs.length ys.length) : Walk (ItM K a b) n (fun H => SqT K H a xs ∧ SqL K H b ys) (YPair (fun i => xs[i]?) (fun i => ys[i]?)) := by
  subst hn
  refine ⟨fun i _ hi q => ?_, fun _ q => ⟨xs, ys, q.1, q.2, Nat.le_refl _⟩, fun i H v H' _ q ⟨W, x, y, g1, g2, g3, g4, g5⟩ => ⟨W, x, y, g1, g2, g3, g4 xs q.1, g5 ys q.2⟩⟩
  exact ⟨xs, ys, xs[i]'(by omega), ys[i]'(by omega), ⟨q.1, List.getElem?_eq_getElem _⟩, q.2, List.getElem?_eq_getElem _⟩
end Zq
namespace Zq
open PySem PySem.Spec PyProof.Rows L2
open PySem.Sem (wp)
section
variable {prog : Program} {w : World} {A : Around} {E : Value → Shared → Prop} {s : Shared}
abbrev u1 (g : Heap) (l1 : Addr) : Heap := g.push { cls := .type "list_iterator", data := .fields #[.ref l1, .int 0 0] }
abbrev u2 (g : Heap) (l1 l2 : Addr) : Heap := (u1 g l1).push { cls := .type "tuple_iterator", data := .fields #[.ref l2, .int 0 0] }
abbrev u3 (g : Heap) (l1 l2 : Addr) : Heap := (u2 g l1 l2).push { cls := .type "tuple", data := .seq #[.ref g.objs.size, .ref (u1 g l1).objs.size] }
abbrev u4 (g : Heap) (l1 l2 : Addr) : Heap := (u3 g l1 l2).push { cls := .type "tuple", data := .seq #[.none, .none] }
abbrev u5 (g : Heap) (l1 l2 : Addr) : Heap := (u4 g l1 l2).push { cls := .type "zip", data := .fields #[.none, .bool false, .bool false, .ref (u2 g l1 l2).objs.size, .ref (u3 g l1 l2).objs.size] }
theorem madeU (l1 l2 : Addr) (xs ys : Array Value) : Meets (Builtin.«zip.__new__» ⟨[.type "zip", .ref l1, .ref l2], []⟩) (fun _ R s => s.heap.IsList l1 xs ∧ s.heap.IsTuple l2 ys ∧ R (.ok (.ret (.ref (u4 s.heap l1 l2).objs.size))) { s with heap := u5 s.heap l1 l2 }) :=
  .of_wp fun prog w A R s h => by
    obtain ⟨g, a, d, k, o⟩ := s; obtain ⟨m1, m2, r⟩ := h
    have sub := sub_zip
    have M1 : Heap.IsList (Shared.heap ⟨g, a, d, k, o⟩) l1 xs := m1
    have M2 : Heap.IsTuple (Shared.heap ⟨u1 g l1, a, d, k, o⟩) l2 ys := Heap.IsTuple.push m2 _
    wp_walk using wpAny_pyIter_list M1, wpAny_pyIter_tuple M2
    exact ⟨_, rfl, r⟩
theorem call_zu {l1 l2 : Addr} {xs ys : Array Value} {Q : Value → Shared → Prop} (m1 : s.heap.IsList l1 xs) (m2 : s.heap.IsTuple l2 ys)
    (q : ∀ g, IsZip g (s.heap.objs.size + 4) (s.heap.objs.size + 2) (s.heap.objs.size + 3) .none → IsPair g (s.heap.objs.size + 2) (.ref s.heap.objs.size) (.ref (s.heap.objs.size + 1)) → IsPair g (s.heap.objs.size + 3) .none .none →
      itK false g s.heap.objs.size l1 0 → itK true g (s.heap.objs.size + 1) l2 0 → (∀ c o, s.heap.get? c = some o → g.get? c = some o) → Q (.ref (s.heap.objs.size + 4)) { s with heap := g }) :
    wpAny (model prog w) A (call (.type "zip") [.ref l1, .ref l2]) Q E s := by
  refine callType_new F.called_zip (by decide) (F.typeCall_zip_2 _ _) (F.newCall_zip_2 _ _) (fun obj => F.args_object_init_3 obj _ _) F.entry_zip_new (madeU l1 l2 xs ys) ⟨m1, m2, ?_⟩
  have n1 : (u1 s.heap l1).objs.size = s.heap.objs.size + 1 := Heap.size_push ..
  have n2 : (u2 s.heap l1 l2).objs.size = s.heap.objs.size + 2 := (Heap.size_push ..).trans (congrArg (· + 1) n1)
  have n3 : (u3 s.heap l1 l2).objs.size = s.heap.objs.size + 3 := (Heap.size_push ..).trans (congrArg (· + 1) n2)
  have n4 : (u4 s.heap l1 l2).objs.size = s.heap.objs.size + 4 := (Heap.size_push ..).trans (congrArg (· + 1) n3)
  have k1 : ∀ {c : Addr} {o : Obj}, (u1 s.heap l1).get? c = some o → (u5 s.heap l1 l2).get? c = some o := fun e => Heap.get?_push_of_some _ (Heap.get?_push_of_some _ (Heap.get?_push_of_some _ (Heap.get?_push_of_some _ e)))
  have k2 : ∀ {c : Addr} {o : Obj}, (u2 s.heap l1 l2).get? c = some o → (u5 s.heap l1 l2).get? c = some o := fun e => Heap.get?_push_of_some _ (Heap.get?_push_of_some _ (Heap.get?_push_of_some _ e))
  have g5 : (u5 s.heap l1 l2).get? (u4 s.heap l1 l2).objs.size = some _ := Heap.get?_push_size _ rfl
  have g4 : (u5 s.heap l1 l2).get? (u3 s.heap l1 l2).objs.size = some _ := Heap.get?_push_of_some _ (Heap.get?_push_size _ rfl)
  have g3 : (u5 s.heap l1 l2).get? (u2 s.heap l1 l2).objs.size = some _ := Heap.get?_push_of_some _ (Heap.get?_push_of_some _ (Heap.get?_push_size _ rfl))
  have g2 : (u5 s.heap l1 l2).get? (u1 s.heap l1).objs.size = some _ := k2 (Heap.get?_push_size _ rfl)
  have g1 : (u5 s.heap l1 l2).get? s.heap.objs.size = some _ := k1 (Heap.get?_push_size _ rfl)
  show _ ∧ _
  rw [n2, n3, n4] at g5
  rw [n3] at g4
  rw [n1, n2] at g3
  rw [n1] at g2
  rw [n4]
  exact ⟨⟨_, g5, rfl⟩, q _ g5 g3 g4 ⟨_, g1, rfl, rfl⟩ ⟨_, g2, rfl, rfl⟩ fun c o e => k1 (Heap.get?_push_of_some _ e)⟩
end
def ItU (K : PySem.W.Frag) (a b : Addr) : It where
  go i H := ∃ (xs ys : List V) (x y : V), (SqL K H a xs ∧ xs[i]? = some x) ∧ (SqT K H b ys ∧ ys[i]? = some y)
  yld i H v H' := ∃ W x y, v = .ref W ∧ H W = none ∧ H' = upd H W (.tup [x, y]) ∧ (∀ l, SqL K H a l → l[i]? = some x) ∧ (∀ l, SqT K H b l → l[i]? = some y)
  stop i H := ∃ xs ys : List V, SqL K H a xs ∧ SqT K H b ys ∧ min xs.length ys.length ≤ i
def tnU (z S T p1 p2 a b : Addr) (i : Nat) (g : Heap) : Prop := IsZip g z S T .none ∧ IsPair g S (.ref p1) (.ref p2) ∧ (∃ x y, IsPair g T x y) ∧ itK false g p1 a i ∧ itK true g p2 b i
theorem tnU_obj {z S T p1 p2 a b : Addr} {i : Nat} {g : Heap} (st : tnU z S T p1 p2 a b i g) {c : Addr} (hc : c ∈ [z, S, T, p1, p2]) : ∃ o, g.get? c = some o ∧ ∀ v, o.data ≠ .cell v := by
  obtain ⟨z0, S0, ⟨x, y, T0⟩, f1, f2⟩ := st
  obtain ⟨o1, g1, d1⟩ := it_obj f1
  obtain ⟨o2, g2, d2⟩ := it_obj f2
  refine five hc (fun e => ?_) (fun e => ?_) (fun e => ?_) (fun e => ?_) (fun e => ?_) <;> rw [e]
  · exact ⟨_, z0, fun _ k => nomatch k⟩
  · exact ⟨_, S0, fun _ k => nomatch k⟩
  · exact ⟨_, T0, fun _ k => nomatch k⟩
  · exact ⟨o1, g1, fun _ k => by cases d1.symm.trans k⟩
  · exact ⟨o2, g2, fun _ k => by cases d2.symm.trans k⟩
theorem turn_U {P : Program} {w : World} {K : PySem.W.Frag} {es : List Expr} {kk : Nat} {tp : Pos} {a b z S T p1 p2 : Addr} (D : ZipApart z S T p1 p2 a b) :
    Turn P w K (.Tuple es kk tp) (ItU K a b) [z, S, T, p1, p2] z (tnU z S T p1 p2 a b) where
  mem := List.mem_cons_self
  obj := fun i g st c hc => tnU_obj st hc
  keep := fun i g g' ⟨z0, S0, ⟨x, y, T0⟩, f1, f2⟩ k => ⟨k z (by simp) _ z0, k S (by simp) _ S0, ⟨x, y, k T (by simp) _ T0⟩, it_at f1 (k p1 (by simp)), it_at f2 (k p2 (by simp))⟩
  item := by
    rintro X rfl rfl rfl hc i pins s σ H E I hf st ⟨xs, ys, x, y, ⟨qx, ex⟩, qy, ey⟩
    have lts : ∀ c ∈ [z, S, T, p1, p2], c < s.heap.objs.size := fun c hm => let ⟨_, e, _⟩ := tnU_obj st hm; Heap.lt_size e
    obtain ⟨z0, S0, ⟨x0, y0, T0⟩, f1, f2⟩ := st
    obtain ⟨us, r1, m1, _⟩ := I.list qx
    obtain ⟨vs, r2, m2, _⟩ := I.tuple qy
    obtain ⟨u, eu, ru⟩ := r1.get ex
    obtain ⟨v, ev, rv⟩ := r2.get ey
    refine pyn_item (t := false) (u := true) D z0 S0 T0 f1 f2 m1.isList m2 (x := u) (y := v) (by simpa using eu) (by simpa using ev) fun g z1 T1 f1' f2' W1 n1 st => ⟨_, rfl, ?_⟩
    refine wpAny_letOwnedTupleGo_zip (s := { s with heap := g }) z1 fun g' z2 sb => ?_
    have out : ∀ c o, c ∉ [z, S, T, p1, p2] → s.heap.get? c = some o → g'.get? c = some o := fun c o hb e => by
      have h5 : c ≠ z ∧ c ≠ T ∧ c ≠ p1 ∧ c ≠ p2 := by
        simp only [List.mem_cons, List.not_mem_nil, or_false, not_or] at hb
        exact ⟨hb.1, hb.2.2.1, hb.2.2.2.1, hb.2.2.2.2⟩
      exact (sb.2 c h5.1).trans (st c o h5.1 h5.2.1 h5.2.2.1 h5.2.2.2 e)
    have W2 : g'.get? s.heap.objs.size = some { cls := .type "tuple", data := .seq #[u, v] } := (sb.2 _ (Nat.ne_of_gt (lts z List.mem_cons_self))).trans W1
    have okW : ObjOk X.prog X.w (upd H s.heap.objs.size (.tup [x, y])) g' s.heap.objs.size (.tup [x, y]) := ⟨(by decide : 2 ≤ sizeLine), [u, v], .cons ru (.cons rv .nil), ⟨_, W2, rfl, _, rfl⟩⟩
    have I' : Inv X pins σ (upd H s.heap.objs.size (.tup [x, y])) { s with heap := g' } := I.turnedNew (t' := s.toks) (ch := [z, S, T, p1, p2]) out hf (Nat.le_refl _) okW
    refine ⟨.ref s.heap.objs.size, _, I', rfl, ⟨_, x, y, rfl, I.hok.fresh (Nat.le_refl _), rfl, fun l hl => I.list_inj hl qx ▸ ex, fun l hl => I.tuple_inj hl qy ▸ ey⟩, ⟨z2, ?_, ⟨u, v, ?_⟩, it_at f1' fun o e => (sb.2 _ D.i1z).trans e, it_at f2' fun o e => (sb.2 _ D.i2z).trans e⟩, fun c hm => ?_⟩
    · exact (sb.2 _ D.TIz).trans (st _ _ D.TIz D.TITO D.TIi1 D.TIi2 S0)
    · exact (sb.2 _ D.TOz).trans T1
    · exact (upd_ne (Nat.ne_of_lt (lts c hm))).trans (hf c hm).1
  done := by
    rintro X rfl rfl rfl hc i pins s σ H E I hf ⟨z0, S0, ⟨x0, y0, T0⟩, f1, f2⟩ ⟨xs, ys, qx, qy, he⟩
    obtain ⟨us, r1, m1, _⟩ := I.list qx
    obtain ⟨vs, r2, m2, _⟩ := I.tuple qy
    have n1 := r1.length
    have n2 := r2.length
    have no : us.toArray[i]? = none ∨ vs.toArray[i]? = none := by
      simp only [List.getElem?_toArray, List.getElem?_eq_none_iff]
      omega
    refine pyn_end (t := false) (u := true) (I.ok.hd hc) D z0 S0 T0 f1 f2 m1.isList m2 no fun g st => ⟨rfl, I.turnedL (t' := s.toks) (ch := [z, S, T, p1, p2]) (fun c o hb e => ?_) hf⟩
    simp only [List.mem_cons, List.not_mem_nil, or_false, not_or] at hb
    exact st c o hb.1 hb.2.2.1 hb.2.2.2.1 hb.2.2.2.2 e
  self := fun A i s Q E st q => wpAny_pyIter_zip st.1 q
theorem walk_zipU {K : PySem.W.Frag} {a b : Addr} {xs ys : List V} {n : Nat} (hn : n = min xs.length ys.length) : Walk (ItU K a b) n (fun H => SqL K H a xs ∧ SqT K H b ys) (YPair (fun i => xs[i]?) (fun i => ys[i]?)) := by
  subst hn
  refine ⟨fun i _ hi q => ?_, fun _ q => ⟨xs, ys, q.1, q.2, Nat.le_refl _⟩, fun i H v H' _ q ⟨W, x, y, g1, g2, g3, g4, g5⟩ => ⟨W, x, y, g1, g2, g3, g4 xs q.1, g5 ys q.2⟩⟩
  exact ⟨xs, ys, xs[i]'(by omega), ys[i]'(by omega), ⟨q.1, List.getElem?_eq_getElem _⟩, q.2, List.getElem?_eq_getElem _⟩
end Zq
namespace Pw
open PySem PySem.Spec PyProof.Rows L2 Xg
open AutoSeq1 (wpAny_loadPart')
theorem en_new (t : Addr) (us : Array Value) (k : Nat) (q : Option Addr) (z : Array (Option Value)) :
    Meets (Builtin.«enumerate.__new__» ⟨[.type "enumerate", .ref t], []⟩) (fun _ R s => s.heap.get? t = some { cls := .type "tuple", dict := q, data := .seq us k, slots := z } ∧
      R (.ok (.ret (.ref (s.heap.push { cls := .type "tuple_iterator", data := .fields #[.ref t, .int 0 0] }).objs.size)))
        { s with heap := (s.heap.push { cls := .type "tuple_iterator", data := .fields #[.ref t, .int 0 0] }).push { cls := .type "enumerate", data := .fields #[.none, .bool false, .ref s.heap.objs.size, rawInt 0, .none, .none] } }) :=
  .of_wp fun prog w A R s h => by
    obtain ⟨h0, g0, d0, k0, o0⟩ := s
    obtain ⟨ht, h⟩ := h
    have su := sub_enumerate
    have hT : Heap.IsTuple (Shared.heap ⟨h0, g0, d0, k0, o0⟩) t us := ⟨_, ht, rfl, k, rfl⟩
    wp_walk using wpAny_loadPart' ht
    refine wpAny_stack_any fun st => wpAny_pure ?_
    split
    · rename_i c _ _ _ _ _
      cases (c == Value.type "enumerate")
      · wp_walk using wpAny_loadPart' ht, wpAny_pyIter_tuple hT
        exact ⟨_, rfl, h⟩
      · wp_walk using wpAny_loadPart' ht, wpAny_pyIter_tuple hT
        exact ⟨_, rfl, h⟩
    · wp_walk using wpAny_loadPart' ht, wpAny_pyIter_tuple hT
      exact ⟨_, rfl, h⟩
theorem call_en {prog : Program} {w : World} {A : Around} {E : Value → Shared → Prop} {s : Shared} {t : Addr} {us : Array Value} {Q : Value → Shared → Prop} (hT : s.heap.IsTuple t us)
    (h : ∀ g, IsEnum g (s.heap.objs.size + 1) s.heap.objs.size 0 .none → g.IsTupleIter s.heap.objs.size t 0 → (∀ c o, s.heap.get? c = some o → g.get? c = some o) → Q (.ref (s.heap.objs.size + 1)) { s with heap := g }) :
    wpAny (model prog w) A (call (.type "enumerate") [.ref t]) Q E s := by
  obtain ⟨⟨c0, dd, dt, sl⟩, ht, hc, k, hd⟩ := hT
  obtain rfl : c0 = .type "tuple" := hc
  obtain rfl : dt = .seq us k := hd
  refine callType_new F.called_enumerate (by decide) (F.typeCall_enumerate_1 _) (F.newCall_enumerate_1 _) (fun o => F.args_object_init_2 o _) F.entry_enumerate_new (en_new t us k dd sl) ⟨ht, ?_⟩
  generalize e1 : ({ cls := .type "tuple_iterator", data := .fields #[.ref t, .int 0 0] } : Obj) = ob
  have sz : (s.heap.push ob).objs.size = s.heap.objs.size + 1 := Heap.size_push ..
  show _ ∧ _
  rw [sz]
  have he : IsEnum ((s.heap.push ob).push { cls := .type "enumerate", data := .fields #[.none, .bool false, .ref s.heap.objs.size, rawInt 0, .none, .none] }) (s.heap.objs.size + 1) s.heap.objs.size 0 .none := by
    have z := Heap.get?_push_size (s.heap.push ob) (o := { cls := .type "enumerate", data := .fields #[.none, .bool false, .ref s.heap.objs.size, rawInt 0, .none, .none] }) rfl
    rw [sz] at z
    exact z
  refine ⟨⟨_, he, rfl⟩, h _ he ⟨ob, Heap.get?_push_of_some _ (Heap.get?_push_size _ (by subst e1; rfl)), by subst e1; rfl, by subst e1; rfl⟩ fun c o x => Heap.get?_push_of_some _ (Heap.get?_push_of_some _ x)⟩
def ItE (K : PySem.W.Frag) (a : Addr) : It where
  go := fun i H => ∃ (xs : List V) (x : V), SqT K H a xs ∧ xs[i]? = some x
  yld := fun i H v H' => ∃ T x, v = .ref T ∧ H T = none ∧ H' = upd H T (.tup [.int (i : Nat), x]) ∧ ∀ xs, SqT K H a xs → xs[i]? = some x
  stop := fun i H => ∃ xs : List V, SqT K H a xs ∧ xs.length = i
theorem turn_E {P : Program} {w : World} {K : PySem.W.Frag} {es : List Expr} {kk : Nat} {tp : Pos} (a e it : Addr) (n1 : e ≠ it) (n2 : a ≠ it) (n3 : e ≠ a) :
    Turn P w K (.Tuple es kk tp) (ItE K a) [e, it] e (fun i h => (∃ old, IsEnum h e it ((i : Nat) : Int) old) ∧ h.IsTupleIter it a i) where
  mem := List.mem_cons_self ..
  obj := fun i h st c hc => by
    obtain ⟨⟨old, he⟩, o, ho, _, hd⟩ := st
    rcases List.mem_cons.mp hc with z | z
    · subst z
      exact ⟨_, he, fun v q => nomatch q⟩
    · rw [List.mem_singleton.mp z]
      exact ⟨o, ho, fun v q => by rw [hd] at q; cases q⟩
  keep := fun i h h' st k => ⟨let ⟨old, he⟩ := st.1; ⟨old, k e (by simp) _ he⟩, st.2.at fun o q => k it (by simp) o q⟩
  item := by
    intro X hP hw hK hc i pins s σ H E I hf st hg
    subst hP hw hK
    obtain ⟨⟨old, he⟩, hit⟩ := st
    obtain ⟨xs, x, hq, hx⟩ := hg
    obtain ⟨us, rv, p, _⟩ := I.tuple hq
    obtain ⟨u, hu, ru⟩ := rv.get hx
    have l1 : e < s.heap.objs.size := Heap.lt_size he
    have l2 : it < s.heap.objs.size := let ⟨_, q, _⟩ := hit; Heap.lt_size q
    have il : i < us.toArray.size := by
      rw [List.size_toArray]
      exact (List.getElem?_eq_some_iff.mp hu).1
    refine wpAny_pyNext_enum_itemD (Draws.tuple (A := X.A.in1) (I.ok.hd hc) it a n2 us.toArray) he ⟨hit, p⟩ il n1 (by simp [n1, n3]) fun y g tk hy ho hs hT _ hk => ?_
    obtain rfl : u = y := by
      rw [List.getElem?_toArray, hu] at hy
      exact Option.some.inj hy
    refine ⟨_, rfl, wpAny_letOwnedTupleGo_enum (s := { s with heap := g, toks := tk + 1 }) ho fun g2 he2 sb => ?_⟩
    have hT2 := (sb.2 _ (Nat.ne_of_gt l1)).trans hT
    have ok : ObjOk X.prog X.w (upd H s.heap.objs.size (.tup [.int (i : Nat), x])) g2 s.heap.objs.size (.tup [.int (i : Nat), x]) :=
      ⟨by show 2 ≤ sizeLine; decide, [.int i tk, u], .cons ⟨_, rfl⟩ (.cons ru .nil), ⟨_, hT2, rfl, _, rfl⟩⟩
    have J : Inv X pins σ (upd H s.heap.objs.size (.tup [.int (i : Nat), x])) { s with heap := g2, toks := tk + 1 } :=
      I.turnedNew (ch := [e, it]) (fun c ob hb q => by
        rw [List.mem_cons, List.mem_singleton, not_or] at hb
        exact (sb.2 c hb.1).trans (hk c ob hb.1 hb.2 q)) hf (Nat.le_refl _) ok
    refine ⟨.ref s.heap.objs.size, _, J, rfl, ⟨_, x, rfl, I.hok.fresh (Nat.le_refl _), rfl, fun ys hy => ?_⟩, ⟨⟨u, ?_⟩, hs.1.at fun o q => (sb.2 it n1.symm).trans q⟩, fun c hc => ?_⟩
    · rw [I.tuple_inj hy hq]
      exact hx
    · rw [show ((i + 1 : Nat) : Int) = (i : Int) + 1 by omega]
      exact he2
    · have lc : c < s.heap.objs.size := by
        rcases List.mem_cons.mp hc with z | z
        · rw [z]; exact l1
        · rw [List.mem_singleton.mp z]; exact l2
      rw [upd_ne (Nat.ne_of_lt lc)]
      exact (hf c hc).1
  done := by
    intro X hP hw hK hc i pins s σ H E I hf st hg
    subst hP hw hK
    obtain ⟨⟨old, he⟩, hit⟩ := st
    obtain ⟨xs, hq, hx⟩ := hg
    obtain ⟨us, rv, p, _⟩ := I.tuple hq
    obtain ⟨f0, f1, f2, f3, f4, f5⟩ := hf it (by simp)
    have ln : i = us.toArray.size := by
      rw [List.size_toArray, ← rv.length]
      exact hx.symm
    subst ln
    exact wpAny_pyNext_enum_endD (Draws.tuple (A := X.A.in1) (I.ok.hd hc) it a n2 us.toArray) he ⟨hit, p⟩ fun g eb => ⟨rfl, I.turned (t' := s.toks) (fun c o hb q => eb c o hb q) f0 f1 f3 f4 f5⟩
  self := fun A i s Q E st h => let ⟨⟨_, he⟩, _⟩ := st; wpAny_pyIter_enum he h
def iEnumX (K : PySem.W.Frag) (ta : TA) : TI := fun σ H R => ta σ H fun vs H1 => ∃ a xs, vs = [.ref a] ∧ ((SqL K H1 a xs ∧ R (Ite K a) H1) ∨ (SqT K H1 a xs ∧ R (ItE K a) H1))
theorem pi_enumX {X : Cx} {e : Expr} {ta : TA} {p pos tp : Pos} {es : List Expr} {kk : Nat} (hg : Gl X "enumerate") (hm : X.mg "enumerate" = none) (ha : PA X [e] ta) (hs : starEach [e] X.env = [(false, eval e X.env)] := by rfl) :
    PI X (.Tuple es kk tp) (.Call (.Name "enumerate" p) [e] [] pos) (iEnumX X.K ta) := by
  refine ⟨fun pins s σ H R I h => Call_ (ld_blt I hg hm boot_enumerate (PyProof.Rows.callWith_type1 (thn (ha.run pos pins s σ H _ I h) fun us s1 ⟨vs, H1, I1, r1, a, xs, ex, q⟩ => ?_) hs rfl))⟩
  subst ex
  cases r1 with
  | cons r rr =>
  cases rr
  cases r
  have fp : ∀ c ∈ [s1.heap.objs.size + 1, s1.heap.objs.size], FpOk X pins H1 c := fun c hc => by
    have le : s1.heap.objs.size ≤ c := by
      rcases List.mem_cons.mp hc with z | z
      · rw [z]; exact Nat.le_add_right _ 1
      · rw [List.mem_singleton.mp z]; exact Nat.le_refl _
    exact I1.fpOk le (I1.hok.fresh le)
  rcases q with ⟨hq, q⟩ | ⟨hq, q⟩
  · obtain ⟨is, _, m1, _⟩ := I1.list hq
    refine call_enumerate_list m1.isList fun g he hit _ hk => wpAny_pyIter_enum he ⟨_, _, _, _, H1, rfl, I1.kept (t' := s1.toks) hk, turn_enum a (s1.heap.objs.size + 1) s1.heap.objs.size, ⟨⟨.none, he⟩, hit, Nat.succ_ne_self _⟩, fp, q⟩
  · obtain ⟨is, _, m1, _⟩ := I1.tuple hq
    have la : a < s1.heap.objs.size := let ⟨_, e, _⟩ := id m1; Heap.lt_size e
    refine call_en (show s1.heap.IsTuple a is.toArray from m1) fun g he hit hk => wpAny_pyIter_enum he ⟨_, _, _, _, H1, rfl, I1.kept (t' := s1.toks) hk,
      turn_E a (s1.heap.objs.size + 1) s1.heap.objs.size (Nat.succ_ne_self _) (Nat.ne_of_lt la) (Nat.ne_of_gt (Nat.lt_succ_of_lt la)), ⟨⟨.none, he⟩, hit⟩, fp, q⟩
theorem walk_E {K : PySem.W.Frag} {a : Addr} {xs : List V} : Walk (ItE K a) xs.length (fun H => SqT K H a xs) (YPair (fun i => some (.int (i : Nat))) (fun i => xs[i]?)) :=
  ⟨fun i _ hi q => ⟨xs, xs[i], q, List.getElem?_eq_getElem _⟩, fun _ q => ⟨xs, q, rfl⟩, fun i H v H' _ q ⟨T, x, g1, g2, g3, g4⟩ => ⟨T, .int (i : Nat), x, g1, g2, g3, rfl, g4 xs q⟩⟩
def iSeq (K : PySem.W.Frag) (tl : TE) : TI := fun σ H R => tl σ H fun x H1 => ∃ a, x = .ref a ∧ (((∃ xs, SqL K H1 a xs) ∧ R (Itl K a) H1) ∨ ((∃ xs, SqT K H1 a xs) ∧ R (Itt K a) H1))
theorem pi_seq {X : Cx} {tg l : Expr} {tl : TE} (hl : PE X l tl) : PI X tg l (iSeq X.K tl) := by
  refine ⟨fun pins s σ H R I h => thn (hl.run pins s σ H _ I h) fun v s1 ⟨x, H1, I1, r1, a, e, q⟩ => ?_⟩
  subst e
  cases r1
  have fp : ∀ c ∈ [s1.heap.objs.size], FpOk X pins H1 c := fun c hc => by
    rw [List.mem_singleton.mp hc]
    exact I1.fpOk (Nat.le_refl _) (I1.hok.fresh (Nat.le_refl _))
  rcases q with ⟨⟨xs, hq⟩, q⟩ | ⟨⟨xs, hq⟩, q⟩
  · obtain ⟨is, _, m1, _⟩ := I1.list hq
    exact wpAny_pyIter_list m1.isList ⟨_, _, _, _, H1, rfl, I1.kept (t' := s1.toks) fun c o e => Heap.get?_push_of_some _ e, turn_list a _, ⟨_, Heap.get?_push_size _ rfl, rfl, rfl⟩, fp, q⟩
  · obtain ⟨is, _, m1, _⟩ := I1.tuple hq
    exact wpAny_pyIter_tuple (show s1.heap.IsTuple a is.toArray from m1) ⟨_, _, _, _, H1, rfl, I1.kept (t' := s1.toks) fun c o e => Heap.get?_push_of_some _ e, turn_tuple a _, ⟨_, Heap.get?_push_size _ rfl, rfl, rfl⟩, fp, q⟩
def iZipX (K : PySem.W.Frag) (ta : TA) : TI := fun σ H R => ta σ H fun vs H1 => ∃ a b xs ys, vs = [.ref a, .ref b] ∧ ((SqL K H1 a xs ∧ SqL K H1 b ys ∧ R (Itz K a b) H1) ∨ (SqT K H1 a xs ∧ SqT K H1 b ys ∧ R (RZ.ItzT K a b) H1) ∨ (SqT K H1 a xs ∧ SqL K H1 b ys ∧ R (Zq.ItM K a b) H1) ∨ (SqL K H1 a xs ∧ SqT K H1 b ys ∧ R (Zq.ItU K a b) H1))
theorem pi_zipX {X : Cx} {e e' : Expr} {ta : TA} {p pos tp : Pos} {es : List Expr} {kk : Nat} (hg : Gl X "zip") (hm : X.mg "zip" = none) (ha : PA X [e, e'] ta)
    (hs : starEach [e, e'] X.env = (false, eval e X.env) :: starEach [e'] X.env := by rfl) (hp : (backTo pos (starEach [e'] X.env)).any (·.1) = false := by rfl) : PI X (.Tuple es kk tp) (.Call (.Name "zip" p) [e, e'] [] pos) (iZipX X.K ta) := by
  refine ⟨fun pins s σ H R I h => Call_ (ld_blt I hg hm PyProof.Rows.boot_zip (PyProof.Rows.callWith_type1 (thn (ha.run pos pins s σ H _ I h) fun us s1 ⟨vs, H1, I1, r1, a, b, xs, ys, ex, q⟩ => ?_) hs hp))⟩
  subst ex
  cases r1 with
  | cons ra rr =>
  cases rr with
  | cons rb rr =>
  cases rr
  cases ra
  cases rb
  have fp : ∀ c ∈ [s1.heap.objs.size + 4, s1.heap.objs.size + 2, s1.heap.objs.size + 3, s1.heap.objs.size, s1.heap.objs.size + 1], FpOk X pins H1 c := fun c hc => by
    have le : s1.heap.objs.size ≤ c := by
      simp only [List.mem_cons, List.not_mem_nil, or_false] at hc
      omega
    exact I1.fpOk le (I1.hok.fresh le)
  rcases q with ⟨qx, qy, q⟩ | ⟨qx, qy, q⟩ | ⟨qx, qy, q⟩ | ⟨qx, qy, q⟩
  · obtain ⟨is, _, m1, _⟩ := I1.list qx
    obtain ⟨js, _, m2, _⟩ := I1.list qy
    exact call_zip_2 m1.isList m2.isList fun g z0 S0 T0 f1 f2 _ k => wpAny_pyIter_zip z0 ⟨_, _, _, _, H1, rfl, I1.kept (t' := s1.toks) k, turn_zip (PySem.W.ktu_apart s1.heap.objs.size a b m1.lt m2.lt), ⟨z0, S0, ⟨_, _, T0⟩, f1, f2⟩, fp, q⟩
  · obtain ⟨is, _, m1, _⟩ := I1.tuple qx
    obtain ⟨js, _, m2, _⟩ := I1.tuple qy
    have la : a < s1.heap.objs.size := let ⟨_, e, _⟩ := id m1; Heap.lt_size e
    have lb : b < s1.heap.objs.size := let ⟨_, e, _⟩ := id m2; Heap.lt_size e
    exact RZ.call_zipT (show s1.heap.IsTuple a is.toArray from m1) (show s1.heap.IsTuple b js.toArray from m2) fun g z0 S0 T0 f1 f2 _ k => wpAny_pyIter_zip z0 ⟨_, _, _, _, H1, rfl, I1.kept (t' := s1.toks) k, RZ.turn_zipT (PySem.W.ktu_apart s1.heap.objs.size a b la lb), ⟨z0, S0, ⟨_, _, T0⟩, f1, f2⟩, fp, q⟩
  · obtain ⟨is, _, m1, _⟩ := I1.tuple qx
    obtain ⟨js, _, m2, _⟩ := I1.list qy
    have la : a < s1.heap.objs.size := let ⟨_, e, _⟩ := id m1; Heap.lt_size e
    exact Zq.call_zq (show s1.heap.IsTuple a is.toArray from m1) m2.isList fun g z0 S0 T0 f1 f2 k => wpAny_pyIter_zip z0 ⟨_, _, _, _, H1, rfl, I1.kept (t' := s1.toks) k, Zq.turn_M (PySem.W.ktu_apart s1.heap.objs.size a b la m2.lt), ⟨z0, S0, ⟨_, _, T0⟩, f1, f2⟩, fp, q⟩
  · obtain ⟨is, _, m1, _⟩ := I1.list qx
    obtain ⟨js, _, m2, _⟩ := I1.tuple qy
    have lb : b < s1.heap.objs.size := let ⟨_, e, _⟩ := id m2; Heap.lt_size e
    exact Zq.call_zu m1.isList (show s1.heap.IsTuple b js.toArray from m2) fun g z0 S0 T0 f1 f2 k => wpAny_pyIter_zip z0 ⟨_, _, _, _, H1, rfl, I1.kept (t' := s1.toks) k, Zq.turn_U (PySem.W.ktu_apart s1.heap.objs.size a b m1.lt lb), ⟨z0, S0, ⟨_, _, T0⟩, f1, f2⟩, fp, q⟩
theorem walk_zT {K : PySem.W.Frag} {a b : Addr} {xs ys : List V} {n : Nat} (hn : n = min xs.length ys.length) : Walk (RZ.ItzT K a b) n (fun H => SqT K H a xs ∧ SqT K H b ys) (YPair (fun i => xs[i]?) (fun i => ys[i]?)) := by
  subst hn
  refine ⟨fun i _ hi q => ⟨xs, ys, xs[i]'(by omega), ys[i]'(by omega), q.1, q.2, List.getElem?_eq_getElem _, List.getElem?_eq_getElem _⟩, fun _ q => ⟨xs, ys, q.1, q.2, by omega⟩, fun i H v H' _ q ⟨T, x, z, g1, g2, g3, g4, g5⟩ => ⟨T, x, z, g1, g2, g3, g4 xs q.1, g5 ys q.2⟩⟩
theorem sl_or {X : Cx} {r1 r2 : V → Option Int → Option Int → Hp → VK → Prop} (a : SlR X r1) (b : SlR X r2) : SlR X (fun x lo hi H Q => r1 x lo hi H Q ∨ r2 x lo hi H Q) :=
  fun pins s σ H x v vl vu lo hi sl Q I rx hs pl pu h => h.elim (a pins s σ H x v vl vu lo hi sl Q I rx hs pl pu) (b pins s σ H x v vl vu lo hi sl Q I rx hs pl pu)
end Pw
namespace Dv
open PySem PySem.Spec PyProof.Rows L2 Xg
open Classical
section
variable {K : PySem.W.Frag} {md : Bool} {ta tb te : TE} {ca cb c : Nat} {fa fb fe : FE}
abbrev aNil : FA := fun _ Q => Q []
abbrev aCons (f : FE) (g : FA) : FA := fun ρ Q => f ρ fun d => g ρ fun as => Q (.dt d :: as)
abbrev aBox (i : Nat) (g : FA) : FA := fun ρ Q => match ρ[i]? with
  | some .box => g ρ fun as => Q (.box :: as)
  | _ => False
theorem ArgR.step {b : Option Addr} {S : Addr → Prop} {H H' : Hp} {v : V} {s : Sl} (h : ArgR K b S H v s) (st : Stp K b H H') (bs : ∀ p, b = some p → S p) : ArgR K b S H' v s := by
  cases s with
  | dt d => exact Da.mono (st.rm bs) h
  | box => exact h
  | scr ns =>
    obtain ⟨p, e, g⟩ := h
    exact ⟨p, e, Evl.ex_l (st.rm bs) g⟩
  | op g => exact TbO.mono (st.rm bs) h
  | fn k ds => exact LamV.mono (st.rm bs) h
  | exc k ds => exact h.elim
  | dct k => exact h.elim
  | dck k => exact DcO.mono (st.rm bs) h
  | frt k => exact h.elim
  | no => exact h.elim
  | own _ => exact h.elim
theorem snda_nil : SndA K tNil 0 aNil := ⟨fun ρ P P' h g => h _ g, fun E hm hf k => k _ _ _ hf Stp.refl E.bx .nil⟩
variable {tr : TA} {fr : FA} {cr n : Nat}
theorem snda_cons (a : Snd true K ta ca fa) (r : SndA K tr cr fr) : SndA K (tCons ta tr) (ca + cr) (aCons fa fr) :=
  ⟨fun ρ P P' h g => a.mono _ _ _ (fun d => r.mono _ _ _ fun ds => h _) g, fun E hm hf k => a.go E (by omega) hf fun d v H1 h1 s1 b1 d1 =>
    r.go (E.step s1 b1) (by omega) h1 fun ds vs H2 h2 s2 b2 d2 => k _ _ _ h2 (s1.trans s2) (b2.le (by omega)) (.cons (Da.mono (s2.rm E.bs) d1) d2)⟩
theorem snda_box {i : Nat} (r : SndA K tr cr fr) : SndA K (tCons (tVar i) tr) cr (aBox i fr) :=
  ⟨fun ρ P P' h g => by
      unfold aBox at g ⊢
      split at g
      · exact r.mono _ _ _ (fun ds => h _) g
      · exact g.elim,
   fun {b S m σ H ρ Q P} E hm hf k => by
      unfold aBox at hf
      split at hf
      · rename_i e
        obtain ⟨p, e1, e2⟩ := E.sl i _ e
        exact ⟨.ref p, e1, r.go E hm hf fun ds vs H2 h2 s2 b2 d2 => k _ _ _ h2 s2 b2 (.cons ⟨p, rfl, e2⟩ d2)⟩
      · exact hf.elim⟩
abbrev FF := List Sl → (PyData → Prop) → Prop
abbrev FFL := List Sl → (List PyData → Prop) → Prop
def spD (K : PySem.W.Frag) (c : Nat) (F : FF) : Sp := fun vs H Q _ => ∃ (b : Option Addr) (S : Addr → Prop) (m : Nat) (as : List Sl), ArgL K b S H vs as ∧ BxO b H m ∧ (∀ p, b = some p → S p) ∧ (Al S H ∧ Tbs K H) ∧ m + c ≤ LIM ∧
  F as (fun d => ∀ v H', Stp K b H H' → BxO b H' (m + c) → Da K (rm H' S) v d → Q v H')
def spL (K : PySem.W.Frag) (c : Nat) (F : FFL) : Sp := fun vs H Q _ => ∃ (b : Option Addr) (S : Addr → Prop) (m : Nat) (as : List Sl), ArgL K b S H vs as ∧ BxO b H m ∧ (∀ p, b = some p → S p) ∧ (Al S H ∧ Tbs K H) ∧ m + c ≤ LIM ∧
  F as (fun ds => ∀ vs p H', H p = none → Stp K b H H' → BxO b H' (m + c) → H' p = some (.lst vs) → DaL K (rm H' fun a => S a ∨ a = p) vs ds → Q (.ref p) H')
def MonoF (F : FF) : Prop := ∀ as (P P' : PyData → Prop), (∀ d, P d → P' d) → F as P → F as P'
abbrev eCall (F : FF) (fr : FA) : FE := fun ρ Q => fr ρ fun as => F as Q
theorem snd_call {F : FF} (mF : MonoF F) (r : SndA K tr cr fr) : Snd true K (tCallG (spD K c F) tr) (cr + c) (eCall F fr) := mk_snd
  (fun ρ P P' h g => r.mono _ _ _ (fun as => mF as _ _ h) g)
  (fun {b S m σ H ρ Q P} E hm hf k => r.go E (by omega) hf fun as vs H1 h1 s1 b1 d1 => ⟨b, S, m + cr, as, d1, b1, E.bs, ⟨(E.step s1 b1).al, (E.step s1 b1).tb⟩, by omega,
    mF _ _ _ (fun d p v H' s2 b2 d2 => k _ _ _ p (s1.trans s2) (b2.le (by omega)) d2) h1⟩)
abbrev eCallF (F : FF) (fd : FD) : FE := fun ρ Q => fd ρ fun ds => F (ds.map Sl.dt) fun d => flat d = true ∧ Q d
theorem VwL.args {b : Option Addr} {S : Addr → Prop} {H : Hp} (bs : ∀ p, b = some p → S p) : ∀ {vs : List V} {ds : List PyData}, VwL md K b S H vs ds → ArgL K b (fun a => b = some a) H vs (ds.map Sl.dt)
  | _, _, .nil => .nil
  | v :: vs, d :: ds, .cons h g => .cons (show Da K (rm H fun a => b = some a) v d from by
      cases h.vw with
      | st h1 => exact h1.mono (rm_sub bs)
      | ow n h1 g1 => exact .lst (rm_in n h1) (g1.mono (rm_sub bs))) (VwL.args bs g)
theorem snd_callF {F : FF} {tr : TA} {fd : FD} (mF : MonoF F) (r : SndD md K tr n cr fd) : Snd true K (tCallG (spD K c F) tr) (cr + c) (eCallF F fd) := mk_snd
  (fun ρ P P' h g => r.mono _ _ _ (fun as => mF _ _ _ fun d z => ⟨z.1, h _ z.2⟩) g)
  (fun {b S m σ H ρ Q P} E hm hf k => r.go E (by omega) hf fun as vs H1 h1 l s1 b1 d1 => ⟨b, fun a => b = some a, m + cr, _, d1.args E.bs, b1, fun p e => e, ⟨fun a e => (E.step s1 b1).al a (E.bs a e), (E.step s1 b1).tb⟩, by omega,
    mF _ _ _ (fun d p v H' s2 b2 d2 => k _ _ _ p.2 (s1.trans s2) (b2.le (by omega)) (Da.flat d2 p.1)) h1⟩)
abbrev FG := PyData → List Sl → (List Sl → Prop) → Prop
abbrev FGs := List PyData → List Sl → (List Sl → Prop) → Prop
structure Kpt (vs : List Nat) (σ σ' : L2.St) (ρ ρ' : List Sl) : Prop where
  sg : wipe σ' vs = wipe σ vs
  own : ∀ (i : Nat) (s : Sl), ρ'[i]? = some s → isOw s = true → ρ[i]? = some s ∧ σ'[i]? = σ[i]?
theorem Kpt.refl {vs : List Nat} {σ : L2.St} {ρ : List Sl} : Kpt vs σ σ ρ ρ := ⟨rfl, fun i ds h _ => ⟨h, rfl⟩⟩
theorem Kpt.trans {vs : List Nat} {σ σ1 σ2 : L2.St} {ρ ρ1 ρ2 : List Sl} (h : Kpt vs σ σ1 ρ ρ1) (g : Kpt vs σ1 σ2 ρ1 ρ2) : Kpt vs σ σ2 ρ ρ2 :=
  ⟨g.sg.trans h.sg, fun i ds e o => let ⟨e1, e2⟩ := g.own i ds e o; let ⟨e3, e4⟩ := h.own i ds e1 o; ⟨e3, e2.trans e4⟩⟩
theorem wipe_set {x : Option V} {i : Nat} : ∀ {vs : List Nat} {σ : L2.St}, i ∈ vs → wipe (σ.set i x) vs = wipe σ vs
  | v :: vs, σ, h => by
    unfold wipe
    by_cases e : i ∈ vs
    · rw [wipe_set e]
    · have z : i = v := (List.mem_cons.mp h).resolve_right e
      subst z
      have q : ∀ {vs : List Nat} {σ : L2.St}, i ∉ vs → wipe (σ.set i x) vs = (wipe σ vs).set i x := by
        intro vs
        induction vs with
        | nil => intro σ _; rfl
        | cons v vs ih =>
          intro σ hn
          rw [List.mem_cons, not_or] at hn
          unfold wipe
          rw [ih hn.2, List.set_comm _ _ hn.1]
      rw [q e, List.set_set]
theorem wipe_get : ∀ {vs : List Nat} {σ : L2.St} {i : Nat}, (wipe σ vs)[i]? = if i ∈ vs then σ[i]?.map (fun _ => none) else σ[i]?
  | [], σ, i => by simp [wipe]
  | v :: vs, σ, i => by
    unfold wipe
    rw [List.getElem?_set, wipe_length, wipe_get (vs := vs)]
    by_cases e : v = i
    · subst e
      rw [if_pos rfl, if_pos (List.mem_cons_self ..)]
      split
      · rename_i l
        rw [List.getElem?_eq_getElem l]
        rfl
      · rename_i l
        rw [List.getElem?_eq_none (by omega)]
        rfl
    · rw [if_neg e]
      by_cases q : i ∈ vs
      · rw [if_pos q, if_pos (List.mem_cons_of_mem _ q)]
      · rw [if_neg q, if_neg (by rw [List.mem_cons, not_or]; exact ⟨fun z => e z.symm, q⟩)]
theorem wipe_wipe {vs : List Nat} {σ : L2.St} : wipe (wipe σ vs) vs = wipe σ vs := List.ext_getElem? fun i => by
  rw [wipe_get, wipe_get]
  by_cases q : i ∈ vs
  · rw [if_pos q, if_pos q]
    cases σ[i]? <;> rfl
  · rw [if_neg q, if_neg q]
structure SndG (K : PySem.W.Frag) (g : TG) (vs : List Nat) (f : FG) : Prop where
  mono : ∀ d (ρ : List Sl) (P P' : List Sl → Prop), (∀ d, P d → P' d) → f d ρ P → f d ρ P'
  go : ∀ {b : Option Addr} {S : Addr → Prop} {m : Nat} {σ : L2.St} {H : Hp} {ρ : List Sl} {Q : L2.St → Hp → Prop} {P : List Sl → Prop} {v : V} {d : PyData}, DEnv K b S m H σ ρ → Da K (rm H S) v d → f d ρ P →
    (∀ ρ' σ', P ρ' → DEnv K b S m H σ' ρ' → Kpt vs σ σ' ρ ρ' → Q σ' H) → g v σ H Q
structure SndGs (K : PySem.W.Frag) (g : TGs) (vs : List Nat) (f : FGs) : Prop where
  mono : ∀ d (ρ : List Sl) (P P' : List Sl → Prop), (∀ d, P d → P' d) → f d ρ P → f d ρ P'
  go : ∀ {b : Option Addr} {S : Addr → Prop} {m : Nat} {σ : L2.St} {H : Hp} {ρ : List Sl} {Q : L2.St → Hp → Prop} {P : List Sl → Prop} {us : List V} {ds : List PyData}, DEnv K b S m H σ ρ → DaL K (rm H S) us ds → f ds ρ P →
    (∀ ρ' σ', P ρ' → DEnv K b S m H σ' ρ' → Kpt vs σ σ' ρ ρ' → Q σ' H) → g us σ H Q
theorem DEnv.set {b : Option Addr} {S : Addr → Prop} {m : Nat} {σ : L2.St} {H : Hp} {ρ : List Sl} {i : Nat} {v : V} {s : Sl} (E : DEnv K b S m H σ ρ) (h : ∀ x, x = some (some v) → SlR K b S H x s) : DEnv K b S m H (σ.set i (some v)) (ρ.set i s) :=
  ⟨by rw [List.length_set, List.length_set, E.len], fun j t e => by
    rw [List.getElem?_set] at e
    rw [List.getElem?_set]
    by_cases z : i = j
    · rw [if_pos z] at e ⊢
      rw [E.len]
      split at e
      · rename_i l
        cases e
        rw [if_pos l]
        exact h _ rfl
      · cases e
    · rw [if_neg z] at e ⊢
      exact E.sl j t e, E.bx, E.bs, E.al, E.tb⟩
abbrev gN (i : Nat) : FG := fun d ρ Q => Q (ρ.set i (.dt d))
theorem kpt_set {vs : List Nat} {σ : L2.St} {ρ : List Sl} {i : Nat} {v : V} {d : PyData} (hi : i ∈ vs) : Kpt vs σ (σ.set i (some v)) ρ (ρ.set i (.dt d)) :=
  ⟨wipe_set hi, fun j ds e o => by
    rw [List.getElem?_set] at e
    by_cases z : i = j
    · rw [if_pos z] at e
      split at e
      · cases e
        exact absurd o Bool.false_ne_true
      · cases e
    · rw [if_neg z] at e
      exact ⟨e, by rw [List.getElem?_set, if_neg z]⟩⟩
theorem sndg_name {i : Nat} {vs : List Nat} (hi : i ∈ vs) : SndG K (gName i) vs (gN i) :=
  ⟨fun d ρ P P' h g => h _ g, fun E hd hf k => k _ _ hf (E.set fun x e => ⟨_, e, hd⟩) (kpt_set hi)⟩
abbrev gsNil : FGs := fun ds ρ Q => match ds with
  | [] => Q ρ
  | _ => False
abbrev gsCons (f : FG) (g : FGs) : FGs := fun ds ρ Q => match ds with
  | d :: r => f d ρ fun ρ' => g r ρ' Q
  | [] => False
theorem sndgs_nil {vs : List Nat} : SndGs K gNil vs gsNil := ⟨fun d ρ P P' h g => by
    cases d with
    | nil => exact h _ g
    | cons => exact g.elim, fun E hd hf k => by
    cases hd with
    | nil => exact ⟨rfl, k _ _ hf E Kpt.refl⟩
    | cons _ _ => exact hf.elim⟩
theorem sndgs_cons {vs : List Nat} {g : TG} {u : TGs} {f : FG} {fu : FGs} (a : SndG K g vs f) (r : SndGs K u vs fu) : SndGs K (gCons g u) vs (gsCons f fu) := ⟨fun d ρ P P' h g => by
    cases d with
    | nil => exact g.elim
    | cons => exact a.mono _ _ _ _ (fun ρ' => r.mono _ _ _ _ h) g, fun E hd hf k => by
    cases hd with
    | nil => exact hf.elim
    | cons h1 h2 => exact ⟨_, _, rfl, a.go E h1 hf fun ρ1 σ1 p1 E1 k1 => r.go E1 h2 p1 fun ρ2 σ2 p2 E2 k2 => k _ _ p2 E2 (k1.trans k2)⟩⟩
abbrev gT (g : FGs) : FG := fun d ρ Q => match d with
  | .tuple ds => g ds ρ Q
  | .list ds => g ds ρ Q
  | _ => False
theorem sndg_tup {vs : List Nat} {k : Nat} {u : TGs} {fu : FGs} (r : SndGs K u vs fu) (hn : ∀ ds ρ P, fu ds ρ P → ds.length = k) : SndG K (fun v σ H Q => gTup K k u v σ H Q ∨ gLst K k u v σ H Q) vs (gT fu) := ⟨fun d ρ P P' h g => by
    cases d <;> first | exact r.mono _ _ _ _ h g | exact g.elim, fun E hd hf q => by
    cases hd with
    | tup h1 h2 => exact .inl ⟨_, _, rfl, .inl (.inl (rm_le _ _ h1)), by rw [h2.len]; exact hn _ _ _ hf, r.go E h2 hf q⟩
    | lst h1 h2 => exact .inr ⟨_, _, rfl, .inl (.inl (rm_le _ _ h1)), by rw [h2.len]; exact hn _ _ _ hf, r.go E h2 hf q⟩
    | _ => exact hf.elim⟩
theorem gs_len0 : ∀ ds ρ P, gsNil ds ρ P → ds.length = 0 := fun ds ρ P h => by
  cases ds with
  | nil => rfl
  | cons => exact h.elim
theorem gs_lenS {f : FG} {g : FGs} {k : Nat} (mf : ∀ d (ρ : List Sl) (P : List Sl → Prop), f d ρ P → ∃ ρ', P ρ') (h : ∀ ds ρ P, g ds ρ P → ds.length = k) : ∀ ds ρ P, gsCons f g ds ρ P → ds.length = k + 1 := fun ds ρ P e => by
  cases ds with
  | nil => exact e.elim
  | cons d r =>
    obtain ⟨ρ', z⟩ := mf _ _ _ e
    rw [List.length_cons, h _ _ _ z]
def KG (K : PySem.W.Frag) (md : Bool) (b : Option Addr) (S : Addr → Prop) (H1 H2 : Hp) : Prop := match md with
  | true => Evl.Ex (rm H1 S) (rm H2 S)
  | false => Stp K b H1 H2
def Wk (md : Bool) (K : PySem.W.Frag) (b : Option Addr) (S : Addr → Prop) (H1 : Hp) (J : It) (ds : List PyData) : Prop :=
  Walk J ds.length (fun H2 => KG K md b S H1 H2) (fun i H v H' => ∀ T, Evl.Ex (rm H1 S) (rm H T) → Al T H → Evl.Ex H H' ∧ ∃ d, ds[i]? = some d ∧ Da K (rm H' T) v d)
theorem KG.ex {b : Option Addr} {S : Addr → Prop} {H1 H2 : Hp} (h : KG K md b S H1 H2) (bs : ∀ p, b = some p → S p) : Evl.Ex (rm H1 S) (rm H2 S) := by
  cases md with
  | true => exact h
  | false => exact Stp.rm h bs
theorem KG.refl {b : Option Addr} {S : Addr → Prop} {H1 : Hp} : KG K md b S H1 H1 := by
  cases md with
  | true => exact Evl.Ex.refl _
  | false => exact Stp.refl
structure SndI (md : Bool) (K : PySem.W.Frag) (wi : TI) (c : Nat) (f : FD) : Prop where
  mono : ∀ (ρ : List Sl) (P P' : List PyData → Prop), (∀ d, P d → P' d) → f ρ P → f ρ P'
  go : ∀ {b : Option Addr} {S : Addr → Prop} {m : Nat} {σ : L2.St} {H : Hp} {ρ : List Sl} {R : It → Hp → Prop} {P : List PyData → Prop}, DEnv K b S m H σ ρ → m + c ≤ LIM → f ρ P →
    (∀ ds J H1, P ds → Stp K b H H1 → BxO b H1 (m + c) → Wk md K b S H1 J ds → R J H1) → wi σ H R
abbrev sq (Q : List PyData → Prop) : PyData → Prop
  | .list ds => Q ds
  | .tuple ds => Q ds
  | _ => False
theorem sq_mono {P P' : List PyData → Prop} (h : ∀ k, P k → P' k) : ∀ d, sq P d → sq P' d := fun d g => by
  cases d <;> first | exact h _ g | exact g.elim
theorem VD.seq {b : Option Addr} {S : Addr → Prop} {H1 : Hp} {Q : List PyData → Prop} {v : V} {d : PyData} (h : VD md K b S H1 v d) (q : sq Q d) (bs : ∀ p, b = some p → S p) :
    ∃ p xs ds, v = .ref p ∧ Q ds ∧ DaL K (rm H1 S) xs ds ∧ ((d = .list ds ∧ ∀ H2, KG K md b S H1 H2 → SqL K H2 p xs) ∨ (d = .tuple ds ∧ ∀ H2, KG K md b S H1 H2 → SqT K H2 p xs)) := by
  have vw := h.vw
  cases d with
  | list ds =>
    cases md with
    | true =>
      cases h with
      | lst h g => exact ⟨_, _, ds, rfl, q, g, .inl ⟨rfl, fun H2 k => .inl (.inl (rm_le _ _ (KG.ex (b := b) k bs _ _ h)))⟩⟩
    | false =>
      cases h with
      | st h =>
        cases h with
        | lst h g => exact ⟨_, _, ds, rfl, q, g, .inl ⟨rfl, fun H2 k => .inl (.inl (rm_le _ _ (KG.ex (b := b) k bs _ _ h)))⟩⟩
      | ow n h g => exact ⟨_, _, ds, rfl, q, g, .inl ⟨rfl, fun H2 k => .inl (.inl (k _ _ n h))⟩⟩
  | tuple ds =>
    have h2 : Da K (rm H1 S) v (.tuple ds) := by
      cases md with
      | true => exact h
      | false =>
        cases h with
        | st h => exact h
    cases h2 with
    | tup h3 g => exact ⟨_, _, ds, rfl, q, g, .inr ⟨rfl, fun H2 k => .inl (.inl (rm_le _ _ (KG.ex (b := b) k bs _ _ h3)))⟩⟩
  | _ => exact q.elim
abbrev fIt (f : FE) : FD := fun ρ Q => f ρ (sq Q)
theorem wk_of {b : Option Addr} {S : Addr → Prop} {H1 : Hp} {J : It} {ds : List PyData} {n : Nat} {G : Hp → Prop} {Y : Nat → Hp → V → Hp → Prop} (w : Walk J n G Y) (hn : n = ds.length) (hG : ∀ H2, KG K md b S H1 H2 → G H2)
    (hY : ∀ i H x H', i < n → Y i H x H' → ∀ T, Evl.Ex (rm H1 S) (rm H T) → Al T H → Evl.Ex H H' ∧ ∃ d, ds[i]? = some d ∧ Da K (rm H' T) x d) : Wk md K b S H1 J ds := by
  subst hn
  exact w.mono hG fun i H x H' hi _ y => hY i H x H' hi y
theorem at_of {S T : Addr → Prop} {H1 H : Hp} {xs : List V} {ds : List PyData} {i : Nat} {x : V} (g : DaL K (rm H1 S) xs ds) (hT : Evl.Ex (rm H1 S) (rm H T)) (e : xs[i]? = some x) : ∃ d, ds[i]? = some d ∧ Da K (rm H T) x d := by
  obtain ⟨d, e1, e2⟩ := g.at' e
  exact ⟨d, e1, e2.mono hT⟩
theorem sndi_seq (a : Snd md K ta ca fa) : SndI md K (Pw.iSeq K ta) ca (fIt fa) := ⟨fun ρ P P' h g => a.mono _ _ _ (sq_mono h) g,
  fun {b S m σ H ρ R P} E hm hf k => a.go E hm hf fun d v H1 p st bx vd => by
    obtain ⟨p1, xs, ds, rfl, q, g, hh⟩ := vd.seq p E.bs
    rcases hh with ⟨_, hL⟩ | ⟨_, hL⟩
    · exact ⟨p1, rfl, .inl ⟨⟨xs, hL _ KG.refl⟩, k ds _ H1 q st bx (wk_of (walk_list (xs := xs)) g.len hL fun i H x H' hi y T hT al => by
        obtain ⟨rfl, e⟩ := y
        exact ⟨Evl.Ex.refl _, at_of g hT e⟩)⟩⟩
    · exact ⟨p1, rfl, .inr ⟨⟨xs, hL _ KG.refl⟩, k ds _ H1 q st bx (wk_of (walk_tup (xs := xs)) g.len hL fun i H x H' hi y T hT al => by
        obtain ⟨rfl, e⟩ := y
        exact ⟨Evl.Ex.refl _, at_of g hT e⟩)⟩⟩⟩
def rangeD (lo : Int) (n : Nat) : List PyData := (List.range n).map fun k => .int (lo + (k : Nat))
abbrev asI (Q : Int → Prop) : PyData → Prop
  | .int i => Q i
  | _ => False
theorem asI_mono {P P' : Int → Prop} (h : ∀ k, P k → P' k) : ∀ d, asI P d → asI P' d := fun d g => by
  cases d <;> first | exact h _ g | exact g.elim
theorem asI_of {b : Option Addr} {S : Addr → Prop} {H : Hp} {Q : Int → Prop} {d : PyData} {v : V} (h : asI Q d) (g : VD md K b S H v d) : ∃ k, v = .int k ∧ Q k := by
  cases d with
  | int k => exact ⟨k, g.vw.int, h⟩
  | _ => exact h.elim
theorem wk_range {b : Option Addr} {S : Addr → Prop} {H1 : Hp} {lo : Int} {n : Nat} : Wk md K b S H1 (Itr lo n) (rangeD lo n) :=
  wk_of (walk_range (lo := lo) (n := n)) (by unfold rangeD; rw [List.length_map, List.length_range]) (fun _ _ => trivial) fun i H x H' hi y T hT al => by
    obtain ⟨rfl, rfl⟩ := y
    refine ⟨Evl.Ex.refl _, .int (lo + (i : Nat)), ?_, .int _⟩
    unfold rangeD
    rw [List.getElem?_map, List.getElem?_range hi]
    rfl
abbrev fRange1 (f : FE) : FD := fun ρ Q => f ρ (asI fun n => (-(2 ^ 62) ≤ n ∧ n < 2 ^ 62) ∧ Q (rangeD 0 n.toNat))
theorem sndi_range1 (a : Snd md K ta ca fa) {md2 : Bool} : SndI md2 K (iRng1 (tCons ta tNil)) ca (fRange1 fa) := ⟨fun ρ P P' h g => a.mono _ _ _ (asI_mono fun n z => ⟨z.1, h _ z.2⟩) g,
  fun {b S m σ H ρ R P} E hm hf k => a.go E hm hf fun d v H1 p st bx vd => by
    obtain ⟨n, rfl, h1, h2⟩ := asI_of p vd
    exact ⟨n, rfl, h1.1, h1.2, k _ _ _ h2 st bx wk_range⟩⟩
def enumD : Nat → List PyData → List PyData
  | _, [] => []
  | k, d :: ds => .tuple [.int k, d] :: enumD (k + 1) ds
theorem enumD_at : ∀ {ds : List PyData} {k i : Nat}, (enumD k ds)[i]? = ds[i]?.map fun d => .tuple [.int ((k + i : Nat) : Int), d]
  | [], k, i => by simp [enumD]
  | d :: ds, k, 0 => by simp [enumD]
  | d :: ds, k, i + 1 => by
    rw [enumD, List.getElem?_cons_succ, List.getElem?_cons_succ, enumD_at (ds := ds), show k + 1 + i = k + (i + 1) by omega]
theorem enumD_len : ∀ {ds : List PyData} {k : Nat}, (enumD k ds).length = ds.length
  | [], _ => rfl
  | d :: ds, k => by rw [enumD, List.length_cons, List.length_cons, enumD_len]
abbrev fEnum (f : FE) : FD := fun ρ Q => f ρ (sq fun ds => Q (enumD 0 ds))
theorem sndi_enum (a : Snd md K ta ca fa) : SndI md K (Pw.iEnumX K (tCons ta tNil)) ca (fEnum fa) := ⟨fun ρ P P' h g => a.mono _ _ _ (sq_mono fun ds => h _) g,
  fun {b S m σ H ρ R P} E hm hf k => a.go E hm hf fun d v H1 p st bx vd => by
    obtain ⟨p1, xs, ds, rfl, q, g, hh⟩ := vd.seq p E.bs
    have turn : ∀ (i : Nat) (H : Hp) (x : V) (H' : Hp), YPair (fun i => some (.int (i : Nat))) (fun i => xs[i]?) i H x H' → ∀ T, Evl.Ex (rm H1 S) (rm H T) → Al T H → Evl.Ex H H' ∧ ∃ d, (enumD 0 ds)[i]? = some d ∧ Da K (rm H' T) x d := fun i H x H' y T hT al => by
      obtain ⟨T, u, w, rfl, nT, rfl, eu, ew⟩ := y
      cases eu
      obtain ⟨d, e1, e2⟩ := at_of g hT ew
      refine ⟨Evl.Ex.new nT, _, ?_, new_tup al nT (.cons (.int _) (.cons e2 .nil))⟩
      rw [enumD_at, e1, Nat.zero_add]
      rfl
    rcases hh with ⟨_, hL⟩ | ⟨_, hL⟩
    · exact ⟨p1, xs, rfl, .inl ⟨hL _ KG.refl, k _ _ H1 q st bx (wk_of (walk_enum (xs := xs)) (by rw [enumD_len, g.len]) hL fun i H x H' hi => turn i H x H')⟩⟩
    · exact ⟨p1, xs, rfl, .inr ⟨hL _ KG.refl, k _ _ H1 q st bx (wk_of (Pw.walk_E (xs := xs)) (by rw [enumD_len, g.len]) hL fun i H x H' hi => turn i H x H')⟩⟩⟩
def zipD (a b : List PyData) : List PyData := List.zipWith (fun x y => .tuple [x, y]) a b
abbrev zipQ (Q : List PyData → Prop) : PyData → PyData → Prop
  | .list a, .list b => Q (zipD a b)
  | .tuple a, .tuple b => Q (zipD a b)
  | .tuple a, .list b => Q (zipD a b)
  | .list a, .tuple b => Q (zipD a b)
  | _, _ => False
theorem zipQ_mono {P P' : List PyData → Prop} (h : ∀ k, P k → P' k) : ∀ x y, zipQ P x y → zipQ P' x y := fun x y g => by
  cases x <;> cases y <;> first | exact h _ g | exact g.elim
abbrev fZip (f g : FE) : FD := fun ρ Q => f ρ fun x => g ρ fun y => zipQ Q x y
theorem sndi_zip (a : Snd md K ta ca fa) (a2 : Snd md K tb cb fb) : SndI md K (Pw.iZipX K (tCons ta (tCons tb tNil))) (ca + cb) (fZip fa fb) := ⟨fun ρ P P' h g => a.mono _ _ _ (fun x => a2.mono _ _ _ fun y => zipQ_mono h x y) g,
  fun {b S m σ H ρ R P} E hm hf k => a.go E (by omega) hf fun dx v H1 p st bx vd => a2.go (E.step st bx) (by omega) p fun dy v2 H2 p2 st2 bx2 vd2 => by
    have vd := vd.step st2 E.bs
    have sx : sq (fun _ => True) dx := by
      cases dx <;> cases dy <;> first | trivial | exact p2.elim
    have sy : sq (fun _ => True) dy := by
      cases dx <;> cases dy <;> first | trivial | exact p2.elim
    obtain ⟨p1, xs, ds, rfl, _, g, hh⟩ := vd.seq sx E.bs
    obtain ⟨q1, ys, es, rfl, _, g2, hh2⟩ := vd2.seq sy E.bs
    have turn : ∀ (i : Nat) (H : Hp) (x : V) (H' : Hp), YPair (fun i => xs[i]?) (fun i => ys[i]?) i H x H' → ∀ T, Evl.Ex (rm H2 S) (rm H T) → Al T H → Evl.Ex H H' ∧ ∃ d, (zipD ds es)[i]? = some d ∧ Da K (rm H' T) x d := fun i H x H' y T hT al => by
      obtain ⟨T, u, w, rfl, nT, rfl, eu, ew⟩ := y
      obtain ⟨d, e1, e2⟩ := at_of g hT eu
      obtain ⟨e, f1, f2⟩ := at_of g2 hT ew
      refine ⟨Evl.Ex.new nT, _, ?_, new_tup al nT (.cons e2 (.cons f2 .nil))⟩
      unfold zipD
      rw [List.getElem?_zipWith, e1, f1]
    have ln : min xs.length ys.length = (zipD ds es).length := by
      unfold zipD
      rw [List.length_zipWith, g.len, g2.len]
    have st3 := st.trans st2
    have bx3 : BxO b H2 (m + (ca + cb)) := bx2.le (by omega)
    rcases hh with ⟨rfl, hL⟩ | ⟨rfl, hL⟩ <;> rcases hh2 with ⟨rfl, hL2⟩ | ⟨rfl, hL2⟩
    · exact ⟨p1, q1, xs, ys, rfl, .inl ⟨hL _ KG.refl, hL2 _ KG.refl, k _ _ H2 p2 st3 bx3 (wk_of (walk_zip (xs := xs) (ys := ys) rfl) ln (fun H3 kg => ⟨hL H3 kg, hL2 H3 kg⟩) fun i H x H' hi => turn i H x H')⟩⟩
    · exact ⟨p1, q1, xs, ys, rfl, .inr (.inr (.inr ⟨hL _ KG.refl, hL2 _ KG.refl, k _ _ H2 p2 st3 bx3 (wk_of (Zq.walk_zipU (xs := xs) (ys := ys) rfl) ln (fun H3 kg => ⟨hL H3 kg, hL2 H3 kg⟩) fun i H x H' hi => turn i H x H')⟩))⟩
    · exact ⟨p1, q1, xs, ys, rfl, .inr (.inr (.inl ⟨hL _ KG.refl, hL2 _ KG.refl, k _ _ H2 p2 st3 bx3 (wk_of (Zq.walk_zipM (xs := xs) (ys := ys) rfl) ln (fun H3 kg => ⟨hL H3 kg, hL2 H3 kg⟩) fun i H x H' hi => turn i H x H')⟩))⟩
    · exact ⟨p1, q1, xs, ys, rfl, .inr (.inl ⟨hL _ KG.refl, hL2 _ KG.refl, k _ _ H2 p2 st3 bx3 (wk_of (Pw.walk_zT (xs := xs) (ys := ys) rfl) ln (fun H3 kg => ⟨hL H3 kg, hL2 H3 kg⟩) fun i H x H' hi => turn i H x H')⟩)⟩⟩
def compD (g : FG) (tt : FT) (te : FE) (ρ : List Sl) : List PyData → List PyData → (List PyData → Prop) → Prop
  | [], acc, Q => Q acc
  | d :: ds, acc, Q => g d ρ fun ρ' => tt ρ' fun k => if k = true then te ρ' fun y => compD g tt te ρ ds (acc ++ [y]) Q else compD g tt te ρ ds acc Q
def wipeD (ρ : List Sl) : List Nat → List Sl
  | [] => ρ
  | v :: vs => (wipeD ρ vs).set v .no
abbrev fYes : FT := fun _ Q => Q true
theorem sndt_yes : SndT K tYes 0 fYes := ⟨fun ρ P P' h g => h _ g, fun E hm hf k => k _ _ hf Stp.refl E.bx⟩
theorem SlR.grow {b : Option Addr} {S T : Addr → Prop} {H H' : Hp} {x : Option (Option V)} {s : Sl} (h : SlR K b S H x s) (e : Evl.Ex (rm H S) (rm H' T)) (sub : ∀ a, S a → T a) (kp : Stp K b H H') : SlR K b T H' x s := by
  cases s with
  | no => trivial
  | dt d => exact let ⟨v, e1, g⟩ := h; ⟨v, e1, g.mono e⟩
  | own ds => exact let ⟨p, vs, e1, s1, n, g, k⟩ := h; ⟨p, vs, e1, sub _ s1, n, kp _ _ n g, k.mono e⟩
  | box => exact h
  | scr ns => exact let ⟨p, e1, g⟩ := h; ⟨p, e1, Evl.ex_l e g⟩
  | op g => exact let ⟨v, e1, g⟩ := h; ⟨v, e1, g.mono e⟩
  | fn k ds => exact let ⟨v, e1, g⟩ := h; ⟨v, e1, g.mono e⟩
  | exc k ds => exact let ⟨v, e1, g⟩ := h; ⟨v, e1, g.mono e⟩
  | dct k => exact let ⟨p, vs, e1, s1, n, g, k⟩ := h; ⟨p, vs, e1, sub _ s1, n, kp _ _ n g, k.mono e⟩
  | dck k => exact let ⟨v, e1, g⟩ := h; ⟨v, e1, g.mono e⟩
  | frt k => exact let ⟨v, e1, g⟩ := h; ⟨v, e1, g.mono e⟩
theorem wipe_at : ∀ {vs : List Nat} {σ : L2.St} {ρ : List Sl} {i : Nat} {s : Sl}, σ.length = ρ.length → (wipeD ρ vs)[i]? = some s → s = .no ∨ (ρ[i]? = some s ∧ (wipe σ vs)[i]? = σ[i]?)
  | [], σ, ρ, i, s, _, h => .inr ⟨h, rfl⟩
  | v :: vs, σ, ρ, i, s, l, h => by
    unfold wipeD at h
    unfold wipe
    rw [List.getElem?_set] at h ⊢
    by_cases e : v = i
    · rw [if_pos e] at h
      split at h
      · cases h
        exact .inl rfl
      · cases h
    · rw [if_neg e] at h ⊢
      exact wipe_at l h
theorem wipeD_len : ∀ {vs : List Nat} {ρ : List Sl}, (wipeD ρ vs).length = ρ.length
  | [], _ => rfl
  | v :: vs, ρ => by unfold wipeD; rw [List.length_set, wipeD_len]
theorem DEnv.wipe {b : Option Addr} {S : Addr → Prop} {m : Nat} {H : Hp} {σ : L2.St} {ρ : List Sl} {vs : List Nat} (E : DEnv K b S m H σ ρ) : DEnv K b S m H (L2.wipe σ vs) (wipeD ρ vs) :=
  ⟨by rw [wipe_length, wipeD_len, E.len], fun i s e => by
    rcases wipe_at E.len e with rfl | ⟨e1, e2⟩
    · trivial
    · rw [e2]
      exact E.sl i s e1, E.bx, E.bs, E.al, E.tb⟩
theorem DEnv.hold {b : Option Addr} {S : Addr → Prop} {m n : Nat} {H H' : Hp} {σ : L2.St} {ρ : List Sl} {D : Addr} (E : DEnv K b S m H σ ρ) (nD : H D = none) (st : Stp K b H H') (bx : BxO b H' n) (hD : ∃ o, H' D = some o ∧ isTp o = false) : DEnv K b (fun a => S a ∨ a = D) n H' σ ρ := by
  have ex : Evl.Ex (rm H S) (rm H' fun a => S a ∨ a = D) := fun a o h => by
    obtain ⟨n1, h1⟩ := rm_some h
    have ne : a ≠ D := fun z => by rw [z, nD] at h1; cases h1
    exact rm_in (fun z => z.elim n1 ne) ((st a o (fun z => n1 (E.bs a z)) h1).eq (rm_nt h)) (rm_nt h)
  exact ⟨E.len, fun i s e => (E.sl i s e).grow ex (fun a h => .inl h) st, bx, fun p e => .inl (E.bs p e), fun a h => by
    rcases h with h | rfl
    · exact E.al.step st bx a h
    · exact hD, E.tb.step E.bx st⟩
theorem stp_new {b : Option Addr} {H H' : Hp} {p : Addr} {o : HO} {xs : List V} (st : Stp K b H H') (np : H p = none) (e : H' p = some (.lst xs)) : Stp K b H (upd H' p o) := fun a u n h =>
  (st a u n h).trans fun u' h' => .lst (ne_of_none h np) h' e
variable {wi : TI} {fi : FD} {ci : Nat} {g : TG} {fg : FG} {vs : List Nat} {tt : TT} {ft : FT} {ct ce : Nat}
theorem compD_mono (hg : ∀ d (ρ : List Sl) (P P' : List Sl → Prop), (∀ d, P d → P' d) → fg d ρ P → fg d ρ P') (t : ∀ (ρ : List Sl) (P P' : Bool → Prop), (∀ d, P d → P' d) → ft ρ P → ft ρ P')
    (e : ∀ (ρ : List Sl) (P P' : PyData → Prop), (∀ d, P d → P' d) → fe ρ P → fe ρ P') {ρ : List Sl} {P P' : List PyData → Prop} (h : ∀ d, P d → P' d) : ∀ (ds acc : List PyData), compD fg ft fe ρ ds acc P → compD fg ft fe ρ ds acc P'
  | [], acc, q => h _ q
  | d :: ds, acc, q => hg _ _ _ _ (fun ρ' => t _ _ _ fun k z => by
      cases k with
      | true => exact e _ _ _ (fun y => compD_mono hg t e h ds _) z
      | false => exact compD_mono hg t e h ds _ z) q
abbrev fComp (N : Nat) (fi : FD) (vs : List Nat) (fg : FG) (ft : FT) (fe : FE) : FD := fun ρ Q => fi ρ fun ds => ds.length ≤ N ∧ compD fg ft fe (wipeD ρ vs) ds [] Q
theorem sndl_comp {N : Nat} (hN : N ≤ 1000000) (i : SndI false K wi ci fi) (hg : SndG K g vs fg) (t : SndT K tt ct ft) (e : Snd true K te ce fe) : SndL K (tLc wi g tt te vs) (ci + N * (ct + ce)) (fComp N fi vs fg ft fe) := by
  refine ⟨fun ρ P P' h q => i.mono _ _ _ (fun ds z => ⟨z.1, compD_mono hg.mono t.mono e.mono h _ _ z.2⟩) q, fun {b S m σ H ρ Q P} E hm hf k => i.go E (by omega) hf fun ds J H1 p st bx wk => ?_⟩
  obtain ⟨hn, hc⟩ := p
  intro D nD
  have E1 := E.step st bx
  have nD0 : H D = none := back st bx nD
  have bD : b ≠ some D := fun z => by
    rw [z] at bx
    obtain ⟨_, _, _, _, _, _, _, _, e2⟩ := bx
    rw [nD] at e2
    cases e2
  refine lc_it (w := wk) (fun j H2 => ∃ (acc : List PyData) (xs : List V), Stp K b H1 H2 ∧ BxO b H2 (m + ci + j * (ct + ce)) ∧ H2 D = some (.lst xs) ∧ xs.length ≤ j ∧ DaL K (rm H2 fun a => S a ∨ a = D) xs acc ∧ compD fg ft fe (wipeD ρ vs) (ds.drop j) acc P)
    ⟨[], [], Stp.ex (Evl.Ex.new nD), (bx.ex (Evl.Ex.new nD)).le (by omega), upd_same, Nat.le_refl _, .nil, hc⟩ (fun j H2 hj pe => ?_) (fun j x H2 H3 hj pe y => ?_) (fun H2 pe => ?_)
  · obtain ⟨acc, xs, s2, _⟩ := pe
    exact s2
  · obtain ⟨acc, xs, s2, b2, hD, hl, hx, hc⟩ := pe
    have al2 : Al (fun a => S a ∨ a = D) H2 := (E1.hold nD s2 b2 ⟨_, hD, rfl⟩).al
    have exT : Evl.Ex (rm H1 S) (rm H2 fun a => S a ∨ a = D) := fun a o h => by
      obtain ⟨n1, h1⟩ := rm_some h
      exact rm_in (fun z => z.elim n1 fun w => by rw [w, nD] at h1; cases h1) ((s2 a o (fun z => n1 (E.bs a z)) h1).eq (rm_nt h)) (rm_nt h)
    obtain ⟨e23, d, ed, hd3⟩ := y _ exT al2
    have nj : (j + 1) * (ct + ce) = j * (ct + ce) + (ct + ce) := by rw [Nat.add_mul, Nat.one_mul]
    have le : (j + 1) * (ct + ce) ≤ N * (ct + ce) := Nat.mul_le_mul_right _ (by omega)
    have ej := List.getElem?_eq_some_iff.mp ed
    rw [List.drop_eq_getElem_cons ej.1, ej.2] at hc
    have s3 : Stp K b H1 H3 := s2.trans (Stp.ex e23)
    have b3 := b2.ex e23
    have hD3 := e23 _ _ hD
    have E3 := E1.hold nD s3 b3 ⟨_, hD3, rfl⟩
    refine hg.go (DEnv.wipe (vs := vs) E3) hd3 hc fun ρ4 σ4 h4 E4 k4 => ⟨?_, ?_⟩
    · rw [k4.sg, wipe_wipe]
    refine t.go E4 (by omega) h4 fun q H5 h5 s5 b5 => ?_
    cases q with
    | true =>
      rw [if_pos rfl] at h5 ⊢
      refine e.go (E4.step s5 b5) (by omega) h5 fun z v H6 h6 s6 b6 d6 => ?_
      have hD6 : H6 D = some (.lst xs) := s6 _ _ bD (s5 _ _ bD hD3)
      have s16 := (s3.trans s5).trans s6
      have hx6 : DaL K (rm H6 fun a => S a ∨ a = D) xs acc := hx.mono (((rm_ex e23).trans (s5.rm E4.bs)).trans (s6.rm E4.bs))
      have out : Evl.Ex (rm H6 fun a => S a ∨ a = D) (rm (upd H6 D (.lst (xs ++ [v]))) fun a => S a ∨ a = D) := rm_mono fun a o n _ h => by
        rw [upd_ne fun z => n (.inr z)]
        exact h
      refine ⟨xs, hD6, Nat.lt_of_le_of_lt (Nat.le_trans hl (by omega)) (show 1000000 < sizeLine by decide), acc ++ [z], xs ++ [v], stp_new s16 nD hD6, ?_, upd_same, ?_, (hx6.app (.cons d6 .nil)).mono out, h6⟩
      · have b7 : BxO b H6 (m + ci + (j + 1) * (ct + ce)) := b6.le (by omega)
        cases b with
        | none => trivial
        | some p =>
          obtain ⟨x1, y1, z1, g1, g2, g3, g4, g5, g6⟩ := b7
          exact ⟨x1, y1, z1, g1, g2, g3, g4, g5, by rw [upd_ne fun z => bD (by rw [z])]; exact g6⟩
      · rw [List.length_append]
        exact Nat.succ_le_succ hl
    | false =>
      rw [if_neg Bool.false_ne_true] at h5 ⊢
      exact ⟨acc, xs, s3.trans s5, b5.le (by omega), s5 _ _ bD hD3, Nat.le_succ_of_le hl, hx.mono ((rm_ex e23).trans (s5.rm E4.bs)), h5⟩
  · obtain ⟨acc, xs, s2, b2, hD, hl, hx, hc⟩ := pe
    rw [List.drop_length] at hc
    have le : ds.length * (ct + ce) ≤ N * (ct + ce) := Nat.mul_le_mul_right _ hn
    exact k acc xs D H2 hc nD0 (st.trans s2) (b2.le (by omega)) hD hx
end
end Dv
namespace Dv
open PySem PySem.Spec PyProof.Rows L2 Xg
open Classical
structure DEnds where
  nx : List Sl → Prop
  rt : PyData → Prop
  rl : List PyData → Prop
  bk : List Sl → Prop := fun _ => False
  ct : List Sl → Prop := fun _ => False
structure DLe (E E' : DEnds) : Prop where
  nx : ∀ ρ, E.nx ρ → E'.nx ρ
  rt : ∀ d, E.rt d → E'.rt d
  rl : ∀ d, E.rl d → E'.rl d
  bk : ∀ ρ, E.bk ρ → E'.bk ρ
  ct : ∀ ρ, E.ct ρ → E'.ct ρ
theorem DLe.refl {E : DEnds} : DLe E E := ⟨fun _ h => h, fun _ h => h, fun _ h => h, fun _ h => h, fun _ h => h⟩
abbrev FS := List Sl → DEnds → Prop
def SO (G : Addr → Prop) (b : Option Addr) (os : Nat → Option Addr) : Addr → Prop := fun a => G a ∨ b = some a ∨ ∃ i, os i = some a
structure Ok (K : PySem.W.Frag) (G : Addr → Prop) (H0 : Hp) (b0 b : Option Addr) (os : Nat → Option Addr) (m : Nat) (H : Hp) (σ : L2.St) (ρ : List Sl) : Prop where
  env : DEnv K b (SO G b os) m H σ ρ
  inj : ∀ i j a, os i = some a → os j = some a → i = j
  new : ∀ i a, os i = some a → H0 a = none
  old : Stp K b0 H0 H
  bn : b = b0 ∨ ∀ p, b = some p → H0 p = none
  obx : BxO b0 H m
  bo : ∀ i a, os i = some a → b ≠ some a
  slo : ∀ (i : Nat) (s : Sl), ρ[i]? = some s → isOw s = true → ∃ p, os i = some p ∧ σ[i]? = some (some (.ref p))
  al0 : Al G H0
  bG : ∀ p, b0 = some p → G p
def Lk (S : Addr → Prop) (H : Hp) (S' : Addr → Prop) (H' : Hp) : Prop := ∀ a o, ¬ S a → isT o = false → H a = some o → H' a = some o ∧ ¬ S' a
theorem Lk.trans {S S1 S2 : Addr → Prop} {H H1 H2 : Hp} (h : Lk S H S1 H1) (g : Lk S1 H1 S2 H2) : Lk S H S2 H2 := fun a o n t e => let ⟨e1, n1⟩ := h a o n t e; g a o n1 t e1
theorem Lk.step {K : PySem.W.Frag} {b : Option Addr} {S : Addr → Prop} {H H' : Hp} (h : Stp K b H H') (bs : ∀ p, b = some p → S p) : Lk S H S H' := fun a o n t e => ⟨(h a o (fun z => n (bs a z)) e).eq t, n⟩
theorem Lk.refl {S : Addr → Prop} {H : Hp} : Lk S H S H := fun a o n _ e => ⟨e, n⟩
theorem Lk.kg {K : PySem.W.Frag} {b : Option Addr} {S S' : Addr → Prop} {H H' : Hp} (h : Lk S H S' H') : KG K true b S H H' := rm_mono fun a o n t e => (h a o n t e).1
section
variable {K : PySem.W.Frag} {G : Addr → Prop} {H0 : Hp} {b0 b : Option Addr} {os : Nat → Option Addr} {m n : Nat} {H H' : Hp} {σ : L2.St} {ρ : List Sl}
theorem Ok.step (h : Ok K G H0 b0 b os m H σ ρ) (st : Stp K b H H') (bx : BxO b H' n) (le : m ≤ n) : Ok K G H0 b0 b os n H' σ ρ := by
  have old : Stp K b0 H0 H' := fun c o n1 e => (h.old c o n1 e).trans fun o' e' => by
    refine st c o' (fun z => ?_) e'
    rcases h.bn with q | q
    · exact n1 (q ▸ z)
    · rw [q c z] at e
      cases e
  refine ⟨h.env.step st bx, h.inj, h.new, old, h.bn, ?_, h.bo, h.slo, h.al0, h.bG⟩
  rcases h.bn with q | q
  · rw [← q]
    exact bx
  · cases b0 with
    | none => trivial
    | some c =>
      obtain ⟨x, y, z, h1, h2, h3, h4, h5, h6⟩ := h.obx
      refine ⟨x, y, z, h1, h2, h3, h4, by omega, st _ _ (fun w => ?_) h6⟩
      exact h.al0.no c (h.bG c rfl) (q c w)
theorem Ok.le (h : Ok K G H0 b0 b os m H σ ρ) (l : m ≤ n) : Ok K G H0 b0 b os n H σ ρ := ⟨h.env.le l, h.inj, h.new, h.old, h.bn, h.obx.le l, h.bo, h.slo, h.al0, h.bG⟩
theorem Ok.kpt {σ' : L2.St} {ρ' : List Sl} {vs : List Nat} (h : Ok K G H0 b0 b os m H σ ρ) (E : DEnv K b (SO G b os) m H σ' ρ') (k : Kpt vs σ σ' ρ ρ') : Ok K G H0 b0 b os m H σ' ρ' :=
  ⟨E, h.inj, h.new, h.old, h.bn, h.obx, h.bo, fun i ds e o => by
    obtain ⟨e1, e2⟩ := k.own i ds e o
    obtain ⟨p, q1, q2⟩ := h.slo i ds e1 o
    exact ⟨p, q1, by rw [e2]; exact q2⟩, h.al0, h.bG⟩
structure Out (K : PySem.W.Frag) (G : Addr → Prop) (H0 : Hp) (b0 : Option Addr) (m : Nat) (H : Hp) : Prop where
  old : Stp K b0 H0 H
  obx : BxO b0 H m
structure Goes (K : PySem.W.Frag) (G : Addr → Prop) (H0 : Hp) (b0 : Option Addr) (m : Nat) (S : Addr → Prop) (H : Hp) (E : DEnds) (D : Ends) : Prop where
  nx : ∀ b os σ' H' ρ', E.nx ρ' → Ok K G H0 b0 b os m H' σ' ρ' → Lk S H (SO G b os) H' → D.nx σ' H'
  rt : ∀ d v H', E.rt d → Out K G H0 b0 m H' → Da K (rm H' G) v d → D.rt v H'
  rl : ∀ ds vs p H', E.rl ds → Out K G H0 b0 m H' → H0 p = none → H' p = some (.lst vs) → DaL K (rm H' fun a => G a ∨ a = p) vs ds → D.rt (.ref p) H'
  bk : ∀ b os σ' H' ρ', E.bk ρ' → Ok K G H0 b0 b os m H' σ' ρ' → Lk S H (SO G b os) H' → D.bk σ' H'
  ct : ∀ b os σ' H' ρ', E.ct ρ' → Ok K G H0 b0 b os m H' σ' ρ' → Lk S H (SO G b os) H' → D.ct σ' H'
theorem Goes.le {S : Addr → Prop} {E : DEnds} {D : Ends} (h : Goes K G H0 b0 n S H E D) (l : m ≤ n) : Goes K G H0 b0 m S H E D :=
  ⟨fun b os σ' H' ρ' e o => h.nx b os σ' H' ρ' e (o.le l), fun d v H' e o => h.rt d v H' e ⟨o.old, o.obx.le l⟩, fun ds vs p H' e o => h.rl ds vs p H' e ⟨o.old, o.obx.le l⟩, fun b os σ' H' ρ' e o => h.bk b os σ' H' ρ' e (o.le l), fun b os σ' H' ρ' e o => h.ct b os σ' H' ρ' e (o.le l)⟩
theorem Goes.from {S S1 : Addr → Prop} {H1 : Hp} {E : DEnds} {D : Ends} (h : Goes K G H0 b0 m S H E D) (l : Lk S H S1 H1) : Goes K G H0 b0 m S1 H1 E D :=
  ⟨fun b os σ' H' ρ' e o k => h.nx b os σ' H' ρ' e o (l.trans k), h.rt, h.rl, fun b os σ' H' ρ' e o k => h.bk b os σ' H' ρ' e o (l.trans k), fun b os σ' H' ρ' e o k => h.ct b os σ' H' ρ' e o (l.trans k)⟩
structure SndS (K : PySem.W.Frag) (t : TS) (c : Nat) (f : FS) : Prop where
  mono : ∀ (ρ : List Sl) (E E' : DEnds), DLe E E' → f ρ E → f ρ E'
  go : ∀ {G : Addr → Prop} {H0 : Hp} {b0 b : Option Addr} {os : Nat → Option Addr} {m : Nat} {H : Hp} {σ : L2.St} {ρ : List Sl} {D : Ends} {E : DEnds}, Ok K G H0 b0 b os m H σ ρ → m + c ≤ LIM → f ρ E →
    Goes K G H0 b0 (m + c) (SO G b os) H E D → t D σ H
theorem SO.g {a : Addr} (h : G a) : SO G b os a := .inl h
variable {t u : TS} {c cu ca ct : Nat} {f g : FS} {ta : TE} {fa : FE} {tt : TT} {ft : FT} {md : Bool}
abbrev sSkip : FS := fun ρ E => E.nx ρ
theorem snds_nil : SndS K tNext 0 sSkip := ⟨fun ρ E E' h q => h.nx _ q, fun ok hm hf k => k.nx _ _ _ _ _ hf ok Lk.refl⟩
abbrev sSeq (f g : FS) : FS := fun ρ E => f ρ { E with nx := fun ρ' => g ρ' E }
theorem snds_seq (a : SndS K t c f) (r : SndS K u cu g) : SndS K (tSeq t u) (c + cu) (sSeq f g) :=
  ⟨fun ρ E E' h q => a.mono ρ { E with nx := fun ρ' => g ρ' E } { E' with nx := fun ρ' => g ρ' E' } ⟨fun ρ' => r.mono _ _ _ h, h.rt, h.rl, h.bk, h.ct⟩ q, fun {G H0 b0 b os m H σ ρ D E} ok hm hf k => a.go ok (by omega) hf
    ⟨fun b1 os1 σ' H' ρ' e o l => r.go o (by omega) e ((k.le (by omega)).from l), fun d v H' e o => k.rt d v H' e ⟨o.old, o.obx.le (by omega)⟩, fun ds vs p H' e o => k.rl ds vs p H' e ⟨o.old, o.obx.le (by omega)⟩,
      fun b os σ' H' ρ' e o => k.bk b os σ' H' ρ' e (o.le (by omega)), fun b os σ' H' ρ' e o => k.ct b os σ' H' ρ' e (o.le (by omega))⟩⟩
abbrev sIf (t : FT) (f g : FS) : FS := fun ρ E => t ρ fun k => if k = true then f ρ E else g ρ E
theorem snds_if (a : SndT K tt ct ft) (x : SndS K t c f) (y : SndS K u cu g) : SndS K (tIfS tt t u) (ct + (c + cu)) (sIf ft f g) :=
  ⟨fun ρ E E' h q => a.mono _ _ _ (fun k z => by
      cases k with
      | true => exact x.mono _ _ _ h z
      | false => exact y.mono _ _ _ h z) q,
   fun ok hm hf k => a.go ok.env (by omega) hf fun q H1 p st bx => by
    have ok1 := ok.step st bx (by omega)
    have l := Lk.step st ok.env.bs
    cases q with
    | true => exact x.go ok1 (by omega) p ((k.le (by omega)).from l)
    | false => exact y.go ok1 (by omega) p ((k.le (by omega)).from l)⟩
abbrev sRet (f : FE) : FS := fun ρ E => f ρ E.rt
theorem Ok.out (h : Ok K G H0 b0 b os m H σ ρ) : Out K G H0 b0 m H := ⟨h.old, h.obx⟩
theorem snds_ret (a : Snd true K ta ca fa) : SndS K (tRet ta) ca (sRet fa) :=
  ⟨fun ρ E E' h q => a.mono _ _ _ h.rt q, fun ok hm hf k => a.go ok.env hm hf fun d v H' p st bx vd => k.rt d v H' p (ok.step st bx (by omega)).out (Da.mono (rm_sub fun a => SO.g) vd)⟩
abbrev sRetL (f : FD) : FS := fun ρ E => f ρ E.rl
theorem snds_retL {fl : FD} (a : SndL K ta ca fl) : SndS K (tRet ta) ca (sRetL fl) :=
  ⟨fun ρ E E' h q => a.mono _ _ _ h.rl q, fun ok hm hf k => a.go ok.env hm hf fun ds vs p H' h n st bx e g => k.rl ds vs p H' h (ok.step st bx (by omega)).out (back ok.old ok.obx n) e (g.mono (rm_sub fun a z => z.imp_left SO.g))⟩
abbrev sRetO (i : Nat) : FS := fun ρ E => match ρ[i]? with
  | some (.own ds) => E.rl ds
  | _ => False
theorem snds_retO {i : Nat} : SndS K (tRet (tVar i)) 0 (sRetO i) :=
  ⟨fun ρ E E' h q => by
      unfold sRetO at q ⊢
      split at q
      · exact h.rl _ q
      · exact q.elim,
   fun {G H0 b0 b os m H σ ρ D E} ok hm hf k => by
      unfold sRetO at hf
      split at hf
      · rename_i ds e
        obtain ⟨p, vs, e1, e2, e3, e4, e5⟩ := ok.env.sl i _ e
        obtain ⟨p', q1, q2⟩ := ok.slo i _ e rfl
        rw [e1] at q2
        cases q2
        refine ⟨_, e1, k.rl ds vs p H hf ok.out (ok.new _ _ q1) e4 (e5.mono (rm_sub fun a z => ?_))⟩
        rcases z with z | rfl
        · exact SO.g z
        · exact e2
      · exact hf.elim⟩
variable {tg : TG} {fg : FG} {vs : List Nat}
abbrev sAsg (f : FE) (g : FG) : FS := fun ρ E => f ρ fun d => g d ρ E.nx
theorem snds_asg (a : Snd true K ta ca fa) (hg : SndG K tg vs fg) : SndS K (tAsg ta tg) ca (sAsg fa fg) :=
  ⟨fun ρ E E' h q => a.mono _ _ _ (fun d => hg.mono _ _ _ _ h.nx) q, fun ok hm hf k => a.go ok.env hm hf fun d v H' p st bx vd => by
    have ok1 := ok.step st bx (by omega)
    exact hg.go ok1.env vd p fun ρ' σ' q E1 kp => k.nx _ _ _ _ _ q (ok1.kpt E1 kp) (Lk.step st ok.env.bs)⟩
abbrev sOwn (f : FD) (i : Nat) : FS := fun ρ E => f ρ fun ds => E.nx (ρ.set i (.own ds))
def osSet (os : Nat → Option Addr) (i : Nat) (p : Addr) : Nat → Option Addr := fun j => if j = i then some p else os j
theorem os_at {i : Nat} {p : Addr} {j : Nat} {a : Addr} (h : osSet os i p j = some a) : (j = i ∧ a = p) ∨ (j ≠ i ∧ os j = some a) := by
  unfold osSet at h
  split at h
  · cases h
    exact .inl ⟨by assumption, rfl⟩
  · exact .inr ⟨by assumption, h⟩
theorem Ok.own {i : Nat} {p : Addr} {ds : List PyData} {xs : List V} (ok : Ok K G H0 b0 b os m H σ ρ) (np : H p = none) (st : Stp K b H H') (bx : BxO b H' n) (le : m ≤ n) (e : H' p = some (.lst xs)) (hd : DaL K (rm H' fun a => SO G b os a ∨ a = p) xs ds) :
    Ok K G H0 b0 b (osSet os i p) n H' (σ.set i (some (.ref p))) (ρ.set i (.own ds)) ∧ Lk (SO G b os) H (SO G b (osSet os i p)) H' := by
  have ok1 := ok.step st bx le
  have nS : ¬ SO G b os p := ok.env.al.new np
  have n0 : H0 p = none := back ok.old ok.obx np
  have sub : ∀ a, SO G b (osSet os i p) a → SO G b os a ∨ a = p := fun a h => by
    rcases h with h | h | ⟨j, h⟩
    · exact .inl (.inl h)
    · exact .inl (.inr (.inl h))
    · rcases os_at h with ⟨_, rfl⟩ | ⟨_, h⟩
      · exact .inr rfl
      · exact .inl (.inr (.inr ⟨j, h⟩))
  have Sp : SO G b (osSet os i p) p := .inr (.inr ⟨i, by unfold osSet; rw [if_pos rfl]⟩)
  have bp : b ≠ some p := fun z => nS (.inr (.inl z))
  have lk : Lk (SO G b os) H (SO G b (osSet os i p)) H' := fun a o n1 t h => ⟨(st a o (fun z => n1 (.inr (.inl z))) h).eq t, fun z => (sub a z).elim n1 fun w => by rw [w, np] at h; cases h⟩
  have ex : Evl.Ex (rm H (SO G b os)) (rm H' (SO G b (osSet os i p))) := fun a o h => by
    obtain ⟨n1, h1⟩ := rm_some h
    obtain ⟨g1, g2⟩ := lk a o n1 (rm_nt h) h1
    exact rm_in g2 g1 (rm_nt h)
  refine ⟨⟨⟨?_, fun j s h => ?_, bx, fun q h => .inr (.inl h), fun a h => ?_, ok1.env.tb⟩, fun j k a h1 h2 => ?_, fun j a h => ?_, ok1.old, ok.bn, ok1.obx, fun j a h => ?_, fun j es h ow => ?_, ok.al0, ok.bG⟩, lk⟩
  · rw [List.length_set, List.length_set]
    exact ok.env.len
  · rw [List.getElem?_set] at h ⊢
    by_cases z : i = j
    · rw [if_pos z] at h ⊢
      rw [ok.env.len]
      split at h
      · rename_i l
        cases h
        rw [if_pos l]
        exact ⟨p, xs, rfl, Sp, bp, e, hd.mono (rm_sub sub)⟩
      · cases h
    · rw [if_neg z] at h ⊢
      have q := ok.env.sl j s h
      cases s with
      | no => trivial
      | dt d => exact let ⟨v, e1, g⟩ := q; ⟨v, e1, g.mono ex⟩
      | own es =>
        obtain ⟨p1, ws, e1, s1, n1, g1, k1⟩ := q
        obtain ⟨p2, q1, q2⟩ := ok.slo j _ h rfl
        rw [e1] at q2
        cases q2
        refine ⟨p1, ws, e1, .inr (.inr ⟨j, ?_⟩), n1, st _ _ n1 g1, k1.mono ex⟩
        unfold osSet
        rw [if_neg fun w => z w.symm]
        exact q1
      | box => exact q
      | scr ns => exact let ⟨v, e1, g⟩ := q; ⟨v, e1, Evl.ex_l ex g⟩
      | op g => exact let ⟨v, e1, g⟩ := q; ⟨v, e1, g.mono ex⟩
      | fn k ds => exact let ⟨v, e1, g⟩ := q; ⟨v, e1, g.mono ex⟩
      | exc k ds => exact let ⟨v, e1, g⟩ := q; ⟨v, e1, g.mono ex⟩
      | dct ts =>
        obtain ⟨p1, ws, e1, s1, n1, g1, k1⟩ := q
        obtain ⟨p2, q1, q2⟩ := ok.slo j _ h rfl
        rw [e1] at q2
        cases q2
        refine ⟨p1, ws, e1, .inr (.inr ⟨j, ?_⟩), n1, st _ _ n1 g1, k1.mono ex⟩
        unfold osSet
        rw [if_neg fun w => z w.symm]
        exact q1
      | dck k => exact let ⟨v, e1, g⟩ := q; ⟨v, e1, g.mono ex⟩
      | frt k => exact let ⟨v, e1, g⟩ := q; ⟨v, e1, g.mono ex⟩
  · rcases sub a h with h | rfl
    · exact ok1.env.al a h
    · exact ⟨_, e, rfl⟩
  · rcases os_at h1 with ⟨r1, rfl⟩ | ⟨r1, w1⟩ <;> rcases os_at h2 with ⟨r2, q2⟩ | ⟨r2, w2⟩
    · rw [r1, r2]
    · exact absurd (Or.inr (Or.inr ⟨_, w2⟩)) nS
    · subst q2
      exact absurd (Or.inr (Or.inr ⟨_, w1⟩)) nS
    · exact ok.inj _ _ _ w1 w2
  · rcases os_at h with ⟨_, rfl⟩ | ⟨_, h⟩
    · exact n0
    · exact ok.new _ _ h
  · rcases os_at h with ⟨_, rfl⟩ | ⟨_, h⟩
    · exact bp
    · exact ok.bo _ _ h
  · rw [List.getElem?_set] at h ⊢
    by_cases z : i = j
    · rw [if_pos z] at h ⊢
      rw [ok.env.len]
      split at h
      · rename_i l
        rw [if_pos l]
        exact ⟨p, by unfold osSet; rw [if_pos z.symm], rfl⟩
      · cases h
    · rw [if_neg z] at h ⊢
      obtain ⟨p2, q1, q2⟩ := ok.slo j _ h ow
      refine ⟨p2, ?_, q2⟩
      unfold osSet
      rw [if_neg fun w => z w.symm]
      exact q1
theorem snds_own {fl : FD} {i : Nat} (a : SndL K ta ca fl) : SndS K (tAsg ta (gName i)) ca (sOwn fl i) :=
  ⟨fun ρ E E' h q => a.mono _ _ _ (fun d => h.nx _) q, fun ok hm hf k => a.go ok.env hm hf fun ds xs p H' h np st bx e g => by
    obtain ⟨o, l⟩ := ok.own (i := i) np st bx (by omega) e g
    exact k.nx _ _ _ _ _ h o l⟩
theorem Ok.mut {i : Nat} {ds es : List PyData} {p : Addr} {ys : List V} (ok : Ok K G H0 b0 b os m H σ ρ) (hi : ρ[i]? = some (.own ds)) (hp : σ[i]? = some (some (.ref p))) (hy : DaL K (rm H (SO G b os)) ys es) :
    Ok K G H0 b0 b os m (upd H p (.lst ys)) σ (ρ.set i (.own es)) ∧ Lk (SO G b os) H (SO G b os) (upd H p (.lst ys)) := by
  obtain ⟨p1, ws, e1, s1, n1, g1, k1⟩ := ok.env.sl i _ hi
  rw [hp] at e1
  cases e1
  obtain ⟨p2, q1, q2⟩ := ok.slo i _ hi rfl
  rw [hp] at q2
  cases q2
  have ex : Evl.Ex (rm H (SO G b os)) (rm (upd H p (.lst ys)) (SO G b os)) := rm_mono fun a o n _ h => by
    rw [upd_ne fun z => n (by rw [z]; exact s1)]
    exact h
  have n0 := ok.new _ _ q1
  have bxu : ∀ {c : Option Addr} {k : Nat}, c ≠ some p → BxO c H k → BxO c (upd H p (.lst ys)) k := fun {c k} hc h => by
    cases c with
    | none => trivial
    | some c =>
      obtain ⟨x, y, z, h1, h2, h3, h4, h5, h6⟩ := h
      exact ⟨x, y, z, h1, h2, h3, h4, h5, by rw [upd_ne fun w => hc (by rw [w])]; exact h6⟩
  refine ⟨⟨⟨by rw [List.length_set]; exact ok.env.len, fun j s h => ?_, bxu n1 ok.env.bx, ok.env.bs, fun a h => ?_, ok.env.tb.lst g1⟩, ok.inj, ok.new, stp_new ok.old n0 g1, ok.bn, bxu (fun z => ?_) ok.obx, ok.bo, fun j ts h ow => ?_, ok.al0, ok.bG⟩, fun a o n _ h => ⟨?_, n⟩⟩
  · rw [List.getElem?_set] at h
    by_cases z : i = j
    · subst z
      rw [if_pos rfl] at h
      split at h
      · cases h
        exact ⟨p, ys, hp, s1, n1, upd_same, hy.mono ex⟩
      · cases h
    · rw [if_neg z] at h
      have q := ok.env.sl j s h
      cases s with
      | no => trivial
      | dt d => exact let ⟨v, e1, g⟩ := q; ⟨v, e1, g.mono ex⟩
      | own ts =>
        obtain ⟨p3, us, e3, s3, n3, g3, k3⟩ := q
        obtain ⟨p4, r1, r2⟩ := ok.slo j _ h rfl
        rw [e3] at r2
        cases r2
        refine ⟨p3, us, e3, s3, n3, ?_, k3.mono ex⟩
        rw [upd_ne fun w => z (ok.inj _ _ _ q1 (by rw [← w]; exact r1))]
        exact g3
      | box => exact q
      | scr ns => exact let ⟨v, e1, g⟩ := q; ⟨v, e1, Evl.ex_l ex g⟩
      | op g => exact let ⟨v, e1, g⟩ := q; ⟨v, e1, g.mono ex⟩
      | fn k ds => exact let ⟨v, e1, g⟩ := q; ⟨v, e1, g.mono ex⟩
      | exc k ds => exact let ⟨v, e1, g⟩ := q; ⟨v, e1, g.mono ex⟩
      | dct ts =>
        obtain ⟨p3, us, e3, s3, n3, g3, k3⟩ := q
        obtain ⟨p4, r1, r2⟩ := ok.slo j _ h rfl
        rw [e3] at r2
        cases r2
        refine ⟨p3, us, e3, s3, n3, ?_, k3.mono ex⟩
        rw [upd_ne fun w => z (ok.inj _ _ _ q1 (by rw [← w]; exact r1))]
        exact g3
      | dck k => exact let ⟨v, e1, g⟩ := q; ⟨v, e1, g.mono ex⟩
      | frt k => exact let ⟨v, e1, g⟩ := q; ⟨v, e1, g.mono ex⟩
  · by_cases z : a = p
    · rw [z]
      exact ⟨_, upd_same, rfl⟩
    · rw [upd_ne z]
      exact ok.env.al a h
  · exact ok.al0.no _ (ok.bG _ z) n0
  · rw [List.getElem?_set] at h
    by_cases z : i = j
    · subst z
      exact ⟨p, q1, hp⟩
    · rw [if_neg z] at h
      exact ok.slo j _ h ow
  · rw [upd_ne fun z => n (by rw [z]; exact s1)]
    exact h
abbrev ownQ (ρ : List Sl) (i : Nat) (Q : List PyData → Prop) : Prop := match ρ[i]? with
  | some (.own ds) => Q ds
  | _ => False
theorem ownQ_of {i : Nat} {Q : List PyData → Prop} (h : ownQ ρ i Q) : ∃ ds, ρ[i]? = some (.own ds) ∧ Q ds := by
  unfold ownQ at h
  split at h
  · exact ⟨_, by assumption, h⟩
  · exact h.elim
theorem ownQ_mono {i : Nat} {Q Q' : List PyData → Prop} (h : ∀ ds, Q ds → Q' ds) (q : ownQ ρ i Q) : ownQ ρ i Q' := by
  unfold ownQ at q ⊢
  split at q
  · exact h _ q
  · exact q.elim
abbrev sApp (i : Nat) (f : FE) : FS := fun ρ E => ownQ ρ i fun ds => f ρ fun d => ds.length < 1000000 ∧ E.nx (ρ.set i (.own (ds ++ [d])))
theorem snds_app {i : Nat} (a : Snd true K ta ca fa) : SndS K (tDrop (tBM K "list" rAppend (tVar i) (tCons ta tNil))) ca (sApp i fa) :=
  ⟨fun ρ E E' h q => ownQ_mono (fun ds => a.mono _ _ _ fun d z => ⟨z.1, h.nx _ z.2⟩) q, fun ok hm hf k => by
    obtain ⟨ds, e, hf⟩ := ownQ_of hf
    obtain ⟨p, xs, e1, e2, e3, e4, e5⟩ := ok.env.sl i _ e
    refine ⟨.ref p, e1, .inl ⟨rfl, xs, .inl (.inl e4)⟩, a.go ok.env hm hf fun d v H' q st bx vd => ⟨p, xs, v, rfl, rfl, st _ _ e3 e4, ?_, ?_⟩⟩
    · rw [e5.len]
      exact Nat.lt_trans q.1 (by decide)
    · have ok1 := ok.step st bx (by omega)
      obtain ⟨o, l⟩ := ok1.mut e e1 ((e5.mono (st.rm ok.env.bs)).app (.cons vd .nil))
      exact k.nx _ _ _ _ _ q.2 o ((Lk.step st ok.env.bs).trans l)⟩
def forD (g : FG) (f : FS) : List PyData → List Sl → DEnds → Prop
  | [], ρ, E => E.nx ρ
  | d :: ds, ρ, E => g d ρ fun ρ1 => f ρ1 { E with nx := fun ρ2 => forD g f ds ρ2 E, ct := fun ρ2 => forD g f ds ρ2 E, bk := E.nx }
abbrev sFor (N : Nat) (fi : FD) (fg : FG) (f : FS) : FS := fun ρ E => fi ρ fun ds => ds.length ≤ N ∧ forD fg f ds ρ E
theorem forD_mono (hg : ∀ d (ρ : List Sl) (P P' : List Sl → Prop), (∀ d, P d → P' d) → fg d ρ P → fg d ρ P') (hf : ∀ (ρ : List Sl) (E E' : DEnds), DLe E E' → f ρ E → f ρ E') {E E' : DEnds} (h : DLe E E') : ∀ (ds : List PyData) (ρ : List Sl), forD fg f ds ρ E → forD fg f ds ρ E'
  | [], ρ, q => h.nx _ q
  | d :: ds, ρ, q => hg _ _ _ _ (fun ρ1 => hf ρ1 { E with nx := fun ρ2 => forD fg f ds ρ2 E, ct := fun ρ2 => forD fg f ds ρ2 E, bk := E.nx } { E' with nx := fun ρ2 => forD fg f ds ρ2 E', ct := fun ρ2 => forD fg f ds ρ2 E', bk := E'.nx } ⟨fun ρ2 => forD_mono hg hf h ds ρ2, h.rt, h.rl, h.nx, fun ρ2 => forD_mono hg hf h ds ρ2⟩) q
theorem snds_for {wi : TI} {ci N : Nat} {fi : FD} (i : SndI true K wi ci fi) (hg : SndG K tg vs fg) (a : SndS K t c f) : SndS K (tFor wi tg t) (ci + N * c) (sFor N fi fg f) := by
  refine ⟨fun ρ E E' h q => i.mono _ _ _ (fun ds z => ⟨z.1, forD_mono hg.mono a.mono h _ _ z.2⟩) q, fun {G H0 b0 b os m H σ ρ D E} ok hm hf k => i.go ok.env (by omega) hf fun ds J H1 p st bx wk => ?_⟩
  obtain ⟨hn, hc⟩ := p
  have ok1 := ok.step st bx (by omega)
  have bs := ok.env.bs
  have lk0 := Lk.step st bs
  refine for_it (w := wk) (fun j σ2 H2 => ∃ b2 os2 ρ2, Ok K G H0 b0 b2 os2 (m + ci + j * c) H2 σ2 ρ2 ∧ Lk (SO G b os) H1 (SO G b2 os2) H2 ∧ forD fg f (ds.drop j) ρ2 E)
    ⟨b, os, ρ, ok1.le (by omega), Lk.refl, hc⟩ (fun j σ2 H2 hj pe => ?_) (fun j x σ2 H2 H3 hj pe y => ?_) (fun σ2 H2 pe => ?_)
  · obtain ⟨b2, os2, ρ2, o2, l2, h2⟩ := pe
    exact l2.kg
  · obtain ⟨b2, os2, ρ2, o2, l2, h2⟩ := pe
    have nj : (j + 1) * c = j * c + c := by rw [Nat.add_mul, Nat.one_mul]
    have le : (j + 1) * c ≤ N * c := Nat.mul_le_mul_right _ (by omega)
    have exT : Evl.Ex (rm H1 (SO G b os)) (rm H2 (SO G b2 os2)) := fun a o h => by
      obtain ⟨n1, h1⟩ := rm_some h
      obtain ⟨g1, g2⟩ := l2 a o n1 (rm_nt h) h1
      exact rm_in g2 g1 (rm_nt h)
    obtain ⟨e23, d, ed, hd⟩ := y _ exT o2.env.al
    have ej := List.getElem?_eq_some_iff.mp ed
    rw [List.drop_eq_getElem_cons ej.1, ej.2] at h2
    have o3 := o2.step (Stp.ex e23) (o2.env.bx.ex e23) (Nat.le_refl _)
    have l3 : Lk (SO G b os) H1 (SO G b2 os2) H3 := l2.trans (Lk.step (Stp.ex (K := K) e23) o2.env.bs)
    refine hg.go o3.env hd h2 fun ρ4 σ4 h4 E4 k4 => ?_
    refine a.go (o3.kpt E4 k4) (by omega) h4 ⟨fun b5 os5 σ5 H5 ρ5 q o l => ⟨b5, os5, ρ5, o.le (by omega), l3.trans l, q⟩, fun d v H5 q o => k.rt d v H5 q ⟨o.old, o.obx.le (by omega)⟩, fun ds vs p H5 q o => k.rl ds vs p H5 q ⟨o.old, o.obx.le (by omega)⟩,
      fun b5 os5 σ5 H5 ρ5 q o l => k.nx b5 os5 σ5 H5 ρ5 q (o.le (by omega)) ((lk0.trans l3).trans l), fun b5 os5 σ5 H5 ρ5 q o l => ⟨b5, os5, ρ5, o.le (by omega), l3.trans l, q⟩⟩
  · obtain ⟨b2, os2, ρ2, o2, l2, h2⟩ := pe
    rw [List.drop_length] at h2
    have le : ds.length * c ≤ N * c := Nat.mul_le_mul_right _ hn
    exact k.nx _ _ _ _ _ h2 (o2.le (by omega)) (lk0.trans l2)
def sWhile (ft : FT) (f : FS) : FS := fun ρ E => ∃ W : Nat → List Sl → Prop, (∃ n, W n ρ) ∧ ∀ n ρ, W n ρ → ft ρ fun k => if k = true then f ρ { E with nx := fun ρ' => ∃ n', n' < n ∧ W n' ρ', ct := fun ρ' => ∃ n', n' < n ∧ W n' ρ', bk := E.nx } else E.nx ρ
theorem snds_while (x : SndT K tt 0 ft) (a : SndS K t 0 f) : SndS K (tWhile tt t) 0 (sWhile ft f) :=
  ⟨fun ρ E E' h q => by
    obtain ⟨W, w0, turn⟩ := q
    refine ⟨W, w0, fun n ρ w => x.mono _ _ _ (fun k z => ?_) (turn n ρ w)⟩
    cases k with
    | true => exact a.mono ρ { E with nx := fun ρ' => ∃ n', n' < n ∧ W n' ρ', ct := fun ρ' => ∃ n', n' < n ∧ W n' ρ', bk := E.nx } { E' with nx := fun ρ' => ∃ n', n' < n ∧ W n' ρ', ct := fun ρ' => ∃ n', n' < n ∧ W n' ρ', bk := E'.nx } ⟨fun _ h => h, h.rt, h.rl, h.nx, fun _ h => h⟩ z
    | false => exact h.nx _ z,
  fun {G H0 b0 b os m H σ ρ D E} ok hm hf k => by
    obtain ⟨W, ⟨n0, w0⟩, turn⟩ := hf
    refine ⟨fun n σ2 H2 => ∃ b2 os2 ρ2, Ok K G H0 b0 b2 os2 m H2 σ2 ρ2 ∧ Lk (SO G b os) H (SO G b2 os2) H2 ∧ W n ρ2, ⟨n0, b, os, ρ, ok, Lk.refl, w0⟩, fun n σ2 H2 pe => ?_⟩
    obtain ⟨b2, os2, ρ2, o2, l2, w2⟩ := pe
    refine x.go o2.env hm (turn n ρ2 w2) fun q H3 p st bx => ?_
    have o3 := o2.step st bx (Nat.le_refl _)
    have l3 := l2.trans (Lk.step st o2.env.bs)
    cases q with
    | true =>
      rw [if_pos rfl] at p ⊢
      refine ⟨fun σ5 H5 => ∃ b5 os5 ρ5, Ok K G H0 b0 b5 os5 m H5 σ5 ρ5 ∧ Lk (SO G b os) H (SO G b5 os5) H5 ∧ ∃ n', n' < n ∧ W n' ρ5, fun σ5 H5 z => ?_, a.go o3 hm p ⟨fun b5 os5 σ5 H5 ρ5 q o l => ⟨b5, os5, ρ5, o, l3.trans l, q⟩, k.rt, k.rl,
        fun b5 os5 σ5 H5 ρ5 q o l => k.nx b5 os5 σ5 H5 ρ5 q o (l3.trans l), fun b5 os5 σ5 H5 ρ5 q o l => ⟨b5, os5, ρ5, o, l3.trans l, q⟩⟩⟩
      obtain ⟨b5, os5, ρ5, o5, l5, n', ln, w5⟩ := z
      exact ⟨n', ln, b5, os5, ρ5, o5, l5, w5⟩
    | false =>
      rw [if_neg Bool.false_ne_true] at p ⊢
      exact k.nx _ _ _ _ _ p o3 l3⟩
end
end Dv
namespace Dv
open PySem PySem.Spec PyProof.Rows L2 Xg
open Classical
section
variable {K : PySem.W.Frag} {md : Bool} {ta tb te : TE} {ca cb c n : Nat} {fa fb fe : FE} {tr : TA} {fd : FD} {cr : Nat}
abbrev GB := PyData → PyData → (PyData → Prop) → Prop
theorem Vw.tup' {b : Option Addr} {S : Addr → Prop} {H : Hp} {v : V} {ds : List PyData} (h : Vw K b S H v (.tuple ds)) : Da K (rm H S) v (.tuple ds) := by
  cases h with
  | st h => exact h
abbrev gI (g : Int → Int → Int) : GB
  | .int i, .int j, Q => Q (.int (g i j))
  | _, _, _ => False
abbrev gIc (C : Int → Int → Prop) (g : Int → Int → Int) : GB
  | .int i, .int j, Q => C i j ∧ Q (.int (g i j))
  | _, _, _ => False
theorem ops_I {g : Int → Int → Int} : OpSnd K (rI0 fun i j => .int (g i j)) (gI g) :=
  ⟨fun x y P P' h q => by
    cases x <;> cases y <;> first | exact h _ q | exact q.elim, fun {b S H x y dx dy Q P} al hx hy q k => by
    cases dx <;> cases dy <;> first | exact q.elim | skip
    rw [hx.int, hy.int]
    exact ⟨_, _, rfl, rfl, k _ _ _ q (Evl.Ex.refl _) (.int _)⟩⟩
theorem ops_Ic {C : Int → Int → Prop} {g : Int → Int → Int} : OpSnd K (rI C fun i j => .int (g i j)) (gIc C g) :=
  ⟨fun x y P P' h q => by
    cases x <;> cases y <;> first | exact ⟨q.1, h _ q.2⟩ | exact q.elim, fun {b S H x y dx dy Q P} al hx hy q k => by
    cases dx <;> cases dy <;> first | exact q.elim | skip
    rw [hx.int, hy.int]
    exact ⟨_, _, rfl, rfl, q.1, k _ _ _ q.2 (Evl.Ex.refl _) (.int _)⟩⟩
abbrev gAdd : GB
  | .int i, .int j, Q => Q (.int (i + j))
  | .list a, .list b, Q => a.length + b.length ≤ 1000000 ∧ Q (.list (a ++ b))
  | .tuple a, .tuple b, Q => a.length + b.length ≤ 1000000 ∧ Q (.tuple (a ++ b))
  | _, _, _ => False
theorem sz6 {n : Nat} (h : n ≤ 1000000) : n ≤ sizeLine := Nat.le_trans h (by decide)
abbrev rAdd (K : PySem.W.Frag) : R2 := fun x y H Q => rI0 (fun i j => .int (i + j)) x y H Q ∨ (rCat x y H Q ∨ rCatA K x y H Q)
theorem op_addX {X : Cx} : OpR X (binaryOp .Add) (rAdd X.K) := Xg.op_or op_add (Xg.op_or op_cat op_catA)
theorem ops_add : OpSnd K (rAdd K) gAdd :=
  ⟨fun x y P P' h q => by
    cases x <;> cases y <;> first | exact h _ q | exact ⟨q.1, h _ q.2⟩ | exact q.elim, fun {b S H x y dx dy Q P} al hx hy q k => by
    cases dx <;> cases dy <;> first | exact q.elim | skip
    · rw [hx.int, hy.int]
      exact .inl ⟨_, _, rfl, rfl, k _ _ _ q (Evl.Ex.refl _) (.int _)⟩
    · obtain ⟨p1, v1, rfl, e1, g1⟩ := hx.list
      obtain ⟨p2, v2, rfl, e2, g2⟩ := hy.list
      exact .inr (.inl ⟨_, _, _, _, rfl, rfl, e1, e2, by rw [g1.len, g2.len]; exact sz6 q.1, fun p np => k _ _ _ q.2 (Evl.Ex.new np) (new_lst al np (g1.app g2))⟩)
    · obtain ⟨p1, v1, rfl, e1, g1⟩ := hx.tuple
      obtain ⟨p2, v2, rfl, e2, g2⟩ := hy.tuple
      have t1 := hx.tup'
      have t2 := hy.tup'
      refine .inr (.inr ⟨_, _, _, _, rfl, rfl, e1, e2, by rw [g1.len, g2.len]; exact sz6 q.1, fun z => ?_, fun z w => ?_, fun z w p np => k _ _ _ q.2 (Evl.Ex.new np) (new_tup al np (g1.app g2))⟩)
      · subst z
        cases g1
        exact k _ _ _ q.2 (Evl.Ex.refl _) t2
      · subst w
        cases g2
        refine k _ _ _ q.2 (Evl.Ex.refl _) ?_
        rw [List.append_nil]
        exact t1⟩
abbrev fCat (fa fb : FE) : FD := fun ρ Q => fa ρ (fun x => fb ρ fun y => match x, y with
  | .list a, .list b => a.length + b.length ≤ 1000000 ∧ Q (a ++ b)
  | _, _ => False)
theorem sndl_cat {md2 : Bool} (a : Snd md K ta ca fa) (a2 : Snd md2 K tb cb fb) : SndL K (tOp rCat ta tb) (ca + cb) (fCat fa fb) := ⟨fun ρ P P' h q => a.mono _ _ _ (fun x => a2.mono _ _ _ fun y z => by
      cases x <;> cases y <;> first | exact ⟨z.1, h _ z.2⟩ | exact z.elim) q,
  fun E hm hf k => a.go E (by omega) hf fun dx v H1 p st bx vd => a2.go (E.step st bx) (by omega) p fun dy v2 H2 p2 st2 bx2 vd2 => by
    have vd := vd.vw.step st2 E.bs
    have al := ((E.step st bx).step st2 bx2).al
    cases dx <;> cases dy <;> first | exact p2.elim | skip
    obtain ⟨p1, v1, rfl, e1, g1⟩ := vd.list
    obtain ⟨q1, w1, rfl, e2, g2⟩ := vd2.vw.list
    refine ⟨_, _, _, _, rfl, rfl, e1, e2, by rw [g1.len, g2.len]; exact sz6 p2.1, fun p np => k _ _ _ _ p2.2 (back (st.trans st2) (bx2.le (Nat.le_refl _)) np) ((st.trans st2).trans (Stp.ex (Evl.Ex.new np))) ((bx2.le (by omega)).ex (Evl.Ex.new np)) upd_same ((g1.app g2).fresh np)⟩⟩
def rep (k : Int) (xs : List PyData) : List PyData := (List.replicate k.toNat xs).flatten
abbrev gMul : GB
  | .int i, .int j, Q => CMul i j ∧ Q (.int (i * j))
  | .list a, .int k, Q => (-(2 ^ 63) ≤ k ∧ k < 2 ^ 63 ∧ a.length * k.toNat ≤ 1000000) ∧ Q (.list (rep k a))
  | .tuple a, .int k, Q => (a ≠ [] ∧ 0 ≤ k ∧ k ≤ 1000 ∧ a.length ≤ 1000) ∧ Q (.tuple (rep k a))
  | _, _, _ => False
abbrev rMul (K : PySem.W.Frag) : R2 := fun x y H Q => rI CMul (fun i j => .int (i * j)) x y H Q ∨ (rRep x y H Q ∨ (rRepT K x y H Q ∨ (Xg.rRep1 K x y H Q ∨ Xg.rRep0 K x y H Q)))
theorem op_mulX {X : Cx} : OpR X (binaryOp .Mult) (rMul X.K) := Xg.op_or op_mul (Xg.op_or op_rep (Xg.op_or op_repT (Xg.op_or Xg.op_rep1 Xg.op_rep0)))
theorem DaL.rep {H : Hp} {vs : List V} {ds : List PyData} (h : DaL K H vs ds) : ∀ k : Nat, DaL K H (List.replicate k vs).flatten (List.replicate k ds).flatten
  | 0 => .nil
  | k + 1 => by
    rw [List.replicate_succ, List.replicate_succ, List.flatten_cons, List.flatten_cons]
    exact h.app (DaL.rep h k)
theorem ops_mul : OpSnd K (rMul K) gMul :=
  ⟨fun x y P P' h q => by
    cases x <;> cases y <;> first | exact ⟨q.1, h _ q.2⟩ | exact q.elim, fun {b S H x y dx dy Q P} al hx hy q k => by
    cases dx <;> cases dy <;> first | exact q.elim | skip
    · rw [hx.int, hy.int]
      exact .inl ⟨_, _, rfl, rfl, q.1, k _ _ _ q.2 (Evl.Ex.refl _) (.int _)⟩
    · obtain ⟨p1, v1, rfl, e1, g1⟩ := hx.list
      rw [hy.int]
      exact .inr (.inl ⟨_, _, _, rfl, rfl, e1, q.1.1, q.1.2.1, by rw [g1.len]; exact sz6 q.1.2.2, fun p np => k _ _ _ q.2 (Evl.Ex.new np) (new_lst al np (g1.rep _))⟩)
    · rename_i a i
      obtain ⟨p1, v1, rfl, e1, g1⟩ := hx.tuple
      rw [hy.int]
      have t1 := hx.tup'
      by_cases z : i = 1
      · subst z
        refine .inr (.inr (.inr (.inl ⟨_, _, rfl, rfl, e1, k _ _ _ q.2 (Evl.Ex.refl _) ?_⟩)))
        show Da K (rm H S) (.ref p1) (.tuple (List.replicate 1 a).flatten)
        rw [show (List.replicate 1 a).flatten = a by simp]
        exact t1
      · by_cases z0 : i = 0
        · subst z0
          refine .inr (.inr (.inr (.inr ⟨_, _, rfl, rfl, e1, fun w => ?_, fun p np => k _ _ _ q.2 (Evl.Ex.new np) (new_tup al np .nil)⟩)))
          subst w
          cases g1
          exact q.1.1 rfl
        refine .inr (.inr (.inl ⟨_, _, _, rfl, rfl, e1, fun w => ?_, by have := q.1.2.1; omega, q.1.2.2.1, by rw [g1.len]; exact q.1.2.2.2, fun p np => k _ _ _ q.2 (Evl.Ex.new np) (new_tup al np (g1.rep _))⟩))
        subst w
        cases g1
        exact q.1.1 rfl⟩
abbrev gC (p : Int → Int → Bool) : GB
  | .int i, .int j, Q => Q (.bool (p i j))
  | _, _, _ => False
theorem ops_C {p : Int → Int → Bool} : OpSnd K (rI0 fun i j => .bl (p i j)) (gC p) :=
  ⟨fun x y P P' h q => by
    cases x <;> cases y <;> first | exact h _ q | exact q.elim, fun {b S H x y dx dy Q P} al hx hy q k => by
    cases dx <;> cases dy <;> first | exact q.elim | skip
    rw [hx.int, hy.int]
    exact ⟨_, _, rfl, rfl, k _ _ _ q (Evl.Ex.refl _) (.bl _)⟩⟩
abbrev gEq : GB
  | .int i, .int j, Q => Q (.bool (decide (i = j)))
  | .str i, .str j, Q => Q (.bool (decide (i = j)))
  | .bool i, .bool j, Q => Q (.bool (decide (i = j)))
  | x, y, Q => SeqAt.shaped x = true ∧ SeqAt.shaped y = true ∧ Q (.bool (PyData.eqv x y))
abbrev gNe : GB
  | .int i, .int j, Q => Q (.bool (!decide (i = j)))
  | .str i, .str j, Q => Q (.bool (!decide (i = j)))
  | .bool i, .bool j, Q => Q (.bool (!decide (i = j)))
  | x, y, Q => SeqAt.shaped x = true ∧ SeqAt.shaped y = true ∧ Q (.bool (!PyData.eqv x y))
abbrev rEqX (K : PySem.W.Frag) : R2 := fun x y H Q => rEq x y H Q ∨ rEqD K x y H Q
abbrev rNeX (K : PySem.W.Frag) : R2 := fun x y H Q => rNe x y H Q ∨ rNeD K x y H Q
theorem op_eqX {X : Cx} (hu : X.A.units + 64 < cLine) : OpR X (compareOp .Eq) (rEqX X.K) := Xg.op_or op_eq (op_eqD hu)
theorem op_neX {X : Cx} (hu : X.A.units + 64 < cLine) : OpR X (compareOp .NotEq) (rNeX X.K) := Xg.op_or op_ne (op_neD hu)
theorem ops_eq : OpSnd K (rEqX K) gEq := ⟨fun x y P P' h q => by
    cases x <;> cases y <;> first | exact h _ q | exact ⟨q.1, q.2.1, h _ q.2.2⟩, fun {b S H x y dx dy Q P} al hx hy q k => by
    cases dx <;> cases dy <;> first
      | exact .inr ⟨_, _, hx.dp, hy.dp, q.1, q.2.1, k _ _ _ q.2.2 (Evl.Ex.refl _) (.bl _)⟩
      | (rw [hx.int, hy.int]; exact .inl ⟨rfl, by simp only [V.int.injEq]; exact k _ _ _ q (Evl.Ex.refl _) (.bl _)⟩)
      | (rw [hx.str, hy.str]; exact .inl ⟨rfl, by simp only [V.str.injEq]; exact k _ _ _ q (Evl.Ex.refl _) (.bl _)⟩)
      | (rw [hx.bool, hy.bool]; exact .inl ⟨rfl, by simp only [V.bl.injEq]; exact k _ _ _ q (Evl.Ex.refl _) (.bl _)⟩)⟩
theorem ops_ne : OpSnd K (rNeX K) gNe := ⟨fun x y P P' h q => by
    cases x <;> cases y <;> first | exact h _ q | exact ⟨q.1, q.2.1, h _ q.2.2⟩, fun {b S H x y dx dy Q P} al hx hy q k => by
    cases dx <;> cases dy <;> first
      | exact .inr ⟨_, _, hx.dp, hy.dp, q.1, q.2.1, k _ _ _ q.2.2 (Evl.Ex.refl _) (.bl _)⟩
      | (rw [hx.int, hy.int]; exact .inl ⟨rfl, by simp only [V.int.injEq]; exact k _ _ _ q (Evl.Ex.refl _) (.bl _)⟩)
      | (rw [hx.str, hy.str]; exact .inl ⟨rfl, by simp only [V.str.injEq]; exact k _ _ _ q (Evl.Ex.refl _) (.bl _)⟩)
      | (rw [hx.bool, hy.bool]; exact .inl ⟨rfl, by simp only [V.bl.injEq]; exact k _ _ _ q (Evl.Ex.refl _) (.bl _)⟩)⟩
abbrev isN : PyData → Bool
  | .none => true
  | _ => false
theorem non_iff {b : Option Addr} {S : Addr → Prop} {H : Hp} {x : V} {d : PyData} (h : Vw K b S H x d) : decide (x = .non) = isN d := by
  cases d with
  | none => rw [h.none]; rfl
  | bool k => rw [h.bool]; exact decide_eq_false fun z => nomatch z
  | int k => rw [h.int]; exact decide_eq_false fun z => nomatch z
  | str k => rw [h.str]; exact decide_eq_false fun z => nomatch z
  | list k =>
    obtain ⟨_, _, rfl, _⟩ := h.list
    exact decide_eq_false fun z => nomatch z
  | tuple k =>
    obtain ⟨_, _, rfl, _⟩ := h.tuple
    exact decide_eq_false fun z => nomatch z
  | dict k =>
    cases h with
    | st h => cases h
abbrev gIs : GB
  | x, .none, Q => Q (.bool (isN x))
  | _, _, _ => False
abbrev gIsNot : GB
  | x, .none, Q => Q (.bool (!isN x))
  | _, _, _ => False
theorem ops_is : OpSnd K (fun x y H Q => y = .non ∧ Q (.bl (decide (x = .non))) H) gIs := ⟨fun x y P P' h q => by
    cases y <;> first | exact h _ q | exact q.elim, fun {b S H x y dx dy Q P} al hx hy q k => by
    cases dy <;> first | exact q.elim | skip
    exact ⟨hy.none, by rw [non_iff hx]; exact k _ _ _ q (Evl.Ex.refl _) (.bl _)⟩⟩
theorem ops_isnot : OpSnd K (fun x y H Q => y = .non ∧ Q (.bl (!decide (x = .non))) H) gIsNot := ⟨fun x y P P' h q => by
    cases y <;> first | exact h _ q | exact q.elim, fun {b S H x y dx dy Q P} al hx hy q k => by
    cases dy <;> first | exact q.elim | skip
    exact ⟨hy.none, by rw [non_iff hx]; exact k _ _ _ q (Evl.Ex.refl _) (.bl _)⟩⟩
abbrev atQ (o : Option PyData) (Q : PyData → Prop) : Prop := match o with
  | some d => Q d
  | none => False
theorem atQ_of {o : Option PyData} {Q : PyData → Prop} (h : atQ o Q) : ∃ d, o = some d ∧ Q d := by
  cases o with
  | none => exact h.elim
  | some d => exact ⟨d, rfl, h⟩
theorem atQ_mono {o : Option PyData} {Q Q' : PyData → Prop} (g : ∀ d, Q d → Q' d) (h : atQ o Q) : atQ o Q' := by
  cases o with
  | none => exact h.elim
  | some d => exact g _ h
abbrev gIx : GB
  | .list ds, .int i, Q => atQ (L2.atI ds i) Q
  | .tuple ds, .int i, Q => atQ (L2.atI ds i) Q
  | _, _, _ => False
theorem ops_ix : OpSnd K (rIx K) gIx := ⟨fun x y P P' h q => by
    cases x <;> cases y <;> first | exact atQ_mono h q | exact q.elim, fun {b S H x y dx dy Q P} al hx hy q k => by
    cases dx <;> cases dy <;> first | exact q.elim | skip
    · obtain ⟨d, e, q⟩ := atQ_of q
      obtain ⟨p, vs, rfl, e1, g⟩ := hx.list
      rw [hy.int]
      obtain ⟨v, e2, e3⟩ := g.atI e
      exact .inl ⟨p, vs, _, v, rfl, rfl, .inl (.inl e1), e2, k _ _ _ q (Evl.Ex.refl _) e3⟩
    · obtain ⟨d, e, q⟩ := atQ_of q
      obtain ⟨p, vs, rfl, e1, g⟩ := hx.tuple
      rw [hy.int]
      obtain ⟨v, e2, e3⟩ := g.atI e
      exact .inr (.inl ⟨p, vs, _, v, rfl, rfl, e1, e2, k _ _ _ q (Evl.Ex.refl _) e3⟩)⟩
def cutD (xs : List PyData) (lo hi : Option Int) : List PyData := (xs.drop (HT.sIx xs.length 0 lo)).take (HT.sIx xs.length xs.length hi - HT.sIx xs.length 0 lo)
theorem DaL.cut {H : Hp} {vs : List V} {ds : List PyData} (h : DaL K H vs ds) (lo hi : Option Int) : DaL K H (cutV vs lo hi) (cutD ds lo hi) := by
  unfold cutV cutD
  rw [h.len]
  exact (h.drop _).take _
structure SndO (K : PySem.W.Frag) (t : TO) (c : Nat) (f : List Sl → (Option Int → Prop) → Prop) : Prop where
  mono : ∀ (ρ : List Sl) (P P' : Option Int → Prop), (∀ d, P d → P' d) → f ρ P → f ρ P'
  go : ∀ {b : Option Addr} {S : Addr → Prop} {m : Nat} {σ : L2.St} {H : Hp} {ρ : List Sl} {Q : Option Int → Hp → Prop} {P : Option Int → Prop}, DEnv K b S m H σ ρ → m + c ≤ LIM → f ρ P →
    (∀ k H', P k → Stp K b H H' → BxO b H' (m + c) → Q k H') → t σ H Q
abbrev oSome (f : FE) : List Sl → (Option Int → Prop) → Prop := fun ρ Q => f ρ (asI fun i => Q (some i))
theorem sndo_some (a : Snd md K ta ca fa) : SndO K (tPart ta) ca (oSome fa) := ⟨fun ρ P P' h q => a.mono _ _ _ (asI_mono fun i => h _) q, fun E hm hf k => a.go E hm hf fun d v H' p st bx vd => by
    obtain ⟨i, rfl, q⟩ := asI_of p vd
    exact ⟨i, rfl, k _ _ q st bx⟩⟩
abbrev eSl (fa : FE) (fl fh : List Sl → (Option Int → Prop) → Prop) : FE := fun ρ Q => fa ρ fun x => fl ρ fun lo => fh ρ fun hi => match x with
  | .list ds => Q (.list (cutD ds lo hi))
  | .tuple ds => Q (.tuple (cutD ds lo hi))
  | _ => False
abbrev rSlX (K : PySem.W.Frag) : V → Option Int → Option Int → Hp → VK → Prop := fun x lo hi H Q => rSlL K x lo hi H Q ∨ rSlA K x lo hi H Q
theorem sl_X {X : Cx} : L2.SlR X (rSlX X.K) := Pw.sl_or sl_list sl_tupA
theorem snd_sl {tl th : TO} {cl ch : Nat} {fl fh : List Sl → (Option Int → Prop) → Prop} (a : Snd md K ta ca fa) (l : SndO K tl cl fl) (h : SndO K th ch fh) : Snd true K (tSl (rSlX K) ta tl th) (ca + (cl + ch)) (eSl fa fl fh) := mk_snd
  (fun ρ P P' hp q => a.mono _ _ _ (fun x => l.mono _ _ _ fun lo => h.mono _ _ _ fun hi z => by
    cases x <;> first | exact hp _ z | exact z.elim) q)
  (fun E hm hf k => a.go E (by omega) hf fun dx v H1 p st bx vd => l.go (E.step st bx) (by omega) p fun lo H2 p2 st2 bx2 => h.go ((E.step st bx).step st2 bx2) (by omega) p2 fun hi H3 p3 st3 bx3 => by
    have vd := (vd.vw.step st2 E.bs).step st3 E.bs
    have st4 := (st.trans st2).trans st3
    have al := (E.step st4 bx3).al
    cases dx <;> first | exact p3.elim | skip
    · obtain ⟨p1, vs, rfl, e1, g⟩ := vd.list
      exact .inl ⟨p1, vs, rfl, .inl (.inl e1), fun q nq => k _ _ _ p3 (st4.trans (Stp.ex (Evl.Ex.new nq))) ((bx3.le (by omega)).ex (Evl.Ex.new nq)) (new_lst al nq (g.cut lo hi))⟩
    · obtain ⟨p1, vs, rfl, e1, g⟩ := vd.tuple
      refine .inr ⟨p1, vs, rfl, e1, fun z => ?_, fun z q nq => k _ _ _ p3 (st4.trans (Stp.ex (Evl.Ex.new nq))) ((bx3.le (by omega)).ex (Evl.Ex.new nq)) (new_tup al nq (g.cut lo hi))⟩
      refine k _ _ _ p3 st4 (bx3.le (by omega)) ?_
      have t1 := vd.tup'
      unfold cutD
      rw [← g.len, z.1, z.2, List.drop_zero, Nat.sub_zero, g.len, List.take_length]
      exact t1)
structure CallSnd (K : PySem.W.Frag) (r : List V → Hp → VK → Prop) (g : List PyData → (PyData → Prop) → Prop) : Prop where
  mono : ∀ x (P P' : PyData → Prop), (∀ d, P d → P' d) → g x P → g x P'
  run : ∀ {b : Option Addr} {S : Addr → Prop} {H : Hp} {vs : List V} {ds : List PyData} {Q : VK} {P : PyData → Prop}, Al S H → VwL false K b S H vs ds → g ds P →
    (∀ d v H', P d → Evl.Ex H H' → Da K (rm H' S) v d → Q v H') → r vs H Q
abbrev eCB (g : List PyData → (PyData → Prop) → Prop) (fd : FD) : FE := fun ρ Q => fd ρ fun ds => g ds Q
theorem VwL.v {b : Option Addr} {S : Addr → Prop} {H : Hp} : ∀ {vs : List V} {ds : List PyData}, VwL md K b S H vs ds → VwL false K b S H vs ds
  | _, _, .nil => .nil
  | _, _, .cons h g => .cons h.vw (VwL.v g)
theorem snd_cb {r : List V → Hp → VK → Prop} {g : List PyData → (PyData → Prop) → Prop} (o : CallSnd K r g) (a : SndD md K tr n cr fd) : Snd true K (tCB r tr) cr (eCB g fd) := mk_snd
  (fun ρ P P' h q => a.mono _ _ _ (fun ds => o.mono ds _ _ h) q)
  (fun E hm hf k => a.go E hm hf fun ds vs H1 h1 l s1 b1 d1 => o.run (E.step s1 b1).al d1.v h1 fun d v H' p e q => k d v H' p (s1.trans (Stp.ex e)) (b1.ex e) q)
abbrev g1 (g : PyData → (PyData → Prop) → Prop) : List PyData → (PyData → Prop) → Prop
  | [d], Q => g d Q
  | _, _ => False
abbrev g2 (g : PyData → PyData → (PyData → Prop) → Prop) : List PyData → (PyData → Prop) → Prop
  | [d, e], Q => g d e Q
  | _, _ => False
abbrev lenD : PyData → (PyData → Prop) → Prop
  | .list ds, Q => Q (.int ds.length)
  | .tuple ds, Q => Q (.int ds.length)
  | _, _ => False
theorem call1 {r : List V → Hp → VK → Prop} {g : PyData → (PyData → Prop) → Prop} (m : ∀ x (P P' : PyData → Prop), (∀ d, P d → P' d) → g x P → g x P')
    (run : ∀ {b : Option Addr} {S : Addr → Prop} {H : Hp} {v : V} {d : PyData} {Q : VK} {P : PyData → Prop}, Al S H → Vw K b S H v d → g d P → (∀ d v H', P d → Evl.Ex H H' → Da K (rm H' S) v d → Q v H') → r [v] H Q) : CallSnd K r (g1 g) :=
  ⟨fun x P P' h q => by
    unfold g1 at q ⊢
    split at q
    · exact m _ _ _ h q
    · exact q.elim, fun al vw q k => by
    unfold g1 at q
    split at q
    · cases vw with
      | cons h g =>
        cases g
        exact run al h q k
    · exact q.elim⟩
theorem call2 {r : List V → Hp → VK → Prop} {g : PyData → PyData → (PyData → Prop) → Prop} (m : ∀ x y (P P' : PyData → Prop), (∀ d, P d → P' d) → g x y P → g x y P')
    (run : ∀ {b : Option Addr} {S : Addr → Prop} {H : Hp} {v w : V} {d e : PyData} {Q : VK} {P : PyData → Prop}, Al S H → Vw K b S H v d → Vw K b S H w e → g d e P → (∀ d v H', P d → Evl.Ex H H' → Da K (rm H' S) v d → Q v H') → r [v, w] H Q) : CallSnd K r (g2 g) :=
  ⟨fun x P P' h q => by
    unfold g2 at q ⊢
    split at q
    · exact m _ _ _ _ h q
    · exact q.elim, fun al vw q k => by
    unfold g2 at q
    split at q
    · cases vw with
      | cons h g =>
        cases g with
        | cons h2 g =>
          cases g
          exact run al h h2 q k
    · exact q.elim⟩
theorem cs_len : CallSnd K (fun xs H Q => ∃ x n, xs = [x] ∧ LenV K x H n ∧ Q (.int n) H) (g1 lenD) := call1
  (fun x P P' h q => by cases x <;> first | exact h _ q | exact q.elim)
  (fun {b S H v d Q P} al h q k => by
    cases d <;> first | exact q.elim | skip
    · obtain ⟨p, vs, rfl, e, g⟩ := h.list
      exact ⟨_, vs.length, rfl, .inl ⟨vs, .inl (.inl e), rfl⟩, by rw [g.len]; exact k _ _ _ q (Evl.Ex.refl _) (.int _)⟩
    · obtain ⟨p, vs, rfl, e, g⟩ := h.tuple
      exact ⟨_, vs.length, rfl, .inr ⟨vs, e, rfl⟩, by rw [g.len]; exact k _ _ _ q (Evl.Ex.refl _) (.int _)⟩)
abbrev intD : PyData → (PyData → Prop) → Prop
  | .int i, Q => Q (.int i)
  | .bool k, Q => Q (.int (if k then 1 else 0))
  | _, _ => False
theorem cs_int : CallSnd K (fun xs H Q => (∃ i, xs = [.int i] ∧ Q (.int i) H) ∨ ∃ k, xs = [.bl k] ∧ Q (.int (if k then 1 else 0)) H) (g1 intD) := call1
  (fun x P P' h q => by cases x <;> first | exact h _ q | exact q.elim)
  (fun {b S H v d Q P} al h q k => by
    cases d <;> first | exact q.elim | skip
    · rw [h.bool]
      exact .inr ⟨_, rfl, k _ _ _ q (Evl.Ex.refl _) (.int _)⟩
    · rw [h.int]
      exact .inl ⟨_, rfl, k _ _ _ q (Evl.Ex.refl _) (.int _)⟩)
theorem cs_min2 : CallSnd K (fun xs H Q => ∃ i j, xs = [.int i, .int j] ∧ Q (.int (if j < i then j else i)) H) (g2 (gI fun i j => if j < i then j else i)) := call2
  (fun x y P P' h q => by cases x <;> cases y <;> first | exact h _ q | exact q.elim)
  (fun {b S H v w d e Q P} al h h2 q k => by
    cases d <;> cases e <;> first | exact q.elim | skip
    rw [h.int, h2.int]
    exact ⟨_, _, rfl, k _ _ _ q (Evl.Ex.refl _) (.int _)⟩)
abbrev intsQ (Q : List Int → Prop) : PyData → Prop
  | .list ds => ∃ ns : List Int, ds = ns.map PyData.int ∧ Q ns
  | _ => False
theorem intsQ_mono {P P' : List Int → Prop} (h : ∀ k, P k → P' k) : ∀ d, intsQ P d → intsQ P' d := fun d g => by
  cases d <;> first | exact let ⟨ns, e, q⟩ := g; ⟨ns, e, h _ q⟩ | exact g.elim
theorem intsQ_of {b : Option Addr} {S : Addr → Prop} {H : Hp} {Q : List Int → Prop} {d : PyData} {v : V} (h : intsQ Q d) (g : Vw K b S H v d) : ∃ p ns, v = .ref p ∧ SqL K H p (ns.map V.int) ∧ Q ns := by
  cases d with
  | list ds =>
    obtain ⟨ns, rfl, q⟩ := h
    obtain ⟨p, vs, rfl, e, g⟩ := g.list
    rw [g.ints_inv] at e
    exact ⟨p, ns, rfl, .inl (.inl e), q⟩
  | _ => exact h.elim
theorem cs_min : CallSnd K (rMin K) (g1 fun d Q => intsQ (fun ns => 0 < ns.length ∧ ∀ m, m ∈ ns → (∀ y, y ∈ ns → m ≤ y) → Q (.int m)) d) := call1
  (fun x P P' h q => intsQ_mono (fun ns z => ⟨z.1, fun m h1 h2 => h _ (z.2 m h1 h2)⟩) _ q)
  (fun al h q k => let ⟨p, ns, e, s, q⟩ := intsQ_of q h; ⟨p, ns, by rw [e], s, q.1, fun m h1 h2 => k _ _ _ (q.2 m h1 h2) (Evl.Ex.refl _) (.int _)⟩)
theorem cs_max : CallSnd K (rMax K) (g1 fun d Q => intsQ (fun ns => 0 < ns.length ∧ ∀ m, m ∈ ns → (∀ y, y ∈ ns → y ≤ m) → Q (.int m)) d) := call1
  (fun x P P' h q => intsQ_mono (fun ns z => ⟨z.1, fun m h1 h2 => h _ (z.2 m h1 h2)⟩) _ q)
  (fun al h q k => let ⟨p, ns, e, s, q⟩ := intsQ_of q h; ⟨p, ns, by rw [e], s, q.1, fun m h1 h2 => k _ _ _ (q.2 m h1 h2) (Evl.Ex.refl _) (.int _)⟩)
abbrev boolsQ (Q : List Bool → Prop) : PyData → Prop
  | .list ds => ∃ ns : List Bool, ds = ns.map PyData.bool ∧ Q ns
  | _ => False
theorem boolsQ_mono {P P' : List Bool → Prop} (h : ∀ k, P k → P' k) : ∀ d, boolsQ P d → boolsQ P' d := fun d g => by
  cases d <;> first | exact let ⟨ns, e, q⟩ := g; ⟨ns, e, h _ q⟩ | exact g.elim
theorem boolsQ_of {b : Option Addr} {S : Addr → Prop} {H : Hp} {Q : List Bool → Prop} {d : PyData} {v : V} (h : boolsQ Q d) (g : Vw K b S H v d) : ∃ p ns, v = .ref p ∧ SqL K H p (ns.map V.bl) ∧ Q ns := by
  cases d with
  | list ds =>
    obtain ⟨ns, rfl, q⟩ := h
    obtain ⟨p, vs, rfl, e, g⟩ := g.list
    rw [g.bools_inv] at e
    exact ⟨p, ns, rfl, .inl (.inl e), q⟩
  | _ => exact h.elim
theorem cs_all : CallSnd K (rAll K) (g1 fun d Q => boolsQ (fun ns => Q (.bool (ns.all id))) d) := call1
  (fun x P P' h q => boolsQ_mono (fun ns => h _) _ q)
  (fun al h q k => let ⟨p, ns, e, s, q⟩ := boolsQ_of q h; ⟨p, ns, by rw [e], s, k _ _ _ q (Evl.Ex.refl _) (.bl _)⟩)
abbrev negD : PyData → (PyData → Prop) → Prop
  | .int i, Q => Q (.int (-i))
  | _, _ => False
theorem us_neg : UnSnd K (rU fun i => .int (-i)) negD := ⟨fun x P P' h q => by cases x <;> first | exact h _ q | exact q.elim, fun {b S H x dx Q P} al h q k => by
    cases dx <;> first | exact q.elim | skip
    rw [h.int]
    exact ⟨_, rfl, k _ _ _ q (Evl.Ex.refl _) (.int _)⟩⟩
abbrev tupD : PyData → (PyData → Prop) → Prop
  | .list ds, Q => Q (.tuple ds)
  | .tuple ds, Q => Q (.tuple ds)
  | _, _ => False
theorem us_tup : UnSnd K (kTup K) tupD := ⟨fun x P P' h q => by cases x <;> first | exact h _ q | exact q.elim, fun {b S H x dx Q P} al h q k => by
    cases dx <;> first | exact q.elim | skip
    · obtain ⟨p, vs, rfl, e, g⟩ := h.list
      exact .inl ⟨p, vs, rfl, .inl (.inl e), fun q1 nq => k _ _ _ q (Evl.Ex.new nq) (new_tup al nq g)⟩
    · obtain ⟨p, vs, rfl, e, g⟩ := h.tuple
      refine .inr ⟨p, vs, rfl, e, k _ _ _ q (Evl.Ex.refl _) ?_⟩
      cases h with
      | st h => exact h⟩
theorem snd_tupOf (a : Snd md K ta ca fa) : Snd true K (tThen ta (kTup K)) ca (eUn tupD fa) := snd_un0 (r := kTup K) us_tup a
abbrev listOfD : PyData → (List PyData → Prop) → Prop
  | .list ds, Q => Q ds
  | .tuple ds, Q => Q ds
  | _, _ => False
theorem sndl_listOf (a : Snd md K ta ca fa) : SndL K (tCB (fun xs H Q => ∃ p ys, xs = [.ref p] ∧ (SqL K H p ys ∨ SqT K H p ys) ∧ ∀ l, H l = none → Q (.ref l) (upd H l (.lst ys))) (tCons ta tNil)) ca (fun ρ Q => fa ρ fun d => listOfD d Q) := ⟨
  fun ρ P P' h q => a.mono _ _ _ (fun x z => by cases x <;> first | exact h _ z | exact z.elim) q,
  fun E hm hf k => a.go E hm hf fun dx v H1 p st bx vd => by
    cases dx <;> first | exact p.elim | skip
    · obtain ⟨p1, vs, rfl, e, g⟩ := vd.vw.list
      exact ⟨p1, vs, rfl, .inl (.inl (.inl e)), fun l nl => k _ _ _ _ p (back st bx nl) (st.trans (Stp.ex (Evl.Ex.new nl))) (bx.ex (Evl.Ex.new nl)) upd_same (g.fresh nl)⟩
    · obtain ⟨p1, vs, rfl, e, g⟩ := vd.vw.tuple
      exact ⟨p1, vs, rfl, .inr e, fun l nl => k _ _ _ _ p (back st bx nl) (st.trans (Stp.ex (Evl.Ex.new nl))) (bx.ex (Evl.Ex.new nl)) upd_same (g.fresh nl)⟩⟩
abbrev eLenS (i : Nat) : FE := fun ρ Q => match ρ[i]? with
  | some (.scr ns) => Q (.int ns.length)
  | _ => False
theorem snd_lenS {i : Nat} : Snd true K (tCB (fun xs H Q => ∃ x n, xs = [x] ∧ LenV K x H n ∧ Q (.int n) H) (tCons (tVar i) tNil)) 0 (eLenS i) := mk_snd
  (fun ρ P P' h q => by
    unfold eLenS at q ⊢
    split at q
    · exact h _ q
    · exact q.elim)
  (fun {b S m σ H ρ Q P} E hm hf k => by
    unfold eLenS at hf
    split at hf
    · rename_i ns e
      obtain ⟨p, e1, e2⟩ := E.sl i _ e
      refine ⟨_, e1, _, (ns.map V.int).length, rfl, .inl ⟨_, Evl.ex_l rm_le e2, rfl⟩, ?_⟩
      rw [List.length_map]
      exact k _ _ _ hf Stp.refl E.bx (.int _)
    · exact hf.elim)
inductive Ty5 where
  | int | bool | str | list | tuple
def Ty5.nm : Ty5 → String
  | .int => "int" | .bool => "bool" | .str => "str" | .list => "list" | .tuple => "tuple"
abbrev isD : Ty5 → PyData → Bool
  | .int, .int _ => true
  | .int, .bool _ => true
  | .bool, .bool _ => true
  | .str, .str _ => true
  | .list, .list _ => true
  | .tuple, .tuple _ => true
  | _, _ => false
def tyN : PyData → String
  | .none => "NoneType" | .bool _ => "bool" | .int _ => "int" | .str _ => "str" | .list _ => "list" | .tuple _ => "tuple" | .dict _ => "dict"
end
end Dv
namespace Dv
open PySem PySem.Spec PyProof.Rows L2 Xg
open Classical
section
variable {K : PySem.W.Frag} {md : Bool} {ta : TE} {ca : Nat} {fa : FE}
theorem kit_is (t : Ty5) (d : PyData) : kitB (tyN d) t.nm = some (isD t d) := by
  cases t <;> cases d <;> (dsimp only [tyN, Ty5.nm, isD]; decide +kernel)
theorem ty_of {H : Hp} {v : V} {d : PyData} : Dp K H v d → TyX K H v (.type (tyN d))
  | .non => .base .non
  | .bl b => .base (.bl b)
  | .int i => .base (.int i)
  | .str x => .base (.str x)
  | .lst h _ => by
    rcases h with (h | ⟨o, h⟩) | ⟨o, its, n, h1, h2, _⟩
    · exact .base (.lst h)
    · exact .base (.frz h)
    · exact .kList h1 h2
  | .tup h _ => by
    rcases h with (h | ⟨o, h⟩) | ⟨o, its, n, h1, h2, _⟩
    · exact .base (.tup h)
    · exact .fTuple h
    · exact .kTuple h1 h2
abbrev eIsi (t : Ty5) (fa : FE) : FE := fun ρ Q => fa ρ fun d => Q (.bool (isD t d))
theorem snd_isi {t : Ty5} (a : Snd md K ta ca fa) : Snd true K (tCB (rIsi K) (tCons ta (tCons (tC (.ty t.nm)) tNil))) ca (eIsi t fa) := mk_snd
  (fun ρ P P' h q => a.mono _ _ _ (fun d => h _) q)
  (fun E hm hf k => a.go E hm hf fun d v H' p st bx vd => ⟨v, _, _, _, isD t d, rfl, .ty _, ty_of vd.vw.dp, kit_ty (kit_is t d), k _ _ _ p st bx (.bl _)⟩)
end
abbrev pad (n : Nat) (as : List Sl) : List Sl := as ++ List.replicate (n - as.length) .no
abbrev mkF (np n : Nat) (f : FS) : FF := fun as Q => as.length = np ∧ f (pad n as) { nx := fun _ => Q .none, rt := Q, rl := fun ds => Q (.list ds) }
abbrev mkL (np n : Nat) (f : FS) : FFL := fun as Q => as.length = np ∧ f (pad n as) { nx := fun _ => False, rt := fun _ => False, rl := Q }
section
variable {P : Program} {w : World} {K : PySem.W.Frag} {mg : Str → Option Value} {base : Heap}
theorem mkF_mono {t : TS} {c np n : Nat} {f : FS} (h : SndS K t c f) : MonoF (mkF np n f) := fun as P P' hp q => ⟨q.1, h.mono _ { nx := fun _ => P .none, rt := P, rl := fun ds => P (.list ds) } { nx := fun _ => P' .none, rt := P', rl := fun ds => P' (.list ds) } ⟨fun _ => hp _, hp, fun ds => hp _, fun _ h => h, fun _ h => h⟩ q.2⟩
theorem ArgL.len {b : Option Addr} {S : Addr → Prop} {H : Hp} : ∀ {vs : List V} {as : List Sl}, ArgL K b S H vs as → vs.length = as.length
  | _, _, .nil => rfl
  | _, _, .cons _ g => by rw [List.length_cons, List.length_cons, ArgL.len g]
theorem ArgL.at_ {b : Option Addr} {S : Addr → Prop} {H : Hp} : ∀ {vs : List V} {as : List Sl} {i : Nat} {s : Sl}, ArgL K b S H vs as → as[i]? = some s → ∃ v, vs[i]? = some v ∧ ArgR K b S H v s
  | _, _, _, _, .nil, e => by simp at e
  | _, _, 0, _, .cons h g, e => by
    simp at e
    subst e
    exact ⟨_, rfl, h⟩
  | _, _, i + 1, _, .cons h g, e => ArgL.at_ (i := i) g (by simpa using e)
theorem pad_at {n i : Nat} {as : List Sl} {s : Sl} (h : (pad n as)[i]? = some s) : (i < as.length ∧ as[i]? = some s) ∨ s = .no := by
  unfold pad at h
  by_cases l : i < as.length
  · rw [List.getElem?_append_left l] at h
    exact .inl ⟨l, h⟩
  · rw [List.getElem?_append_right (by omega), List.getElem?_replicate] at h
    split at h
    · cases h
      exact .inr rfl
    · cases h
theorem start_at {N : List Str} {vs : List V} {i : Nat} (l : i < vs.length) : (L2.start N vs)[i]? = some (vs[i]?) := by
  unfold L2.start
  rw [List.getElem?_append_left (by rw [List.length_map]; exact l), List.getElem?_map, List.getElem?_eq_getElem l]
  rfl
theorem ok_start {b : Option Addr} {S : Addr → Prop} {m : Nat} {H : Hp} {N : List Str} {vs : List V} {as : List Sl} (hA : ArgL K b S H vs as) (bx : BxO b H m) (bs : ∀ p, b = some p → S p) (al : Al S H ∧ Tbs K H) :
    Ok K S H b b (fun _ => none) m H (L2.start N vs) (pad N.length as) := by
  have sub : ∀ a, SO S b (fun _ => none) a → S a := fun a h => by
    rcases h with h | h | ⟨i, h⟩
    · exact h
    · exact bs a h
    · cases h
  refine ⟨⟨?_, fun i s e => ?_, bx, fun p e => .inr (.inl e), fun a h => al.1 a (sub a h), al.2⟩, fun i j a h => (by cases h), fun i a h => (by cases h), Stp.refl, .inl rfl, bx, fun i a h => (by cases h), fun i ds e ow => ?_, al.1, bs⟩
  · unfold L2.start pad
    rw [List.length_append, List.length_append, List.length_map, List.length_replicate, List.length_replicate, hA.len]
  · rcases pad_at e with ⟨l, e⟩ | rfl
    · obtain ⟨v, e1, e2⟩ := hA.at_ e
      rw [start_at (by rw [hA.len]; exact l), e1]
      cases s with
      | no => trivial
      | dt d => exact ⟨v, rfl, Da.mono (rm_sub sub) e2⟩
      | own _ => exact e2.elim
      | box => exact let ⟨p, r1, r2⟩ := e2; ⟨p, by rw [r1], r2⟩
      | scr ns => exact let ⟨p, r1, r2⟩ := e2; ⟨p, by rw [r1], Evl.ex_l (rm_sub sub) r2⟩
      | op g => exact ⟨v, rfl, TbO.mono (rm_sub sub) e2⟩
      | fn k ds => exact ⟨v, rfl, LamV.mono (rm_sub sub) e2⟩
      | exc k ds => exact e2.elim
      | dct k => exact e2.elim
      | dck k => exact ⟨v, rfl, DcO.mono (rm_sub sub) e2⟩
      | frt k => exact e2.elim
    · trivial
  · rcases pad_at e with ⟨l, e⟩ | z
    · obtain ⟨v, e1, e2⟩ := hA.at_ e
      cases ds <;> first | exact absurd ow Bool.false_ne_true | exact e2.elim
    · subst z
      exact absurd ow Bool.false_ne_true
theorem okD {x qual : Str} {st : Stmt} {f : Addr} {fd : FuncData} {N ps : List Str} {k c : Nat} {t : TS} {g : FS} (F : Fun K x qual st f fd) (S : FnScope N ps (defScope st)) (sn : SndS K t c g)
    (hbody : ∀ (cdv : Value) (A : Around) (outer : List Env) (s : Shared) (H : Hp), (A.deeper (envOfC qual (defScope st) s.heap.objs.size f cdv)).guards = some [] → Room k (A.deeper (envOfC qual (defScope st) s.heap.objs.size f cdv)) →
      PSs (cxOf CX0 P w K mg base N qual (defScope st) f cdv A outer s H E0).nox (defBody st) t) : FnG P w K mg base (k + 1) f fd ps (spD K c (mkF ps.length N.length g)) := by
  refine okG F S (fun vs H Q h => ?_) fun cdv A outer s H vs Q hG hr h => ⟨t, hbody cdv A outer s H hG hr, ?_⟩
  · obtain ⟨b, S, m, as, hA, _, _, _, _, l, _⟩ := h
    rw [hA.len, l]
  · obtain ⟨b, S, m, as, hA, bx, bs, al, hm, l, hf⟩ := h
    refine sn.go (ok_start (N := N) hA bx bs al) hm hf ⟨fun b' os σ' H' ρ' q o _ => q _ _ o.old o.obx .non, fun d v H' q o hd => q _ _ o.old o.obx hd, fun ds vs p H' q o n e g => q _ _ o.old o.obx (.lst (rm_in (al.1.new n) e) (g.mono (rm_sub fun a z => .inl z))), fun _ _ _ _ _ q => q.elim, fun _ _ _ _ _ q => q.elim⟩
theorem okL {x qual : Str} {st : Stmt} {f : Addr} {fd : FuncData} {N ps : List Str} {k c : Nat} {t : TS} {g : FS} (F : Fun K x qual st f fd) (S : FnScope N ps (defScope st)) (sn : SndS K t c g)
    (hbody : ∀ (cdv : Value) (A : Around) (outer : List Env) (s : Shared) (H : Hp), (A.deeper (envOfC qual (defScope st) s.heap.objs.size f cdv)).guards = some [] → Room k (A.deeper (envOfC qual (defScope st) s.heap.objs.size f cdv)) →
      PSs (cxOf CX0 P w K mg base N qual (defScope st) f cdv A outer s H E0).nox (defBody st) t) : FnG P w K mg base (k + 1) f fd ps (spL K c (mkL ps.length N.length g)) := by
  refine okG F S (fun vs H Q h => ?_) fun cdv A outer s H vs Q hG hr h => ⟨t, hbody cdv A outer s H hG hr, ?_⟩
  · obtain ⟨b, S, m, as, hA, _, _, _, _, l, _⟩ := h
    rw [hA.len, l]
  · obtain ⟨b, S, m, as, hA, bx, bs, al, hm, l, hf⟩ := h
    exact sn.go (ok_start (N := N) hA bx bs al) hm hf ⟨fun _ _ _ _ _ q => q.elim, fun _ _ _ q => q.elim, fun ds vs p H' q o n e g => q _ _ _ n o.old o.obx e g, fun _ _ _ _ _ q => q.elim, fun _ _ _ _ _ q => q.elim⟩
structure Df (P : Program) (w : World) (K : PySem.W.Frag) (mg : Str → Option Value) (base : Heap) (x : Str) (ps : List Str) (k : Nat) (sp : Sp) : Prop where
  ex : ∃ (f : Addr) (fd : FuncData), FnG P w K mg base k f fd ps sp ∧ mg x = some (.ref f) ∧ PySem.W.keepIn K (.ref f) = true ∧ L2.Binds K fd ps []
theorem pe_df {X : Cx} {x : Str} {ps : List Str} {k : Nat} {sp : Sp} {p pos : Pos} {e : Expr} {es : List Expr} {t : TA} (D : Df X.prog X.w X.K X.mg X.base x ps k sp) (hG : X.A.guards = some []) (hr : Room k X.A) (hg : Gl X x) (ha : PA X (e :: es) t)
    (hdb : (x == ("__debug__" : Str)) = false := by decide) (he : starEach (e :: es) X.env = (false, eval e X.env) :: starEach es X.env := by rfl) (hpl : (backTo pos (starEach es X.env)).any (·.1) = false := by rfl) :
    PE X (.Call (.Name x p) (e :: es) [] pos) (tCallG sp t) := by
  obtain ⟨f, fd, G, gm, kp, b⟩ := D.ex
  exact pe_callG G hG hr hg gm kp b ha hdb he hpl
theorem pe_con {X : Cx} {x : Str} {v : V} {pos : Pos} (hg : Gl X x) (h : ∃ u, X.mg x = some u ∧ L2.RelV v u) (hd : (x == ("__debug__" : Str)) = false := by decide) : PE X (.Name x pos) (tC v) := let ⟨_, g1, g2⟩ := h; pe_glob hg g1 g2 hd
theorem toG {f : Addr} {fd : FuncData} {ps : List Str} {k : Nat} {sp : Sp} (F : FnOk P w K mg base CX0 k f fd ps sp) : FnG P w K mg base k f fd ps sp :=
  ⟨fun vs H Q h => F.len _ _ _ _ h, fun A outer s H args us vs Q _ hr ev hb r h => F.run A outer s H args us vs Q E0 hr ev hb r h⟩
theorem impG {f : Addr} {fd : FuncData} {ps : List Str} {k : Nat} {sp sp' : Sp} (F : FnG P w K mg base k f fd ps sp) (h : ∀ vs H Q, sp' vs H Q E0 → sp vs H Q E0) : FnG P w K mg base k f fd ps sp' :=
  ⟨fun vs H Q q => F.len _ _ _ (h _ _ _ q), fun A outer s H args us vs Q hG hr ev hb r q => F.run A outer s H args us vs Q hG hr ev hb r (h _ _ _ q)⟩
end
def F_take : FF := fun as Q => match as with
  | [.box, .dt (.int n)] => (0 < n ∧ n < 1073741824) ∧ ∀ r, 0 ≤ r → r < n → Q (.int r)
  | _ => False
theorem m_take : MonoF F_take := fun as P P' h q => by
  unfold F_take at q ⊢
  split at q
  · exact ⟨q.1, fun r a b => h _ (q.2 r a b)⟩
  · exact q.elim
def spBx (K : PySem.W.Frag) : Sp := fun vs H Q _ => ∃ (a : Addr) (ns : List Int) (k : Nat), vs = [.ref a, .int k] ∧ SqL K H a (ns.map V.int) ∧ k ≤ 1000 ∧
  ∀ p x y, H p = none → 0 ≤ x → 0 ≤ y → y < 1000000000000 → Q (.ref p) (upd H p (.lst [.int x, .int y, .int 0]))
end Dv
namespace Dv
open PySem PySem.Spec PyProof.Rows L2 Xg
open Classical
section
variable {K : PySem.W.Frag} {ta tb : TE} {ca cb : Nat} {fa fb : FE}
theorem gN_some {i : Nat} : ∀ d (ρ : List Sl) (P : List Sl → Prop), gN i d ρ P → ∃ ρ', P ρ' := fun d ρ P h => ⟨_, h⟩
abbrev eL (f : FD) : FE := fun ρ Q => f ρ fun ds => Q (.list ds)
abbrev fListOf (fa : FE) : FD := fun ρ Q => fa ρ fun d => listOfD d Q
abbrev minD : List PyData → (PyData → Prop) → Prop := g1 fun d Q => intsQ (fun ns => 0 < ns.length ∧ ∀ m, m ∈ ns → (∀ y, y ∈ ns → m ≤ y) → Q (.int m)) d
abbrev maxD : List PyData → (PyData → Prop) → Prop := g1 fun d Q => intsQ (fun ns => 0 < ns.length ∧ ∀ m, m ∈ ns → (∀ y, y ∈ ns → y ≤ m) → Q (.int m)) d
abbrev allD : List PyData → (PyData → Prop) → Prop := g1 fun d Q => boolsQ (fun ns => Q (.bool (ns.all id))) d
def shal : Nat → PyData → Bool
  | _, .none => true
  | _, .bool _ => true
  | _, .int _ => true
  | _, .str _ => true
  | 0, .list _ => false
  | 0, .tuple _ => false
  | n + 1, .list ds => decide (ds.length ≤ 1000) && ds.all (shal n)
  | n + 1, .tuple ds => decide (ds.length ≤ 1000) && ds.all (shal n)
  | _, .dict _ => false
def F_same : FF := fun as Q => match as with
  | [.dt x, .dt y] => (x = y ∧ shal 5 x = true) ∧ Q (.bool true)
  | _ => False
theorem m_same : MonoF F_same := fun as P P' h q => by
  unfold F_same at q ⊢
  split at q
  · exact ⟨q.1, h _ q.2⟩
  · exact q.elim
end
end Dv
namespace Ke
open PySem PySem.Spec PyProof.Rows L2 Xg Dv
def F_take : FF := fun as Q => match as with
  | [.box, .dt (.int n)] => (0 < n ∧ n < 4611686018427387904) ∧ ∀ r, 0 ≤ r → r < n → Q (.int r)
  | _ => False
theorem m_take : MonoF F_take := fun as P P' h q => by
  unfold F_take at q ⊢
  split at q
  · exact ⟨q.1, fun r a b => h _ (q.2 r a b)⟩
  · exact q.elim
theorem log_n {n : Int} (h0 : 0 < n) (h : n < 4611686018427387904) : n.natAbs.log2 < 9000 := by
  have h1 : n.natAbs < 2 ^ 62 := by omega
  have := (Nat.log2_lt (by omega : n.natAbs ≠ 0)).mpr h1
  omega
end Ke
namespace Kd
open PySem PySem.Spec PyProof.Rows L2 Xg
open Dv (shal)
def topS (i : Nat) : Stmt := PySem.Challenge.pw_forthback_k23_tables_by_own_least_sums.main.body.getD i (.Pass ⟨0, 0, 0, 0⟩)
abbrev stBox : Stmt := topS 26
abbrev stTake : Stmt := topS 27
theorem scB : FnScope ["_law_script", "_law_k", "_law_cell"] ["_law_script", "_law_k"] (defScope stBox) := ⟨rfl, rfl, rfl, by decide +kernel, rfl, by decide +kernel, by decide +kernel⟩
theorem scT : FnScope ["_law_box_here", "_law_below", "_law_found", "_law_once"] ["_law_box_here", "_law_below"] (defScope stTake) := ⟨rfl, rfl, rfl, by decide +kernel, rfl, by decide +kernel, by decide +kernel⟩
theorem inRange {i n : Int} (h : 0 < n) : 0 ≤ i % n ∧ i % n < n := ⟨Int.emod_nonneg i (by omega), Int.emod_lt_of_pos i h⟩
theorem pos1 : (0 : Int) < 2147483647 := by decide
theorem pos2 : (0 : Int) < 30011 := by decide
theorem pos3 : (0 : Int) < 2147483629 := by decide
section
variable {P : Program} {w : World} {K : PySem.W.Frag} {mg : Str → Option Value} {base : Heap}
def spTake : Sp := fun vs H Q _ => ∃ (b : Addr) (x y z n : Int), vs = [.ref b, .int n] ∧ H b = some (.lst [.int x, .int y, .int z]) ∧
  0 ≤ x ∧ 0 ≤ y ∧ y < 1000000000000 ∧ 0 ≤ z ∧ z < 1000000000 ∧ 0 < n ∧ n < 4611686018427387904 ∧
  ∀ r x' z', 0 ≤ r → r < n → 0 ≤ x' → z ≤ z' → z' ≤ z + 1 → Q (.int r) (upd H b (.lst [.int x', .int y, .int z']))
theorem ok_take {f : Addr} {fd : FuncData} {k : Nat} (F : Fun K "_law_take" "_law_take" stTake f fd) :
    FnOk P w K mg base CX0 (k + 1) f fd ["_law_box_here", "_law_below"] spTake := by
  refine F.ok scT (fun vs H Q E h => ?_) (fun cdv A outer s H vs Q E hr h => ?_)
  · obtain ⟨b, x, y, z, n, rfl, _⟩ := h
    rfl
  · obtain ⟨b, x, y, z, n, rfl, hb, hx, hy, hy2, hz, hz2, hn, hn2, q⟩ := h
    refine ⟨_, pss_cons (ps_if (pt_cmpR op_gt (pe_ix ix_list (pv 0) pe_int (fun _ _ => rfl)) pe_int (nomark _))
        (pss_cons (ps_set (i := 2) scT.nd rfl (.inl rfl) (pe_op op_mod (pe_ix ix_list (pv 0) pe_int (fun _ _ => rfl)) (pv 1)))
        (pss_cons (ps_asg (pe_op op_fdivW (pe_ix ix_list (pv 0) pe_int (fun _ _ => rfl)) (pv 1)) (pg_sub (pv 0) pe_int set_list))
        (pss_one (ps_ret (pv 2))))) pss_nil)
      (pss_cons (ps_asg (pe_op op_add (pe_ix ix_list (pv 0) pe_int (fun _ _ => rfl)) pe_int) (pg_sub (pv 0) pe_int set_list))
      (pss_cons (ps_set (i := 3) scT.nd rfl (.inl rfl) (pe_op op_mod (pe_op op_pow (pe_op op_add (pe_ix ix_list (pv 0) pe_int (fun _ _ => rfl)) (pe_op op_mul pe_int (pe_ix ix_list (pv 0) pe_int (fun _ _ => rfl)))) pe_int) pe_int))
      (pss_one (ps_ret (pe_op op_mod (pe_op op_fdivW (pe_op op_mod (pe_op op_add (pe_op op_mul (pv 3) (pe_op op_add (pe_op op_mod (pv 3) pe_int) pe_int)) (pe_op op_mul (pe_ix ix_list (pv 0) pe_int (fun _ _ => rfl)) pe_int)) pe_int) pe_int) (pv 1)))))), ?_⟩
    have s0 : SqL K H b [.int x, .int y, .int z] := .inl (.inl hb)
    refine ⟨_, rfl, b, _, 0, _, rfl, rfl, s0, atI_nat (j := 0) rfl, x, 0, rfl, rfl, _, rfl, ite2 (fun e => ?_) (fun e => ?_)⟩
    · refine ⟨_, rfl, b, _, 0, _, rfl, rfl, s0, atI_nat (j := 0) rfl, _, rfl, x, n, rfl, rfl, hn, ?_⟩
      refine ⟨_, rfl, b, _, 0, _, rfl, rfl, s0, atI_nat (j := 0) rfl, _, rfl, x, n, rfl, rfl, ⟨hn, Ke.log_n hn hn2⟩, ?_⟩
      refine ⟨_, rfl, b, _, 0, 0, rfl, rfl, hb, rfl, ?_⟩
      refine ⟨_, rfl, ?_⟩
      have g := inRange (i := x) hn
      exact q _ _ _ g.1 g.2 (Int.ediv_nonneg hx (by omega)) (Int.le_refl _) (by omega)
    · refine ⟨_, rfl, b, _, 2, _, rfl, rfl, s0, atI_nat (j := 2) rfl, z, 1, rfl, rfl, ?_⟩
      refine ⟨_, rfl, b, _, 2, 2, rfl, rfl, hb, rfl, ?_⟩
      have s1 : SqL K (upd H b (.lst [.int x, .int y, .int (z + 1)])) b [.int x, .int y, .int (z + 1)] := .inl (.inl upd_same)
      refine ⟨_, rfl, b, _, 1, _, rfl, rfl, s1, atI_nat (j := 1) rfl, _, rfl, b, _, 2, _, rfl, rfl, s1, atI_nat (j := 2) rfl, 48271, z + 1, rfl, rfl, .inl ⟨by decide, by decide⟩,
        y, 48271 * (z + 1), rfl, rfl, _, 5, rfl, rfl, ⟨by decide, by decide, ?_⟩, _, 2147483647, rfl, rfl, pos1, ?_⟩
      · omega
      · have g := inRange (i := (y + 48271 * (z + 1)) ^ (5 : Int).toNat) (n := 2147483647) (by decide)
        have g2 := inRange (i := (y + 48271 * (z + 1)) ^ (5 : Int).toNat % 2147483647) (n := 30011) (by decide)
        refine ⟨_, rfl, _, rfl, _, 30011, rfl, rfl, pos2, _, 7, rfl, rfl, _, _, rfl, rfl, .inl ⟨by omega, by omega⟩,
          _, rfl, b, _, 2, _, rfl, rfl, s1, atI_nat (j := 2) rfl, z + 1, 7919, rfl, rfl, .inr ⟨by decide, by decide⟩, _, _, rfl, rfl, _, 2147483629, rfl, rfl, pos3,
          _, 64, rfl, rfl, ⟨by decide, by decide⟩, _, rfl, _, n, rfl, rfl, hn, ?_⟩
        exact q _ x (z + 1) (inRange hn).1 (inRange hn).2 hx (by omega) (Int.le_refl _)
def spBox (K : PySem.W.Frag) : Sp := fun vs H Q _ => ∃ (a : Addr) (ns : List Int) (k : Nat), vs = [.ref a, .int k] ∧ SqL K H a (ns.map V.int) ∧ k ≤ 1000 ∧
  ∀ p x y, H p = none → 0 ≤ x → 0 ≤ y → y < 1000000000000 → Q (.ref p) (upd H p (.lst [.int x, .int y, .int 0]))
theorem ok_box {f : Addr} {fd : FuncData} {k : Nat} (F : Fun K "_law_box" "_law_box" stBox f fd) (ml : mg "len" = none) (ma : mg "abs" = none) (mi : mg "int" = none) :
    FnOk P w K mg base CX0 (k + 1) f fd ["_law_script", "_law_k"] (spBox K) := by
  refine F.ok scB (fun vs H Q E h => ?_) (fun cdv A outer s H vs Q E hr h => ?_)
  · obtain ⟨a, ns, k, rfl, _⟩ := h
    rfl
  · obtain ⟨a, ns, k, rfl, hS, hk, q⟩ := h
    refine ⟨_, Evl.pss_cut (ps_set (i := 2) scB.nd rfl (.inl rfl) (pe_ifExp (pt_cmpR op_lt (pv 1) (pe_callB call_len_seq (by rfl) ml PySem.boot_len (pa_cons (pv 0) pa_nil)) (nomark _)) (pe_ix ix_list (pv 0) (pv 1) (fun _ _ => rfl)) pe_int))
      (pss_one (ps_ret (pe_lst (pa_cons (pe_op op_mul (pe_callB call_abs (by rfl) ma (by decide +kernel) (pa_cons (pv 2) pa_nil))
          (pe_callTy call_int1 (by rfl) mi (by decide +kernel) (pa_cons (pe_cmpR op_ge (pe_callB call_abs (by rfl) ma (by decide +kernel) (pa_cons (pv 2) pa_nil)) (pe_op op_pow pe_int pe_int) (nomark _)) pa_nil)))
        (pa_cons (pe_op op_add (pe_op op_add (pe_op op_mod (pv 2) pe_int) (pe_op op_mul pe_int (pv 1))) pe_int)
        (pa_cons pe_int pa_nil)))))), ?_⟩
    refine ⟨fun σ' H' => H' = H ∧ ∃ c : Int, σ' = [some (.ref a), some (.int k), some (.int c)], ?_, fun σ' H' h => ?_⟩
    · refine ⟨_, rfl, _, rfl, a, _, rfl, .inl hS, _, _, rfl, rfl, _, rfl, ite2 (fun e => ?_) (fun e => ?_)⟩
      · have e1 : (k : Int) < ((ns.map V.int).length : Nat) := of_decide_eq_true e
        have e2 : k < ns.length := by
          rw [List.length_map] at e1
          omega
        have g : (ns.map V.int)[k]? = some (.int ns[k]) := by
          rw [List.getElem?_map, List.getElem?_eq_getElem e2]
          rfl
        exact ⟨_, rfl, _, rfl, a, _, _, _, rfl, rfl, hS, atI_nat g, rfl, ns[k], rfl⟩
      · exact ⟨rfl, 0, rfl⟩
    · obtain ⟨rfl, c, rfl⟩ := h
      have g := inRange (i := c) (n := 2147483629) (by decide)
      refine ⟨_, rfl, c, rfl, _, rfl, c, rfl, 10, 18, rfl, rfl, ⟨by decide, by decide, by decide⟩, _, _, rfl, rfl, .inr ⟨_, rfl, ?_⟩⟩
      have hb : ∀ b : Bool, (0 : Int) ≤ (if b = true then 1 else 0) ∧ (if b = true then (1 : Int) else 0) ≤ 1 := by decide
      have ha : (0 : Int) ≤ (if c < 0 then -c else c) := by split <;> omega
      refine ⟨_, _, rfl, rfl, .inr ⟨?_, ?_⟩, _, rfl, c, 2147483629, rfl, rfl, pos3, _, rfl, 7919, k, rfl, rfl, .inl ⟨by decide, by decide⟩, _, _, rfl, rfl, _, 67, rfl, rfl,
        (show 3 ≤ sizeLine by decide), fun p hp => ?_⟩
      · exact Int.lt_of_lt_of_le (by decide) (hb _).1
      · exact Int.lt_of_le_of_lt (hb _).2 (by decide)
      · exact q p _ _ hp (Int.mul_nonneg ha (hb _).1) (by omega) (by omega)
end
abbrev stSame : Stmt := topS 29
theorem scS : FnScope ["_law_found", "_law_due", "_law_mine", "_law_its"] ["_law_found", "_law_due"] (defScope stSame) := ⟨rfl, rfl, rfl, by decide +kernel, rfl, by decide +kernel, by decide +kernel⟩
section
variable {K : PySem.W.Frag} {H H' : Hp} {a b : Addr} {xs ys : List V}
theorem tyx_l (h : SqL K H a xs) : TyX K H (.ref a) (.type "list") := by
  rcases h with (h | ⟨o, h⟩) | ⟨o, its, n, h1, h2, _⟩
  · exact .base (.lst h)
  · exact .base (.frz h)
  · exact .kList h1 h2
theorem tyx_t (h : SqT K H a xs) : TyX K H (.ref a) (.type "tuple") := by
  rcases h with (h | ⟨o, h⟩) | ⟨o, its, n, h1, h2, _⟩
  · exact .base (.tup h)
  · exact .fTuple h
  · exact .kTuple h1 h2
mutual
theorem dp_mono (e : Evl.Ex H H') : ∀ {v : V} {d : PyData}, Dp K H v d → Dp K H' v d
  | _, _, .non => .non
  | _, _, .bl b => .bl b
  | _, _, .int i => .int i
  | _, _, .str x => .str x
  | _, _, .lst h g => .lst (Evl.ex_l e h) (dpa_mono e g)
  | _, _, .tup h g => .tup (Evl.ex_t e h) (dpa_mono e g)
theorem dpa_mono (e : Evl.Ex H H') : ∀ {vs : List V} {ds : List PyData}, DpAll K H vs ds → DpAll K H' vs ds
  | _, _, .nil => .nil
  | _, _, .cons h g => .cons (dp_mono e h) (dpa_mono e g)
end
theorem dpa_len : ∀ {vs : List V} {ds : List PyData}, DpAll K H vs ds → vs.length = ds.length
  | _, _, .nil => rfl
  | _, _, .cons _ g => by rw [List.length_cons, List.length_cons, dpa_len g]
theorem dpa_at : ∀ {vs : List V} {ds : List PyData} {i : Nat} {v : V}, DpAll K H vs ds → vs[i]? = some v → ∃ d, ds[i]? = some d ∧ Dp K H v d
  | _, _, _, _, .nil, e => by simp at e
  | _, _, 0, _, .cons h g, e => by
    simp at e
    subst e
    exact ⟨_, rfl, h⟩
  | _, _, i + 1, v, .cons h g, e => dpa_at (i := i) g (by simpa using e)
theorem walk_zipT {n : Nat} (hn : n = min xs.length ys.length) : Walk (RZ.ItzT K a b) n (fun H => SqT K H a xs ∧ SqT K H b ys) (YPair (fun i => xs[i]?) (fun i => ys[i]?)) := by
  subst hn
  refine ⟨fun i _ hi q => ?_, fun _ q => ⟨xs, ys, q.1, q.2, by omega⟩, fun i H v H' _ q y => ?_⟩
  · exact ⟨xs, ys, xs[i]'(by omega), ys[i]'(by omega), q.1, q.2, List.getElem?_eq_getElem _, List.getElem?_eq_getElem _⟩
  · obtain ⟨T, x, z, g1, g2, g3, g4, g5⟩ := y
    exact ⟨T, x, z, g1, g2, g3, g4 xs q.1, g5 ys q.2⟩
end
section
variable {P : Program} {w : World} {K : PySem.W.Frag} {mg : Str → Option Value} {base : Heap}
theorem ifY {b : Bool} {A B : Prop} (h : b = true) (hA : A) : if b = true then A else B := by
  rw [if_pos h]
  exact hA
theorem ifN {b : Bool} {A B : Prop} (h : b = false) (hB : B) : if b = true then A else B := by
  rw [h]
  exact iteF hB
theorem kit2 {K : PySem.W.Frag} {t : String} {b c : Bool} (h1 : kitB t "list" = some b) (h2 : kitB t "tuple" = some c) : PySem.W.kitAny K (.type t) [.type "list", .type "tuple"] = some (b || c) := by
  refine kitAny_cons (kit_ty h1) (fun e => ?_) (fun e => by rw [e]; rfl)
  subst e
  refine kitAny_cons (kit_ty h2) (fun e => ?_) (fun e => by rw [e]; rfl)
  subst e
  exact kitAny_nil
theorem two_cls : Paired ClsV [.ty "list", .ty "tuple"] [.type "list", .type "tuple"] := .cons (.ty _) (.cons (.ty _) .nil)
theorem two_size : 2 ≤ sizeLine := by decide
theorem all_yes : ∀ n : Nat, (List.replicate n true).all id = true
  | 0 => rfl
  | n + 1 => by rw [List.replicate_succ, List.all_cons, all_yes n]; rfl
theorem all_at {α : Type} {p : α → Bool} : ∀ {l : List α} {i : Nat} {a : α}, l.all p = true → l[i]? = some a → p a = true := fun {l i a} h e =>
  List.all_eq_true.mp h a (List.mem_of_getElem? e)
def spSame (K : PySem.W.Frag) (n : Nat) : Sp := fun vs H Q _ => ∃ (x y : V) (d : PyData), vs = [x, y] ∧ Dp K H x d ∧ Dp K H y d ∧ shal n d = true ∧ ∀ H', Evl.Ex H H' → Q (.bl true) H'
def spPrev (K : PySem.W.Frag) : Nat → Sp
  | 0 => fun _ _ _ _ => False
  | n + 1 => spSame K n
structure Names (mg : Str → Option Value) : Prop where
  isi : mg "isinstance" = none
  lst : mg "list" = none
  tup : mg "tuple" = none
  len : mg "len" = none
  all : mg "all" = none
  zip : mg "zip" = none
  str : mg "str" = none
  int : mg "int" = none
  bool : mg "bool" = none
theorem bt_isi : bootBuiltins "isinstance" = some (.builtin "isinstance") := by decide +kernel
theorem bt_tup : bootBuiltins "tuple" = some (.type "tuple") := by decide +kernel
theorem bt_lst : bootBuiltins "list" = some (.type "list") := by decide +kernel
theorem bt_str : bootBuiltins "str" = some (.type "str") := by decide +kernel
theorem bt_int : bootBuiltins "int" = some (.type "int") := by decide +kernel
theorem bt_bool : bootBuiltins "bool" = some (.type "bool") := by decide +kernel
theorem bt_all : bootBuiltins "all" = some (.builtin "all") := by decide +kernel
theorem ok_same {f : Addr} {fd : FuncData} (F : Fun K "_law_same" "_law_same" stSame f fd) (b : Binds K fd ["_law_found", "_law_due"] []) (gs : mg "_law_same" = some (.ref f)) (N : Names mg) :
    ∀ n : Nat, FnOk P w K mg base CX0 n f fd ["_law_found", "_law_due"] (spPrev K n)
  | 0 => ⟨fun _ _ _ _ h => h.elim, fun _ _ _ _ _ _ _ _ _ _ _ _ _ h => h.elim⟩
  | n + 1 => by
    have G := ok_same F b gs N n
    refine F.ok scS (fun vs H Q E h => ?_) (fun cdv A outer s H vs Q E hr h => ?_)
    · obtain ⟨x, y, d, rfl, _⟩ := h
      rfl
    obtain ⟨x, y, d, rfl, hx, hy, hd, q⟩ := h
    refine ⟨_, pss_cons (ps_if (pt_val (pe_callB call_isiT (by rfl) N.isi bt_isi (pa_cons (pv 1) (pa_cons (pe_tup (pa_cons (pe_bltn (v := .ty "list") (by rfl) N.lst bt_lst rfl) (pa_cons (pe_bltn (v := .ty "tuple") (by rfl) N.tup bt_tup rfl) pa_nil))) pa_nil))))
        (pss_cons (ps_if (pw_or (pt_cmpR op_ne (pe_callB call_isi (by rfl) N.isi bt_isi (pa_cons (pv 0) (pa_cons (pe_bltn (v := .ty "list") (by rfl) N.lst bt_lst rfl) pa_nil))) (pe_callB call_isi (by rfl) N.isi bt_isi (pa_cons (pv 1) (pa_cons (pe_bltn (v := .ty "list") (by rfl) N.lst bt_lst rfl) pa_nil))) (nomark _)) (pw_or1 (pt_cmpR op_ne (pe_callB call_isi (by rfl) N.isi bt_isi (pa_cons (pv 0) (pa_cons (pe_bltn (v := .ty "tuple") (by rfl) N.tup bt_tup rfl) pa_nil))) (pe_callB call_isi (by rfl) N.isi bt_isi (pa_cons (pv 1) (pa_cons (pe_bltn (v := .ty "tuple") (by rfl) N.tup bt_tup rfl) pa_nil))) (nomark _)))).pt
          (pss_one (ps_ret pe_bl)) pss_nil)
        (pss_one (ps_ret (pe_and (pe_cmpR op_eq (pe_callB call_len_seq (by rfl) N.len PySem.boot_len (pa_cons (pv 0) pa_nil)) (pe_callB call_len_seq (by rfl) N.len PySem.boot_len (pa_cons (pv 1) pa_nil)) (nomark _)) (pe_one (pe_callB (cr_all rfl) (by rfl) N.all bt_all (pa_cons
          (pe_lc (own := [("_law_mine", 2), ("_law_its", 3)]) (g := gTup K 2 (gCons (gName 2) (gCons (gName 3) gNil))) (tt := tYes) rfl scS.nd (RZ.pi_zipA (by rfl) N.zip (pa_cons (pv 0) (pa_cons (pv 1) pa_nil)))
            (blkOk_by (N := ["_law_found", "_law_due", "_law_mine", "_law_its"]) (sc := defScope stSame) (by decide +kernel))
            (fun _ _ _ _ _ => pg_tup rfl (pgs_cons (pg_name (i := 2) scS.nd rfl (.inl rfl)) (pgs_cons (pg_name (i := 3) scS.nd rfl (.inl rfl)) pgs_nil)))
            (fun _ _ _ _ _ => pts_nil)
            (fun _ _ _ _ _ => pe_call G hr (by rfl) gs F.kp b .nil pass0 (pa_cons (pv 2) (pa_cons (pv 3) pa_nil))))
          pa_nil))))))) pss_nil)
      (pss_cons (ps_if (pw_or (pt_cmp (pc_isN (pv 1))) (pw_or1 (pt_val (pe_callB call_isi (by rfl) N.isi bt_isi (pa_cons (pv 1) (pa_cons (pe_bltn (v := .ty "str") (by rfl) N.str bt_str rfl) pa_nil)))))).pt
        (pss_one (ps_ret (pe_and (pe_cmpR op_eq (pv 0) (pv 1) (nomark _)) (pe_one (pe_cmpR op_eq (pe_callB call_isi (by rfl) N.isi bt_isi (pa_cons (pv 0) (pa_cons (pe_bltn (v := .ty "str") (by rfl) N.str bt_str rfl) pa_nil))) (pe_callB call_isi (by rfl) N.isi bt_isi (pa_cons (pv 1) (pa_cons (pe_bltn (v := .ty "str") (by rfl) N.str bt_str rfl) pa_nil))) (nomark _)))))) pss_nil)
      (pss_one (ps_ret (pe_and (pe_callB call_isi (by rfl) N.isi bt_isi (pa_cons (pv 0) (pa_cons (pe_bltn (v := .ty "int") (by rfl) N.int bt_int rfl) pa_nil))) (pe_and (pe_cmpR op_eq (pe_callB call_isi (by rfl) N.isi bt_isi (pa_cons (pv 0) (pa_cons (pe_bltn (v := .ty "bool") (by rfl) N.bool bt_bool rfl) pa_nil))) (pe_callB call_isi (by rfl) N.isi bt_isi (pa_cons (pv 1) (pa_cons (pe_bltn (v := .ty "bool") (by rfl) N.bool bt_bool rfl) pa_nil))) (nomark _)) (pe_one (pe_cmpR op_eq (pv 0) (pv 1) (nomark _)))))))), ?_⟩
    cases d with
    | none =>
      cases hx
      cases hy
      refine ⟨_, rfl, two_size, fun t nt => ?_⟩
      have e0 : Evl.Ex H (upd H t (.tup [.ty "list", .ty "tuple"])) := Evl.Ex.new nt
      refine ⟨_, t, _, _, _, false, rfl, upd_same, two_cls, .base (.non), kit2 (b := false) (c := false) (by decide +kernel) (by decide +kernel), _, rfl, iteF ?_⟩
      refine ⟨_, rfl, _, rfl, iteT ?_⟩
      refine iteT ?_
      refine ⟨_, rfl, _, rfl, rfl, _, rfl, ifY (decide_eq_true rfl) ?_⟩
      refine ⟨_, rfl, _, _, _, _, false, rfl, .ty _, .base (.non), kit_ty (by decide +kernel), _, rfl, _, _, _, _, false, rfl, .ty _, .base (.non), kit_ty (by decide +kernel), rfl, ?_⟩
      exact q _ e0
    | bool b0 =>
      cases hx
      cases hy
      refine ⟨_, rfl, two_size, fun t nt => ?_⟩
      have e0 : Evl.Ex H (upd H t (.tup [.ty "list", .ty "tuple"])) := Evl.Ex.new nt
      refine ⟨_, t, _, _, _, false, rfl, upd_same, two_cls, .base (.bl b0), kit2 (b := false) (c := false) (by decide +kernel) (by decide +kernel), _, rfl, iteF ?_⟩
      refine ⟨_, rfl, _, rfl, ifN (decide_eq_false (fun z => nomatch z)) ?_⟩
      refine ⟨_, rfl, _, _, _, _, false, rfl, .ty _, .base (.bl b0), kit_ty (by decide +kernel), _, rfl, ?_⟩
      refine iteF ?_
      refine ⟨_, rfl, _, _, _, _, true, rfl, .ty _, .base (.bl b0), kit_ty (by decide +kernel), _, rfl, iteT ?_⟩
      refine ⟨_, rfl, _, _, _, _, true, rfl, .ty _, .base (.bl b0), kit_ty (by decide +kernel), _, rfl, _, _, _, _, true, rfl, .ty _, .base (.bl b0), kit_ty (by decide +kernel), rfl, _, rfl, ifY (decide_eq_true rfl) ?_⟩
      refine ⟨_, rfl, _, rfl, rfl, ?_⟩
      rw [decide_eq_true rfl]
      exact q _ e0
    | int i0 =>
      cases hx
      cases hy
      refine ⟨_, rfl, two_size, fun t nt => ?_⟩
      have e0 : Evl.Ex H (upd H t (.tup [.ty "list", .ty "tuple"])) := Evl.Ex.new nt
      refine ⟨_, t, _, _, _, false, rfl, upd_same, two_cls, .base (.int i0), kit2 (b := false) (c := false) (by decide +kernel) (by decide +kernel), _, rfl, iteF ?_⟩
      refine ⟨_, rfl, _, rfl, ifN (decide_eq_false (fun z => nomatch z)) ?_⟩
      refine ⟨_, rfl, _, _, _, _, false, rfl, .ty _, .base (.int i0), kit_ty (by decide +kernel), _, rfl, ?_⟩
      refine iteF ?_
      refine ⟨_, rfl, _, _, _, _, true, rfl, .ty _, .base (.int i0), kit_ty (by decide +kernel), _, rfl, iteT ?_⟩
      refine ⟨_, rfl, _, _, _, _, false, rfl, .ty _, .base (.int i0), kit_ty (by decide +kernel), _, rfl, _, _, _, _, false, rfl, .ty _, .base (.int i0), kit_ty (by decide +kernel), rfl, _, rfl, ifY (decide_eq_true rfl) ?_⟩
      refine ⟨_, rfl, _, rfl, rfl, ?_⟩
      rw [decide_eq_true rfl]
      exact q _ e0
    | str z0 =>
      cases hx
      cases hy
      refine ⟨_, rfl, two_size, fun t nt => ?_⟩
      have e0 : Evl.Ex H (upd H t (.tup [.ty "list", .ty "tuple"])) := Evl.Ex.new nt
      refine ⟨_, t, _, _, _, false, rfl, upd_same, two_cls, .base (.str z0), kit2 (b := false) (c := false) (by decide +kernel) (by decide +kernel), _, rfl, iteF ?_⟩
      refine ⟨_, rfl, _, rfl, ifN (decide_eq_false (fun z => nomatch z)) ?_⟩
      refine ⟨_, rfl, _, _, _, _, true, rfl, .ty _, .base (.str z0), kit_ty (by decide +kernel), _, rfl, ?_⟩
      refine iteT ?_
      refine ⟨_, rfl, _, rfl, rfl, _, rfl, ifY (decide_eq_true rfl) ?_⟩
      refine ⟨_, rfl, _, _, _, _, true, rfl, .ty _, .base (.str z0), kit_ty (by decide +kernel), _, rfl, _, _, _, _, true, rfl, .ty _, .base (.str z0), kit_ty (by decide +kernel), rfl, ?_⟩
      exact q _ e0
    | list ds =>
      cases hx with
      | lst h1 g1 =>
      cases hy with
      | lst h2 g2 =>
      rename_i a1 xs a2 ys
      cases n with
      | zero => exact absurd hd (by simp [shal])
      | succ n =>
      have hd0 : (decide (ds.length ≤ 1000) && ds.all (shal n)) = true := by
        rw [shal] at hd
        exact hd
      have hd' : ds.all (shal n) = true := (Bool.and_eq_true_iff.mp hd0).2
      have hsz : ds.length ≤ 1000 := of_decide_eq_true (Bool.and_eq_true_iff.mp hd0).1
      have l1 := dpa_len g1
      have l2 := dpa_len g2
      refine ⟨_, rfl, two_size, fun t nt => ?_⟩
      have e0 : Evl.Ex H (upd H t (.tup [.ty "list", .ty "tuple"])) := Evl.Ex.new nt
      have L1 := Evl.ex_l e0 h1
      have L2 := Evl.ex_l e0 h2
      refine ⟨_, t, _, _, _, true, rfl, upd_same, two_cls, tyx_l L2, kit2 (b := true) (c := false) (by decide +kernel) (by decide +kernel), _, rfl, iteT ?_⟩
      refine ⟨_, rfl, _, _, _, _, true, rfl, .ty _, tyx_l L1, kit_ty (by decide +kernel), _, rfl, _, _, _, _, true, rfl, .ty _, tyx_l L2, kit_ty (by decide +kernel), rfl, _, rfl, ifN rfl ?_⟩
      refine ⟨_, rfl, _, _, _, _, false, rfl, .ty _, tyx_l L1, kit_ty (by decide +kernel), _, rfl, _, _, _, _, false, rfl, .ty _, tyx_l L2, kit_ty (by decide +kernel), rfl, _, rfl, ifN rfl ?_⟩
      refine ⟨_, rfl, a1, _, rfl, .inl L1, _, rfl, a2, _, rfl, .inl L2, rfl, _, rfl, ifY ?_ ?_⟩
      · rw [l1, l2]
        exact decide_eq_true rfl
      refine ⟨_, rfl, _, rfl, a1, a2, xs, ys, rfl, .inl ⟨L1, L2, fun D nD => lc_it (walk_zip (xs := xs) (ys := ys) rfl)
        (fun i H' => Evl.Ex (upd H t (.tup [.ty "list", .ty "tuple"])) H' ∧ H' D = some (.lst ((List.replicate i true).map V.bl))) ⟨Evl.Ex.new nD, upd_same⟩
        (fun i H' _ p => ⟨Evl.ex_l p.1 L1, Evl.ex_l p.1 L2⟩) (fun i x H2 H3 hi p y => ?_) (fun H' p => ?_)⟩⟩
      · obtain ⟨T, u, v, rfl, nT, rfl, eu, ev⟩ := y
        have e2 := e0.trans (p.1.trans (Evl.Ex.new (o := .tup [u, v]) nT))
        obtain ⟨d1, k1, j1⟩ := dpa_at g1 eu
        obtain ⟨d2, k2, j2⟩ := dpa_at g2 ev
        rw [k1] at k2
        cases k2
        refine ⟨T, _, rfl, .inl (.inl upd_same), rfl, _, _, rfl, _, [], rfl, rfl, rfl, ?_⟩
        unfold tYes
        dsimp only
        rw [if_pos rfl]
        refine ⟨_, rfl, _, rfl, u, v, d1, rfl, dp_mono e2 j1, dp_mono e2 j2, all_at hd' k1, fun H4 e4 => ?_⟩
        have hD4 : H4 D = some (.lst ((List.replicate i true).map V.bl)) := e4 _ _ (by
          rw [upd_ne (ne_of_none p.2 nT)]
          exact p.2)
        refine ⟨_, hD4, ?_, ?_, ?_⟩
        · rw [List.length_map, List.length_replicate]
          exact Evl.sz_lt (by have := hsz; omega)
        · exact Evl.Ex.mut ((p.1.trans (Evl.Ex.new nT)).trans e4) nD
        · rw [upd_same, List.replicate_succ', List.map_append]
          rfl
      · refine ⟨D, _, rfl, .inl (.inl p.2), ?_⟩
        rw [all_yes]
        exact q _ (e0.trans p.1)
    | tuple ds =>
      cases hx with
      | tup h1 g1 =>
      cases hy with
      | tup h2 g2 =>
      rename_i a1 xs a2 ys
      cases n with
      | zero => exact absurd hd (by simp [shal])
      | succ n =>
      have hd0 : (decide (ds.length ≤ 1000) && ds.all (shal n)) = true := by
        rw [shal] at hd
        exact hd
      have hd' : ds.all (shal n) = true := (Bool.and_eq_true_iff.mp hd0).2
      have hsz : ds.length ≤ 1000 := of_decide_eq_true (Bool.and_eq_true_iff.mp hd0).1
      have l1 := dpa_len g1
      have l2 := dpa_len g2
      refine ⟨_, rfl, two_size, fun t nt => ?_⟩
      have e0 : Evl.Ex H (upd H t (.tup [.ty "list", .ty "tuple"])) := Evl.Ex.new nt
      have L1 := Evl.ex_t e0 h1
      have L2 := Evl.ex_t e0 h2
      refine ⟨_, t, _, _, _, true, rfl, upd_same, two_cls, tyx_t L2, kit2 (b := false) (c := true) (by decide +kernel) (by decide +kernel), _, rfl, iteT ?_⟩
      refine ⟨_, rfl, _, _, _, _, false, rfl, .ty _, tyx_t L1, kit_ty (by decide +kernel), _, rfl, _, _, _, _, false, rfl, .ty _, tyx_t L2, kit_ty (by decide +kernel), rfl, _, rfl, ifN rfl ?_⟩
      refine ⟨_, rfl, _, _, _, _, true, rfl, .ty _, tyx_t L1, kit_ty (by decide +kernel), _, rfl, _, _, _, _, true, rfl, .ty _, tyx_t L2, kit_ty (by decide +kernel), rfl, _, rfl, ifN rfl ?_⟩
      refine ⟨_, rfl, a1, _, rfl, .inr L1, _, rfl, a2, _, rfl, .inr L2, rfl, _, rfl, ifY ?_ ?_⟩
      · rw [l1, l2]
        exact decide_eq_true rfl
      refine ⟨_, rfl, _, rfl, a1, a2, xs, ys, rfl, .inr ⟨L1, L2, fun D nD => lc_it (walk_zipT (xs := xs) (ys := ys) rfl)
        (fun i H' => Evl.Ex (upd H t (.tup [.ty "list", .ty "tuple"])) H' ∧ H' D = some (.lst ((List.replicate i true).map V.bl))) ⟨Evl.Ex.new nD, upd_same⟩
        (fun i H' _ p => ⟨Evl.ex_t p.1 L1, Evl.ex_t p.1 L2⟩) (fun i x H2 H3 hi p y => ?_) (fun H' p => ?_)⟩⟩
      · obtain ⟨T, u, v, rfl, nT, rfl, eu, ev⟩ := y
        have e2 := e0.trans (p.1.trans (Evl.Ex.new (o := .tup [u, v]) nT))
        obtain ⟨d1, k1, j1⟩ := dpa_at g1 eu
        obtain ⟨d2, k2, j2⟩ := dpa_at g2 ev
        rw [k1] at k2
        cases k2
        refine ⟨T, _, rfl, .inl (.inl upd_same), rfl, _, _, rfl, _, [], rfl, rfl, rfl, ?_⟩
        unfold tYes
        dsimp only
        rw [if_pos rfl]
        refine ⟨_, rfl, _, rfl, u, v, d1, rfl, dp_mono e2 j1, dp_mono e2 j2, all_at hd' k1, fun H4 e4 => ?_⟩
        have hD4 : H4 D = some (.lst ((List.replicate i true).map V.bl)) := e4 _ _ (by
          rw [upd_ne (ne_of_none p.2 nT)]
          exact p.2)
        refine ⟨_, hD4, ?_, ?_, ?_⟩
        · rw [List.length_map, List.length_replicate]
          exact Evl.sz_lt (by have := hsz; omega)
        · exact Evl.Ex.mut ((p.1.trans (Evl.Ex.new nT)).trans e4) nD
        · rw [upd_same, List.replicate_succ', List.map_append]
          rfl
      · refine ⟨D, _, rfl, .inl (.inl p.2), ?_⟩
        rw [all_yes]
        exact q _ (e0.trans p.1)
    | dict kvs => cases hx
end
open Dv
section
variable {P : Program} {w : World} {K : PySem.W.Frag} {mg : Str → Option Value} {base : Heap}
theorem g_take {f : Addr} {fd : FuncData} (F : Fun K "_law_take" "_law_take" stTake f fd) : FnG P w K mg base 1 f fd ["_law_box_here", "_law_below"] (spD K 1 Ke.F_take) :=
  impG (toG (ok_take (k := 0) F)) fun vs H Q h => by
    obtain ⟨b, S, m, as, hA, bx, bs, al, hm, hF⟩ := h
    unfold Ke.F_take at hF
    split at hF
    · rename_i n
      cases hA with
      | cons a1 a2 =>
      cases a2 with
      | cons a2 a3 =>
      cases a3
      cases a2
      obtain ⟨p, rfl, rfl⟩ := a1
      obtain ⟨x, y, z, h1, h2, h3, h4, h5, h6⟩ := bx
      have hm' : m < 900000000 := by
        have : m + 1 ≤ 900000000 := hm
        omega
      refine ⟨p, x, y, z, n, rfl, h6, h1, h2, h3, h4, by omega, hF.1.1, hF.1.2, fun r x' z' g1 g2 g3 g4 g5 => hF.2 r g1 g2 _ _ (fun c o hc e => .lst (fun w => hc (by rw [w])) e h6) ⟨x', y, z', g3, h2, h3, by omega, by omega, upd_same⟩ (.int _)⟩
    · exact hF.elim
theorem g_box {f : Addr} {fd : FuncData} (F : Fun K "_law_box" "_law_box" stBox f fd) (ml : mg "len" = none) (ma : mg "abs" = none) (mi : mg "int" = none) : FnG P w K mg base 1 f fd ["_law_script", "_law_k"] (spBx K) :=
  impG (toG (ok_box (k := 0) F ml ma mi)) fun vs H Q h => h
theorem g_same {f : Addr} {fd : FuncData} (F : Fun K "_law_same" "_law_same" stSame f fd) (b : Binds K fd ["_law_found", "_law_due"] []) (gs : mg "_law_same" = some (.ref f)) (N : Names mg) : FnG P w K mg base 6 f fd ["_law_found", "_law_due"] (spD K 0 F_same) :=
  impG (toG (ok_same F b gs N 6)) fun vs H Q h => by
    obtain ⟨b, S, m, as, hA, bx, bs, al, hm, hF⟩ := h
    unfold F_same at hF
    split at hF
    · rename_i x y
      obtain ⟨⟨rfl, sh⟩, hF⟩ := hF
      cases hA with
      | cons a1 a2 =>
      cases a2 with
      | cons a2 a3 =>
      cases a3
      exact ⟨_, _, x, rfl, (Da.mono rm_le a1).dp, (Da.mono rm_le a2).dp, sh, fun H' e => hF _ _ (Stp.ex e) (bx.ex e) (.bl true)⟩
    · exact hF.elim
end
end Kd
namespace Dv
open PySem PySem.Spec PyProof.Rows L2 Xg
open Classical
theorem law_sp {K : PySem.W.Frag} {c : Nat} {F : FF} (mF : MonoF F) (hc : c ≤ LIM) {H : Hp} {a : Addr} {ns : List Int} {E : XK} (hS : SqL K H a (ns.map V.int)) (hT : Tbs K H) (hF : F [.scr ns] (fun d => d = .bool true)) : spD K c F [.ref a] H (fun v _ => v = .bl true) E := by
  have b0 : BxO none H 0 := trivial
  have bs : ∀ p : Addr, (none : Option Addr) = some p → (fun _ : Addr => False) p := fun p e => nomatch e
  have al : Al (fun _ => False) H ∧ Tbs K H := ⟨fun a h => h.elim, hT⟩
  have hS' : SqL K (rm H fun _ => False) a (ns.map V.int) := by
    rcases hS with (h | ⟨o, h⟩) | h
    · exact .inl (.inl (rm_in id h))
    · exact .inl (.inr ⟨o, rm_in id h⟩)
    · exact .inr h
  refine ⟨none, fun _ => False, 0, [.scr ns], .cons ⟨a, rfl, hS'⟩ .nil, b0, bs, al, by omega, mF _ _ _ (fun d e v H' _ _ hd => ?_) hF⟩
  subst e
  cases hd
  rfl
end Dv
namespace Dv
open PySem PySem.Spec PyProof.Rows L2 Xg
theorem callr_or {X : Cx} {f : Value} {r1 r2 : List V → Hp → VK → Prop} (a : CallR X f r1) (b : CallR X f r2) : CallR X f (fun vs H Q => r1 vs H Q ∨ r2 vs H Q) :=
  fun pins s σ H vs us Q I r h => h.elim (a pins s σ H vs us Q I r) (b pins s σ H vs us Q I r)
end Dv
namespace Dv
open PySem PySem.Spec PyProof.Rows L2 Xg
open Classical
section
variable {K : PySem.W.Frag} {G : Addr → Prop} {H0 : Hp} {b0 b : Option Addr} {os : Nat → Option Addr} {m : Nat} {H : Hp} {σ : L2.St} {ρ : List Sl} {t : TS} {c : Nat} {f : FS}
abbrev frz (i : Nat) (ρ : List Sl) : List Sl := match ρ[i]? with
  | some (.own ds) => ρ.set i (.dt (.list ds))
  | _ => ρ
abbrev sFrz (i : Nat) (f : FS) : FS := fun ρ E => f (frz i ρ) E
theorem Ok.frz {i : Nat} {ds : List PyData} (ok : Ok K G H0 b0 b os m H σ ρ) (hi : ρ[i]? = some (.own ds)) : ∃ os', Ok K G H0 b0 b os' m H σ (ρ.set i (.dt (.list ds))) ∧ Lk (SO G b os) H (SO G b os') H := by
  obtain ⟨p, vs, e1, e2, e3, e4, e5⟩ := ok.env.sl i _ hi
  obtain ⟨p', q1, q2⟩ := ok.slo i _ hi rfl
  rw [e1] at q2
  cases q2
  have p0 := ok.new _ _ q1
  have sub : ∀ a, SO G b (fun j => if j = i then none else os j) a → SO G b os a := fun a h => by
    rcases h with h | h | ⟨j, h⟩
    · exact .inl h
    · exact .inr (.inl h)
    · refine .inr (.inr ⟨j, ?_⟩)
      dsimp only at h
      split at h
      · cases h
      · exact h
  have nS : ¬ SO G b (fun j => if j = i then none else os j) p := fun h => by
    rcases h with h | h | ⟨j, h⟩
    · exact ok.al0.no p h p0
    · exact e3 h
    · dsimp only at h
      split at h
      · cases h
      · rename_i n
        exact n (ok.inj _ _ _ h q1)
  have ex : Evl.Ex (rm H (SO G b os)) (rm H (SO G b fun j => if j = i then none else os j)) := rm_sub sub
  refine ⟨fun j => if j = i then none else os j, ⟨⟨by rw [List.length_set]; exact ok.env.len, fun j s h => ?_, ok.env.bx, fun q e => .inr (.inl e), fun a h => ok.env.al a (sub a h), ok.env.tb⟩, fun j k a h1 h2 => ?_, fun j a h => ?_, ok.old, ok.bn, ok.obx, fun j a h => ?_, fun j es h ow => ?_, ok.al0, ok.bG⟩, fun a o n _ h => ⟨h, fun z => n (sub a z)⟩⟩
  · rw [List.getElem?_set] at h
    by_cases z : i = j
    · subst z
      rw [if_pos rfl] at h
      split at h
      · cases h
        exact ⟨.ref p, e1, .lst (rm_in nS e4) (e5.mono ex)⟩
      · cases h
    · rw [if_neg z] at h
      have q := ok.env.sl j s h
      cases s with
      | no => trivial
      | dt d => exact let ⟨v, r1, g⟩ := q; ⟨v, r1, g.mono ex⟩
      | own ts =>
        obtain ⟨p3, us, r1, s3, n3, g3, k3⟩ := q
        obtain ⟨p4, w1, w2⟩ := ok.slo j _ h rfl
        rw [r1] at w2
        cases w2
        exact ⟨p3, us, r1, .inr (.inr ⟨j, by show (if j = i then none else os j) = some p3; rw [if_neg fun w => z w.symm]; exact w1⟩), n3, g3, k3.mono ex⟩
      | box => exact q
      | scr ns => exact let ⟨v, r1, g⟩ := q; ⟨v, r1, Evl.ex_l ex g⟩
      | op g => exact let ⟨v, r1, g⟩ := q; ⟨v, r1, g.mono ex⟩
      | fn k ds => exact let ⟨v, r1, g⟩ := q; ⟨v, r1, g.mono ex⟩
      | exc k ds => exact let ⟨v, r1, g⟩ := q; ⟨v, r1, g.mono ex⟩
      | dct ts =>
        obtain ⟨p3, us, r1, s3, n3, g3, k3⟩ := q
        obtain ⟨p4, w1, w2⟩ := ok.slo j _ h rfl
        rw [r1] at w2
        cases w2
        exact ⟨p3, us, r1, .inr (.inr ⟨j, by show (if j = i then none else os j) = some p3; rw [if_neg fun w => z w.symm]; exact w1⟩), n3, g3, k3.mono ex⟩
      | dck k => exact let ⟨v, r1, g⟩ := q; ⟨v, r1, g.mono ex⟩
      | frt k => exact let ⟨v, r1, g⟩ := q; ⟨v, r1, g.mono ex⟩
  · split at h1
    · cases h1
    · split at h2
      · cases h2
      · exact ok.inj _ _ _ h1 h2
  · split at h
    · cases h
    · exact ok.new _ _ h
  · split at h
    · cases h
    · exact ok.bo _ _ h
  · rw [List.getElem?_set] at h
    by_cases z : i = j
    · rw [if_pos z] at h
      split at h
      · cases h
        exact absurd ow Bool.false_ne_true
      · cases h
    · rw [if_neg z] at h
      obtain ⟨p4, w1, w2⟩ := ok.slo j _ h ow
      exact ⟨p4, by show (if j = i then none else os j) = some p4; rw [if_neg fun w => z w.symm]; exact w1, w2⟩
theorem snds_frz {i : Nat} (a : SndS K t c f) : SndS K t c (sFrz i f) := by
  refine ⟨fun ρ E E' h q => a.mono _ _ _ h q, fun {G H0 b0 b os m H σ ρ D E} ok hm hf k => ?_⟩
  by_cases z : ∃ ds, ρ[i]? = some (.own ds)
  · obtain ⟨ds, e⟩ := z
    obtain ⟨os', ok1, l⟩ := ok.frz e
    refine a.go ok1 hm ?_ (k.from l)
    have z : Dv.frz i ρ = ρ.set i (.dt (.list ds)) := by
      unfold Dv.frz
      rw [e]
    rw [← z]
    exact hf
  · refine a.go ok hm ?_ k
    have z : Dv.frz i ρ = ρ := by
      unfold Dv.frz
      split
      · rename_i ds e
        exact absurd ⟨ds, e⟩ z
      · rfl
    rw [← z]
    exact hf
abbrev sParP (i j : Nat) (fa : FE) (fb : FD) : FS := fun ρ E => fa ρ fun x => fb ρ fun y => E.nx ((ρ.set i (.dt x)).set j (.own y))
theorem snds_parP {i j : Nat} {ta tb : TE} {ca cb : Nat} {fa : FE} {fl : FD} (a : Snd true K ta ca fa) (r : SndL K tb cb fl) : SndS K (tPar i j (tCons ta (tCons tb tNil))) (ca + cb) (sParP i j fa fl) :=
  ⟨fun ρ E E' h q => a.mono _ _ _ (fun x => r.mono _ _ _ fun y => h.nx _) q, fun {G H0 b0 b os m H σ ρ D E} ok hm hf k => a.go ok.env (by omega) hf fun dx v H1 p st bx vd => by
    have ok1 := ok.step st bx (by omega)
    refine r.go ok1.env (by omega) p fun dy xs w H2 p2 np st2 bx2 e g => ⟨v, .ref w, rfl, ?_⟩
    have k1 := ok1.kpt (ok1.env.set (i := i) (s := .dt dx) fun z e => ⟨_, e, vd⟩) (kpt_set (vs := [i]) (by simp))
    obtain ⟨o2, l2⟩ := k1.own (i := j) (n := m + ca + cb) np st2 bx2 (by omega) e g
    exact k.nx _ _ _ _ _ p2 (o2.le (by omega)) ((Lk.step st ok.env.bs).trans l2)⟩
end
end Dv
namespace Sv
open PySem PySem.Spec PyProof.Rows L2 HT
theorem fm_congr {α β : Type} {f g : α → Option β} : ∀ {l : List α}, (∀ x ∈ l, f x = g x) → l.filterMap f = l.filterMap g
  | [], _ => rfl
  | a :: l, h => by
    rw [List.filterMap_cons, List.filterMap_cons, h a (List.mem_cons_self ..), fm_congr fun x m => h x (List.mem_cons_of_mem _ m)]
theorem fm_self {α : Type} : ∀ l : List α, (List.range l.length).filterMap (fun m => l[m]?) = l
  | [] => rfl
  | a :: l => by
    rw [List.length_cons, List.range_succ_eq_map, List.filterMap_cons, List.filterMap_map]
    show a :: (List.range l.length).filterMap (fun m => (a :: l)[m + 1]?) = a :: l
    rw [show (fun m => (a :: l)[m + 1]?) = (fun m => l[m]?) from rfl, fm_self l]
def Upto (hi : Option Int) (d : Nat) : Prop := (hi = none ∧ d = 0) ∨ (hi = some 0 ∧ d = 1)
theorem adj {hi : Option Int} {d n : Nat} (u : Upto hi d) : ∃ b, Builtin.Slice.sliceAdjust none hi (-1) (n : Int) = ((n : Int) - 1, b) ∧ Builtin.Slice.slicePlaces ((n : Int) - 1) b (-1) = n - d := by
  rcases u with ⟨rfl, rfl⟩ | ⟨rfl, rfl⟩
  · refine ⟨-1, rfl, ?_⟩
    unfold Builtin.Slice.slicePlaces
    rw [if_neg (by decide), show (-(-1 : Int)) = 1 by decide, Int.ediv_one]
    split <;> omega
  · refine ⟨min 0 ((n : Int) - 1), rfl, ?_⟩
    unfold Builtin.Slice.slicePlaces
    rw [if_neg (by decide), show (-(-1 : Int)) = 1 by decide, Int.ediv_one]
    split <;> omega
theorem pk (xs : Array Value) (d : Nat) : ((List.range (xs.size - d)).filterMap fun (m : Nat) => xs[(((xs.size : Nat) : Int) - 1 + (m : Int) * (-1)).toNat]?).toArray = ((xs.toList.drop d).reverse).toArray := by
  congr 1
  have l : ((xs.toList.drop d).reverse).length = xs.size - d := by
    rw [List.length_reverse, List.length_drop, Array.length_toList]
  have e := fm_self ((xs.toList.drop d).reverse)
  rw [l] at e
  refine Eq.trans (fm_congr fun m hm => ?_) e
  have hm := List.mem_range.mp hm
  have z : (((xs.size : Nat) : Int) - 1 + (m : Int) * (-1)).toNat = xs.size - 1 - m := by omega
  rw [z, List.getElem?_reverse (by rw [List.length_drop, Array.length_toList]; exact hm), List.getElem?_drop, List.length_drop, Array.length_toList, ← Array.getElem?_toList]
  congr 1
  omega
section
variable {prog : Program} {w : World} {A : Around} {E : Value → Shared → Prop} {s : Shared}
theorem ap {sl : Addr} {vl vu vs : Value} {hi : Option Int} {d n : Nat} {Q : Int × Int × Nat → Shared → Prop} (u : Upto hi d) (hs : s.heap.IsSliceOf sl vl vu vs) (pl : IsPart vl none) (pu : IsPart vu hi) (ps : IsPart vs (some (-1)))
    (q : Q ((n : Int) - 1, -1, n - d) s) : wpAny (model prog w) A (Builtin.Slice.sliceApplied (.ref sl) (pure (n : Int))) Q E s := by
  obtain ⟨os, h1, h2, h3⟩ := id hs
  unfold Builtin.Slice.sliceApplied Builtin.Slice.sliceFields
  refine wpAny_bind (wpAny_bind (wpAny_field h1 h3 (x := vl) rfl (wpAny_bind (wpAny_field h1 h3 (x := vu) rfl (wpAny_bind (wpAny_field h1 h3 (x := vs) rfl (wpAny_pure ?_)))))))
  refine wpAny_bind (slicePart_ ps ?_)
  show wpAny _ _ (if ((-1 : Int) == 0) = true then _ else _) _ _ s
  rw [if_neg (by decide)]
  refine wpAny_bind (slicePart_ pl (wpAny_bind (slicePart_ pu (wpAny_bind (wpAny_pure ?_)))))
  obtain ⟨b, g1, g2⟩ := adj (n := n) u
  show wpAny _ _ (match Builtin.Slice.sliceAdjust none hi (-1) (n : Int) with | (lo, hi) => pure (lo, (-1 : Int), Builtin.Slice.slicePlaces lo hi (-1))) _ _ s
  rw [g1]
  show wpAny _ _ (pure ((n : Int) - 1, (-1 : Int), Builtin.Slice.slicePlaces ((n : Int) - 1) b (-1))) _ _ s
  rw [g2]
  exact wpAny_pure q
theorem gi {t sl : Addr} {xs : Array Value} {vl vu vs : Value} {hi : Option Int} {d : Nat} {Q : Value → Shared → Prop} (u : Upto hi d) (ht : IsTup s.heap t xs) (hs : s.heap.IsSliceOf sl vl vu vs) (pl : IsPart vl none) (pu : IsPart vu hi) (ps : IsPart vs (some (-1)))
    (q : Q (.ref s.heap.objs.size) { s with heap := s.heap.push { cls := .type "tuple", data := .seq ((xs.toList.drop d).reverse).toArray } }) (hz : xs.size ≤ sizeLine) : wpAny (model prog w) A (getItem (.ref t) (.ref sl)) Q E s := by
  have fit : sizeOk (.seq ((xs.toList.drop d).reverse).toArray) := by
    show ((xs.toList.drop d).reverse).toArray.size ≤ sizeLine
    rw [List.size_toArray, List.length_reverse, List.length_drop, Array.length_toList]
    omega
  obtain ⟨os, h1, h2, h3⟩ := id hs
  have tS : s.TypeIs (.ref sl) "slice" := ⟨os, h1, h2⟩
  unfold getItem
  try with_reducible refine wpAny_holding ?_
  first | refine wpAny_bind (wpAny_pure ?_) | skip
  refine wpAny_bind (wpAny_sequenceKey (IsTup.typeIs ht) (by decide) ?_)
  refine wpAny_bind (wpAny_callSpecial?_slot (name := Str.ofString "__getitem__") (IsTup.typeIs ht) slot_tuple_getitem (wpAny_call_entry slot_tuple_getitem (IsTup.typeIs ht) entry_tuple_getitem ?_ (args_tuple_getitem _ _)))
  show wpAny _ _ (Builtin.Tuple.tupleItemsOf (.ref t) >>= _) _ _ s
  refine wpAny_bind (tupleItemsOf_ ht (wpAny_bind (wpAny_typeOf tS ?_)))
  rw [if_pos (by decide)]
  refine wpAny_bind (ap u hs pl pu ps ?_)
  have no : ¬ (((((xs.size : Nat) : Int) - 1) == 0 && (-1 : Int) == 1 && (xs.size - d) == xs.size) = true) := fun z => by
    rw [Bool.and_eq_true, Bool.and_eq_true] at z
    exact absurd (eq_of_beq z.1.2) (by decide)
  show wpAny _ _ (if ((((xs.size : Nat) : Int) - 1) == 0 && (-1 : Int) == 1 && (xs.size - d) == xs.size) = true then _ else _) _ _ s
  rw [if_neg no, pk]
  first
    | exact wpAny_bind (m := Builtin.Tuple.tupleExact _) (wpAny_newObj_type (wpAny_pure ⟨_, rfl, wpAny_pure q⟩) fit)
    | exact wpAny_bind (m := Builtin.Tuple.tupleExact _) (wpAny_newObj_type (wpAny_bind (wpAny_pure (wpAny_pure ⟨_, rfl, wpAny_pure q⟩))) fit)
    | exact wpAny_bind (wpAny_bind (m := Builtin.Tuple.tupleExact _) (wpAny_newObj_type (wpAny_pure (wpAny_pure ⟨_, rfl, wpAny_pure q⟩)) fit))
    | exact wpAny_bind (wpAny_bind (m := Builtin.Tuple.tupleExact _) (wpAny_newObj_type (wpAny_pure ⟨_, rfl, wpAny_pure q⟩) fit))
end
section
variable {X : Cx}
end
end Sv
namespace Dv
open PySem PySem.Spec PyProof.Rows L2 Xg
open Classical
section
variable {K : PySem.W.Frag} {md : Bool} {ta : TE} {ca : Nat} {fa : FE}
end
end Dv
namespace Dv
open PySem PySem.Spec PyProof.Rows L2 Xg
open Classical
section
variable {K : PySem.W.Frag} {ta tb tc : TE} {ca cb cc : Nat} {fa fb fc : FE}
abbrev sPar3 (i j l : Nat) (fa fb fc : FE) : FS := fun ρ E => fa ρ fun x => fb ρ fun y => fc ρ fun z => E.nx (((ρ.set i (.dt x)).set j (.dt y)).set l (.dt z))
theorem snds_par3 {i j l : Nat} (a : Snd true K ta ca fa) (r : Snd true K tb cb fb) (u : Snd true K tc cc fc) : SndS K (tPar3 i j l (tCons ta (tCons tb (tCons tc tNil)))) (ca + (cb + cc)) (sPar3 i j l fa fb fc) :=
  ⟨fun ρ E E' h q => a.mono _ _ _ (fun x => r.mono _ _ _ fun y => u.mono _ _ _ fun z => h.nx _) q, fun ok hm hf k => a.go ok.env (by omega) hf fun dx v H1 p st bx vd => by
    have ok1 := ok.step st bx (by omega)
    refine r.go ok1.env (by omega) p fun dy w H2 p2 st2 bx2 vd2 => ?_
    have ok2 := ok1.step st2 bx2 (by omega)
    refine u.go ok2.env (by omega) p2 fun dz w3 H3 p3 st3 bx3 vd3 => ⟨v, w, w3, rfl, ?_⟩
    have ok3 := ok2.step st3 bx3 (by omega)
    have k1 := ok3.kpt (ok3.env.set (i := i) (s := .dt dx) fun z e => ⟨_, e, Da.mono (st3.rm ok.env.bs) (Da.mono (st2.rm ok.env.bs) vd)⟩) (kpt_set (vs := [i]) (by simp))
    have k2 := k1.kpt (k1.env.set (i := j) (s := .dt dy) fun z e => ⟨_, e, Da.mono (st3.rm ok.env.bs) vd2⟩) (kpt_set (vs := [j]) (by simp))
    have k3 := k2.kpt (k2.env.set (i := l) (s := .dt dz) fun z e => ⟨_, e, vd3⟩) (kpt_set (vs := [l]) (by simp))
    exact k.nx _ _ _ _ _ p3 (k3.le (by omega)) (((Lk.step st ok.env.bs).trans (Lk.step st2 ok.env.bs)).trans (Lk.step st3 ok.env.bs))⟩
end
end Dv
namespace Ez
open PySem PySem.Spec PyProof.Rows L2 Zq
open PySem.Sem (wp)
open AutoSeq1 (wpAny_loadPart')
abbrev ZpF (g : Heap) (z S T : Addr) (v : Value) (f : Bool) : Prop := g.get? z = some { cls := .type "zip", dict := none, data := .fields #[v, .bool f, .bool false, .ref S, .ref T], slots := #[] }
def Og (v : Value) : Prop := v = .none ∨ ∃ a : Nat, v = rawInt a
structure ZS (t u : Bool) (g : Heap) (z S T p1 p2 a b : Addr) (i : Nat) : Prop where
  zp : ∃ v f, Og v ∧ ZpF g z S T v f
  S0 : IsPair g S (.ref p1) (.ref p2)
  T0 : ∃ x y, IsPair g T x y
  f1 : itK t g p1 a i
  f2 : itK u g p2 b i
section
variable {prog : Program} {w : World} {A : Around} {E : Value → Shared → Prop} {s : Shared}
theorem alive {a : Addr} {Q : Option Obj → Shared → Prop} (q : Q (s.heap.get? a) s) : wpAny (model prog w) A (loadIfAlive a) Q E s := fun _ _ _ => q
theorem isFree {z S T : Addr} {v : Value} {f : Bool} {Q : Bool → Shared → Prop} (og : Og v) (z0 : ZpF s.heap z S T v f) (yes : Q true s) (no : ∀ g, ZpF g z S T v true → Heap.SameBut z s.heap g → Q false { s with heap := g }) :
    wpAny (model prog w) A (Builtin.SmallTypes.ownedTupleIsFree (.ref z)) Q E s := by
  unfold Builtin.SmallTypes.ownedTupleIsFree
  rcases og with rfl | ⟨a, rfl⟩
  · exact wpAny_bind (wpAny_field z0 rfl (x := .none) rfl (wpAny_pure yes))
  · refine wpAny_bind (wpAny_field z0 rfl (x := rawInt a) rfl ?_)
    show wpAny _ _ (loadIfAlive ((a : Int).toNat) >>= fun _ => _) _ _ _
    rw [Int.toNat_natCast]
    refine wpAny_bind (alive ?_)
    cases e : s.heap.get? a with
    | none =>
      simp only [Option.isNone_none, if_true]
      exact wpAny_pure yes
    | some o =>
      simp only [Option.isNone_some, Bool.false_eq_true, if_false]
      refine wpAny_bind (wpAny_field z0 rfl (x := .bool f) rfl ?_)
      cases f with
      | true =>
        rw [if_neg (show ¬ ((Value.bool true != Value.bool true) = true) from fun h => nomatch h)]
        exact wpAny_pure (no _ z0 (Heap.SameBut.refl _ _))
      | false =>
        rw [if_pos (show (Value.bool false != Value.bool true) = true from rfl)]
        exact wpAny_bind (wpAny_setField_rec z0 (by simp) fun g1 z1 k1 => wpAny_pure (no g1 z1 k1))
theorem zn_item {t u : Bool} {z S T p1 p2 l1 l2 : Addr} {i : Nat} {xs ys : Array Value} {x y : Value} {Q : Value → Shared → Prop} (D : ZipApart z S T p1 p2 l1 l2) (st : ZS t u s.heap z S T p1 p2 l1 l2 i)
    (m1 : sqK t s.heap l1 xs) (m2 : sqK u s.heap l2 ys) (hx : xs[i]? = some x) (hy : ys[i]? = some y)
    (q : ∀ g, ZS t u g z S T p1 p2 l1 l2 (i + 1) → IsPair g s.heap.objs.size x y → g.objs.size = s.heap.objs.size + 1 → Stay s.heap g z T p1 p2 → Q (.ref s.heap.objs.size) { s with heap := g }) :
    wpAny (model prog w) A (Builtin.«zip.__next__» ⟨[.ref z], []⟩) (fun r s' => ∃ v, r = .done (.ret v) ∧ Q v s') E s := by
  obtain ⟨⟨v, f, og, z0⟩, S0, ⟨a, b, T0⟩, f1, f2⟩ := st
  show wpAny _ _ (field (.ref z) 2 >>= fun _ => _) _ _ _
  refine wpAny_bind (wpAny_field z0 rfl (x := .bool false) rfl ?_)
  show wpAny _ _ (field (.ref z) 3 >>= fun _ => _) _ _ _
  refine wpAny_bind (wpAny_field z0 rfl (x := .ref S) rfl (wpAny_bind (wpAny_seqItems S0 rfl ?_)))
  show wpAny _ _ (Builtin.SmallTypes.ownedTupleIsFree (.ref z) >>= fun _ => _) _ _ _
  refine wpAny_bind (isFree og z0 ?_ fun g1 z1 k1 => ?_)
  · simp only [if_true]
    refine wpAny_bind (wpAny_rule (wpAny_bind (wpAny_field z0 rfl (x := .ref T) rfl (wpAny_bind (wpAny_setField_rec z0 (by simp) fun g1 z1 k1 => ?_)))))
    replace z1 : ZpF g1 z S T .ellipsis f := z1
    refine wpAny_bind ?_
    simp only [List.zipIdx_cons, List.zipIdx_nil, List.forIn_cons, List.forIn_nil]
    refine wpAny_bind (wpAny_bind (wpAny_onRaise ?_))
    show wpAny _ _ (Builtin.SmallTypes.nextOf (.ref p1) >>= fun _ => _) _ _ _
    refine wpAny_bind (nx_item (it_ext f1 k1.extBut D.i1z) (sq_ext m1 k1.extBut D.l1z) hx fun g2 f1b k2 => wpAny_pure ?_)
    have T2 : IsPair g2 T a b := k2.extBut _ _ D.TOi1 (k1.extBut _ _ D.TOz T0)
    refine wpAny_bind (wpAny_seqItems T2 rfl (wpAny_bind (wpAny_updateSeq_pair T2 fun g3 T3 k3 => ?_)))
    replace T3 : IsPair g3 T x b := T3
    refine wpAny_bind (wpAny_letGo (wpAny_pure (wpAny_bind (wpAny_bind (wpAny_onRaise ?_)))))
    show wpAny _ _ (Builtin.SmallTypes.nextOf (.ref p2) >>= fun _ => _) _ _ _
    have f2c := it_ext (it_ext (it_ext f2 k1.extBut D.i2z) k2.extBut D.i12.symm) k3.extBut D.TOi2.symm
    have m2c := sq_ext (sq_ext (sq_ext m2 k1.extBut D.l2z) k2.extBut D.l2i1) k3.extBut D.l2TO
    refine wpAny_bind (nx_item f2c m2c hy fun g4 f2d k4 => wpAny_pure ?_)
    have T4 : IsPair g4 T x b := k4.extBut _ _ D.TOi2 T3
    refine wpAny_bind (wpAny_seqItems T4 rfl (wpAny_bind (wpAny_updateSeq_pair T4 fun g5 T5 k5 => ?_)))
    replace T5 : IsPair g5 T x y := T5
    refine wpAny_bind (wpAny_letGo (wpAny_pure (wpAny_pure (wpAny_bind (wpAny_seqItems T5 rfl (wpAny_bind (wpAny_newTuple ?_)))))))
    have n5 : g5.objs.size = s.heap.objs.size := by rw [k5.1, k4.1, k3.1, k2.1, k1.1]
    have z5 : ZpF g5 z S T .ellipsis f := k5.extBut _ _ D.TOz.symm (k4.extBut _ _ D.i2z.symm (k3.extBut _ _ D.TOz.symm (k2.extBut _ _ D.i1z.symm z1)))
    have st5 : Stay s.heap g5 z T p1 p2 := fun c o c1 c2 c3 c4 e => k5.extBut _ _ c2 (k4.extBut _ _ c4 (k3.extBut _ _ c2 (k2.extBut _ _ c3 (k1.extBut _ _ c1 e))))
    have f15 : itK t g5 p1 l1 (i + 1) := it_ext (it_ext (it_ext f1b k3.extBut D.TOi1.symm) k4.extBut D.i12) k5.extBut D.TOi1.symm
    have f25 : itK u g5 p2 l2 (i + 1) := it_ext f2d k5.extBut D.TOi2.symm
    have ltz : z < g5.objs.size := Heap.lt_size z5
    show wpAny _ _ (Builtin.SmallTypes.ownedTupleHandOut (.ref z) (.ref g5.objs.size) >>= fun _ => _) _ _ _
    refine wpAny_bind ?_
    unfold Builtin.SmallTypes.ownedTupleHandOut
    have z6 : ZpF (g5.push { cls := .type "tuple", data := .seq #[x, y] }) z S T .ellipsis f := Heap.get?_push_of_some _ z5
    refine wpAny_bind (wpAny_setField_rec z6 (by simp) fun g7 z7 k7 => ?_)
    replace z7 : ZpF g7 z S T (rawInt g5.objs.size) f := z7
    refine wpAny_setField_rec z7 (by simp) fun g8 z8 k8 => ?_
    replace z8 : ZpF g8 z S T (rawInt g5.objs.size) false := z8
    have on : ∀ c o, c ≠ z → g5.get? c = some o → g8.get? c = some o := fun c o c1 e => k8.extBut _ _ c1 (k7.extBut _ _ c1 (Heap.get?_push_of_some _ e))
    have W8 : IsPair g8 g5.objs.size x y := k8.extBut _ _ (Nat.ne_of_gt ltz) (k7.extBut _ _ (Nat.ne_of_gt ltz) (Heap.get?_push_size _ rfl))
    have n8 : g8.objs.size = g5.objs.size + 1 := by rw [k8.1, k7.1, Heap.size_push]
    rw [n5] at W8 n8
    have sy : Stay s.heap g8 z T p1 p2 := fun c o c1 c2 c3 c4 e => on c o c1 (st5 c o c1 c2 c3 c4 e)
    refine wpAny_pure ⟨.ref g5.objs.size, rfl, ?_⟩
    rw [n5]
    exact q g8 ⟨⟨_, _, .inr ⟨_, rfl⟩, z8⟩, sy _ _ D.TIz D.TITO D.TIi1 D.TIi2 S0, ⟨x, y, on _ _ D.TOz T5⟩, it_at f15 fun o e => on _ o D.i1z e, it_at f25 fun o e => on _ o D.i2z e⟩ W8 n8 sy
  · simp only [Bool.false_eq_true, if_false]
    refine wpAny_bind ?_
    rw [← Array.forIn_toList]
    simp only [List.forIn_cons, List.forIn_nil]
    refine wpAny_bind (wpAny_bind (wpAny_holding ?_))
    show wpAny _ _ (Builtin.SmallTypes.nextOf (.ref p1) >>= fun _ => _) _ _ _
    refine wpAny_bind (nx_item (s := { s with heap := g1 }) (it_ext f1 k1.extBut D.i1z) (sq_ext m1 k1.extBut D.l1z) hx fun g2 f1b k2 => wpAny_pure (wpAny_pure (wpAny_bind (wpAny_bind (wpAny_holding ?_)))))
    show wpAny _ _ (Builtin.SmallTypes.nextOf (.ref p2) >>= fun _ => _) _ _ _
    refine wpAny_bind (nx_item (s := { s with heap := g2 }) (it_ext (it_ext f2 k1.extBut D.i2z) k2.extBut D.i12.symm) (sq_ext (sq_ext m2 k1.extBut D.l2z) k2.extBut D.l2i1) hy fun g3 f2c k3 => wpAny_pure (wpAny_pure (wpAny_pure ?_)))
    show wpAny _ _ (newTuple [x, y] >>= fun _ => _) _ _ _
    refine wpAny_bind (wpAny_newTuple ?_)
    have n3 : g3.objs.size = s.heap.objs.size := by rw [k3.1, k2.1, k1.1]
    have z3 : ZpF g3 z S T v true := k3.extBut _ _ D.i2z.symm (k2.extBut _ _ D.i1z.symm z1)
    have sy3 : ∀ c o, c ≠ z → c ≠ p1 → c ≠ p2 → s.heap.get? c = some o → g3.get? c = some o := fun c o c1 c2 c3 e => k3.extBut _ _ c3 (k2.extBut _ _ c2 (k1.extBut _ _ c1 e))
    have f13 : itK t g3 p1 l1 (i + 1) := it_ext f1b k3.extBut D.i12
    refine wpAny_pure ⟨_, rfl, ?_⟩
    show Q (.ref g3.objs.size) _
    have W4 : IsPair (g3.push { cls := .type "tuple", data := .seq #[x, y] }) g3.objs.size x y := Heap.get?_push_size _ rfl
    have n4 : (g3.push { cls := .type "tuple", data := .seq #[x, y] }).objs.size = g3.objs.size + 1 := Heap.size_push ..
    rw [n3] at W4 n4 ⊢
    exact q _ ⟨⟨_, _, og, Heap.get?_push_of_some _ z3⟩, Heap.get?_push_of_some _ (sy3 _ _ D.TIz D.TIi1 D.TIi2 S0), ⟨a, b, Heap.get?_push_of_some _ (sy3 _ _ D.TOz D.TOi1 D.TOi2 T0)⟩, it_at f13 fun o e => Heap.get?_push_of_some _ e, it_at f2c fun o e => Heap.get?_push_of_some _ e⟩ W4 n4
      fun c o c1 _ c3 c4 e => Heap.get?_push_of_some _ (sy3 c o c1 c3 c4 e)
theorem zn_end {t u : Bool} {z S T p1 p2 l1 l2 : Addr} {i : Nat} {xs ys : Array Value} {Q : Fin → Shared → Prop} (hh : A.handled = none) (D : ZipApart z S T p1 p2 l1 l2) (st : ZS t u s.heap z S T p1 p2 l1 l2 i)
    (m1 : sqK t s.heap l1 xs) (m2 : sqK u s.heap l2 ys) (he : xs[i]? = none ∨ ys[i]? = none)
    (q : ∀ g e, Stay s.heap g z T p1 p2 → (∃ o, g.get? e = some o ∧ o.cls = .type "StopIteration") → E (.ref e) { s with heap := g }) : wpAny (model prog w) A (Builtin.«zip.__next__» ⟨[.ref z], []⟩) Q E s := by
  obtain ⟨⟨v, f, og, z0⟩, S0, ⟨a, b, T0⟩, f1, f2⟩ := st
  show wpAny _ _ (field (.ref z) 2 >>= fun _ => _) _ _ _
  refine wpAny_bind (wpAny_field z0 rfl (x := .bool false) rfl ?_)
  show wpAny _ _ (field (.ref z) 3 >>= fun _ => _) _ _ _
  refine wpAny_bind (wpAny_field z0 rfl (x := .ref S) rfl (wpAny_bind (wpAny_seqItems S0 rfl ?_)))
  show wpAny _ _ (Builtin.SmallTypes.ownedTupleIsFree (.ref z) >>= fun _ => _) _ _ _
  refine wpAny_bind (isFree og z0 ?_ fun g1 z1 k1 => ?_)
  · simp only [if_true]
    refine wpAny_bind (wpAny_rule (wpAny_bind (wpAny_field z0 rfl (x := .ref T) rfl (wpAny_bind (wpAny_setField_rec z0 (by simp) fun g1 z1 k1 => ?_)))))
    replace z1 : ZpF g1 z S T .ellipsis f := z1
    refine wpAny_bind ?_
    simp only [List.zipIdx_cons, List.zipIdx_nil, List.forIn_cons, List.forIn_nil]
    refine wpAny_bind (wpAny_bind (wpAny_onRaise ?_))
    show wpAny _ _ (Builtin.SmallTypes.nextOf (.ref p1) >>= fun _ => _) _ _ _
    have f1a := it_ext f1 k1.extBut D.i1z
    have m1a := sq_ext m1 k1.extBut D.l1z
    cases hx : xs[i]? with
    | none =>
      refine wpAny_bind (nx_end hh f1a m1a hx fun g2 e k2 ⟨o, eo, ec⟩ => ?_)
      have z2 : ZpF g2 z S T .ellipsis f := k2 _ _ D.i1z.symm z1
      have ne : e ≠ z := fun c => by rw [c, z2] at eo; cases eo; simp at ec
      exact wpAny_setField_rec z2 (by simp) fun g3 _ k3 => q g3 e (fun c o c1 _ c3 _ v => k3.extBut _ _ c1 (k2 _ _ c3 (k1.extBut _ _ c1 v))) ⟨o, k3.extBut _ _ ne eo, ec⟩
    | some x =>
      have hy : ys[i]? = none := he.resolve_left (by rw [hx]; simp)
      refine wpAny_bind (nx_item f1a m1a hx fun g2 f1b k2 => wpAny_pure ?_)
      have T2 : IsPair g2 T a b := k2.extBut _ _ D.TOi1 (k1.extBut _ _ D.TOz T0)
      refine wpAny_bind (wpAny_seqItems T2 rfl (wpAny_bind (wpAny_updateSeq_pair T2 fun g3 T3 k3 => ?_)))
      refine wpAny_bind (wpAny_letGo (wpAny_pure (wpAny_bind (wpAny_bind (wpAny_onRaise ?_)))))
      show wpAny _ _ (Builtin.SmallTypes.nextOf (.ref p2) >>= fun _ => _) _ _ _
      have f2c := it_ext (it_ext (it_ext f2 k1.extBut D.i2z) k2.extBut D.i12.symm) k3.extBut D.TOi2.symm
      have m2c := sq_ext (sq_ext (sq_ext m2 k1.extBut D.l2z) k2.extBut D.l2i1) k3.extBut D.l2TO
      refine wpAny_bind (nx_end hh f2c m2c hy fun g4 e k4 ⟨o, eo, ec⟩ => ?_)
      have z4 : ZpF g4 z S T .ellipsis f := k4 _ _ D.i2z.symm (k3.extBut _ _ D.TOz.symm (k2.extBut _ _ D.i1z.symm z1))
      have ne : e ≠ z := fun c => by rw [c, z4] at eo; cases eo; simp at ec
      exact wpAny_setField_rec z4 (by simp) fun g5 _ k5 => q g5 e (fun c o c1 c2 c3 c4 v => k5.extBut _ _ c1 (k4 _ _ c4 (k3.extBut _ _ c2 (k2.extBut _ _ c3 (k1.extBut _ _ c1 v))))) ⟨o, k5.extBut _ _ ne eo, ec⟩
  · simp only [Bool.false_eq_true, if_false]
    refine wpAny_bind ?_
    rw [← Array.forIn_toList]
    simp only [List.forIn_cons, List.forIn_nil]
    refine wpAny_bind (wpAny_bind (wpAny_holding ?_))
    show wpAny _ _ (Builtin.SmallTypes.nextOf (.ref p1) >>= fun _ => _) _ _ _
    have f1a := it_ext f1 k1.extBut D.i1z
    have m1a := sq_ext m1 k1.extBut D.l1z
    cases hx : xs[i]? with
    | none => exact wpAny_bind (nx_end (s := { s with heap := g1 }) hh f1a m1a hx fun g2 e k2 x => q g2 e (fun c o c1 _ c3 _ v => k2 _ _ c3 (k1.extBut _ _ c1 v)) x)
    | some x =>
      have hy : ys[i]? = none := he.resolve_left (by rw [hx]; simp)
      refine wpAny_bind (nx_item (s := { s with heap := g1 }) f1a m1a hx fun g2 f1b k2 => wpAny_pure (wpAny_pure (wpAny_bind (wpAny_bind (wpAny_holding ?_)))))
      show wpAny _ _ (Builtin.SmallTypes.nextOf (.ref p2) >>= fun _ => _) _ _ _
      exact wpAny_bind (nx_end (s := { s with heap := g2 }) hh (it_ext (it_ext f2 k1.extBut D.i2z) k2.extBut D.i12.symm) (sq_ext (sq_ext m2 k1.extBut D.l2z) k2.extBut D.l2i1) hy fun g3 e k3 x => q g3 e (fun c o c1 _ c3 c4 v => k3 _ _ c4 (k2.extBut _ _ c3 (k1.extBut _ _ c1 v))) x)
end
end Ez
namespace Ez
open PySem PySem.Spec PyProof.Rows L2 Zq
open PySem.Sem (wp)
open AutoSeq1 (wpAny_loadPart')
theorem ZS.keep {t u : Bool} {g g' : Heap} {z S T p1 p2 a b : Addr} {i : Nat} (st : ZS t u g z S T p1 p2 a b i) (k : ∀ c ∈ [z, S, T, p1, p2], ∀ o, g.get? c = some o → g'.get? c = some o) : ZS t u g' z S T p1 p2 a b i :=
  ⟨let ⟨v, f, og, z0⟩ := st.zp; ⟨v, f, og, k z (by simp) _ z0⟩, k S (by simp) _ st.S0, let ⟨x, y, T0⟩ := st.T0; ⟨x, y, k T (by simp) _ T0⟩, it_at st.f1 (k p1 (by simp)), it_at st.f2 (k p2 (by simp))⟩
theorem ZS.obj {t u : Bool} {g : Heap} {z S T p1 p2 a b : Addr} {i : Nat} (st : ZS t u g z S T p1 p2 a b i) {c : Addr} (hc : c ∈ [z, S, T, p1, p2]) : ∃ o, g.get? c = some o ∧ ∀ v, o.data ≠ .cell v := by
  obtain ⟨⟨v, f, og, z0⟩, S0, ⟨x, y, T0⟩, f1, f2⟩ := st
  obtain ⟨o1, g1, d1⟩ := it_obj f1
  obtain ⟨o2, g2, d2⟩ := it_obj f2
  refine five hc (fun e => ?_) (fun e => ?_) (fun e => ?_) (fun e => ?_) (fun e => ?_) <;> rw [e]
  · exact ⟨_, z0, fun _ k => nomatch k⟩
  · exact ⟨_, S0, fun _ k => nomatch k⟩
  · exact ⟨_, T0, fun _ k => nomatch k⟩
  · exact ⟨o1, g1, fun _ k => by cases d1.symm.trans k⟩
  · exact ⟨o2, g2, fun _ k => by cases d2.symm.trans k⟩
section
variable {prog : Program} {w : World} {A : Around} {E : Value → Shared → Prop} {s : Shared}
theorem nx_zip {t u : Bool} {z S T p1 p2 l1 l2 : Addr} {i : Nat} {xs ys : Array Value} {x y : Value} {Q : Value → Shared → Prop} (D : ZipApart z S T p1 p2 l1 l2) (st : ZS t u s.heap z S T p1 p2 l1 l2 i)
    (m1 : sqK t s.heap l1 xs) (m2 : sqK u s.heap l2 ys) (hx : xs[i]? = some x) (hy : ys[i]? = some y)
    (q : ∀ g, ZS t u g z S T p1 p2 l1 l2 (i + 1) → IsPair g s.heap.objs.size x y → g.objs.size = s.heap.objs.size + 1 → Stay s.heap g z T p1 p2 → Q (.ref s.heap.objs.size) { s with heap := g }) :
    wpAny (model prog w) A (Builtin.SmallTypes.nextOf (.ref z)) Q E s := by
  have ty : s.TypeIs (.ref z) "zip" := let ⟨_, _, _, z0⟩ := st.zp; ⟨_, z0, rfl⟩
  unfold Builtin.SmallTypes.nextOf
  exact wpAny_bind (wpAny_callSpecial?_slot (name := Str.ofString "__next__") ty F.slot_zip_next (wpAny_call_entry F.slot_zip_next ty F.entry_zip_next (zn_item D st m1 m2 hx hy fun g a1 a2 a3 a4 => wpAny_pure (q g a1 a2 a3 a4)) (F.args_zip_next_1 _)))
theorem nx_zipEnd {t u : Bool} {z S T p1 p2 l1 l2 : Addr} {i : Nat} {xs ys : Array Value} {Q : Value → Shared → Prop} (hh : A.handled = none) (D : ZipApart z S T p1 p2 l1 l2) (st : ZS t u s.heap z S T p1 p2 l1 l2 i)
    (m1 : sqK t s.heap l1 xs) (m2 : sqK u s.heap l2 ys) (he : xs[i]? = none ∨ ys[i]? = none)
    (q : ∀ g e, Stay s.heap g z T p1 p2 → (∃ o, g.get? e = some o ∧ o.cls = .type "StopIteration") → E (.ref e) { s with heap := g }) : wpAny (model prog w) A (Builtin.SmallTypes.nextOf (.ref z)) Q E s := by
  have ty : s.TypeIs (.ref z) "zip" := let ⟨_, _, _, z0⟩ := st.zp; ⟨_, z0, rfl⟩
  unfold Builtin.SmallTypes.nextOf
  exact wpAny_bind (wpAny_callSpecial?_slot (name := Str.ofString "__next__") ty F.slot_zip_next (wpAny_call_entry F.slot_zip_next ty F.entry_zip_next (zn_end hh D st m1 m2 he q) (F.args_zip_next_1 _)))
theorem en_item {t u : Bool} {e z S T p1 p2 l1 l2 : Addr} {i : Nat} {xs ys : Array Value} {x y old : Value} {Q : Option Value → Shared → Prop} (D : ZipApart z S T p1 p2 l1 l2) (ne : e ∉ [z, S, T, p1, p2]) (he : IsEnum s.heap e z ((i : Nat) : Int) old) (st : ZS t u s.heap z S T p1 p2 l1 l2 i)
    (m1 : sqK t s.heap l1 xs) (m2 : sqK u s.heap l2 ys) (hx : xs[i]? = some x) (hy : ys[i]? = some y)
    (q : ∀ g tk, IsEnumOut g e z ((i : Int) + 1) (.ref s.heap.objs.size) (s.heap.objs.size + 1) → ZS t u g z S T p1 p2 l1 l2 (i + 1) → IsPair g s.heap.objs.size x y →
      g.get? (s.heap.objs.size + 1) = some { cls := .type "tuple", data := .seq #[.int i tk, .ref s.heap.objs.size] } → (∀ c o, c ∉ [e, z, S, T, p1, p2] → s.heap.get? c = some o → g.get? c = some o) → Q (some (.ref (s.heap.objs.size + 1))) { s with heap := g, toks := tk + 1 }) :
    wpAny (model prog w) A (pyNext (.ref e)) Q E s := by
  have ty : s.TypeIs (.ref e) "enumerate" := ⟨_, he, rfl⟩
  simp only [List.mem_cons, List.not_mem_nil, or_false, not_or] at ne
  unfold pyNext
  refine wpAny_bind (wpAny_attempt (wpAny_callSpecial?_slot (name := Str.ofString "__next__") ty F.slot_enumerate_next (wpAny_call_entry F.slot_enumerate_next ty F.entry_enumerate_next ?_ (F.args_enumerate_next_1 _))))
  obtain ⟨g0, ga, gd, tk, os⟩ := s
  show wpAny _ _ (field (.ref e) 2 >>= fun _ => _) _ _ _
  refine wpAny_bind (wpAny_field he rfl (x := .ref z) rfl (wpAny_bind (nx_zip D st m1 m2 hx hy fun g1 st1 W1 n1 sy1 => ?_)))
  replace W1 : IsPair g1 g0.objs.size x y := W1
  replace n1 : g1.objs.size = g0.objs.size + 1 := n1
  replace sy1 : Stay g0 g1 z T p1 p2 := sy1
  have e1 : IsEnum g1 e z ((i : Nat) : Int) old := sy1 _ _ ne.1 ne.2.2.1 ne.2.2.2.1 ne.2.2.2.2 he
  show wpAny _ _ (field (.ref e) 3 >>= fun _ => _) _ _ ⟨g1, ga, gd, tk, os⟩
  refine wpAny_bind (wpAny_field e1 rfl (x := rawInt i) rfl ?_)
  show wpAny _ _ (field (.ref e) 4 >>= fun _ => _) _ _ ⟨g1, ga, gd, tk, os⟩
  refine wpAny_bind (wpAny_field e1 rfl (x := .none) rfl ?_)
  show wpAny _ _ (mkInt i >>= fun _ => _) _ _ ⟨g1, ga, gd, tk, os⟩
  refine wpAny_bind (wpAny_mkInt ?_)
  show wpAny _ _ (setField (.ref e) 3 (rawInt ((i : Int) + 1)) >>= fun _ => _) _ _ ⟨g1, ga, gd, tk + 1, os⟩
  refine wpAny_bind (wpAny_setField_rec e1 (by simp) fun g2 e2 k2 => ?_)
  replace k2 : Heap.SameBut e g1 g2 := k2
  replace e2 : IsEnum g2 e z ((i : Int) + 1) old := e2
  show wpAny _ _ (setField (.ref e) 4 .none >>= fun _ => _) _ _ ⟨g2, ga, gd, tk + 1, os⟩
  refine wpAny_bind (wpAny_setField_rec e2 (by simp) fun g3 e3 k3 => ?_)
  replace k3 : Heap.SameBut e g2 g3 := k3
  replace e3 : IsEnum g3 e z ((i : Int) + 1) old := e3
  show wpAny _ _ (newTuple [.int i tk, .ref g0.objs.size] >>= fun _ => _) _ _ ⟨g3, ga, gd, tk + 1, os⟩
  refine wpAny_bind (wpAny_newTuple ?_)
  have e4 : IsEnum (g3.push { cls := .type "tuple", data := .seq #[.int i tk, .ref g0.objs.size] }) e z ((i : Int) + 1) old := Heap.get?_push_of_some _ e3
  have n3 : g3.objs.size = g0.objs.size + 1 := by rw [k3.1, k2.1, n1]
  have O4 : (g3.push { cls := .type "tuple", data := .seq #[.int i tk, .ref g0.objs.size] }).get? (g0.objs.size + 1) = some { cls := .type "tuple", data := .seq #[.int i tk, .ref g0.objs.size] } := by
    rw [← n3]
    exact Heap.get?_push_size _ rfl
  have y4 : ∀ c o, c ≠ e → g1.get? c = some o → (g3.push { cls := .type "tuple", data := .seq #[.int i tk, .ref g0.objs.size] }).get? c = some o := fun c o hc h => Heap.get?_push_of_some _ (k3.extBut _ _ hc (k2.extBut _ _ hc h))
  generalize (g3.push { cls := .type "tuple", data := .seq #[.int i tk, .ref g0.objs.size] }) = g4 at e4 O4 y4
  have le : e < g0.objs.size := Heap.lt_size he
  show wpAny _ _ (Builtin.SmallTypes.ownedTupleIsFree (.ref e) >>= fun _ => _) _ _ ⟨g4, ga, gd, tk + 1, os⟩
  rw [n3]
  refine wpAny_bind ?_
  unfold Builtin.SmallTypes.ownedTupleIsFree
  refine wpAny_bind (wpAny_field e4 rfl (x := .none) rfl (wpAny_pure ?_))
  simp only [if_true]
  refine wpAny_bind (wpAny_rule (wpAny_bind (wpAny_field e4 rfl (x := old) rfl (wpAny_bind (wpAny_setField_rec e4 (by simp) fun g5 e5 k5 => ?_)))))
  replace k5 : Heap.SameBut e g4 g5 := k5
  replace e5 : IsEnum g5 e z ((i : Int) + 1) (.ref g0.objs.size) := e5
  show wpAny _ _ (Builtin.SmallTypes.ownedTupleHandOut (.ref e) (.ref (g0.objs.size + 1)) >>= fun _ => _) _ _ ⟨g5, ga, gd, tk + 1, os⟩
  refine wpAny_bind ?_
  unfold Builtin.SmallTypes.ownedTupleHandOut
  refine wpAny_bind (wpAny_setField_rec e5 (by simp) fun g6 e6 k6 => ?_)
  replace k6 : Heap.SameBut e g5 g6 := k6
  replace e6 : IsEnumOut g6 e z ((i : Int) + 1) (.ref g0.objs.size) (g0.objs.size + 1) := e6
  refine wpAny_setField_rec e6 (by simp) fun g7 e7 k7 => ?_
  replace k7 : Heap.SameBut e g6 g7 := k7
  replace e7 : IsEnumOut g7 e z ((i : Int) + 1) (.ref g0.objs.size) (g0.objs.size + 1) := e7
  have y7 : ∀ c o, c ≠ e → g4.get? c = some o → g7.get? c = some o := fun c o hc h => k7.extBut _ _ hc (k6.extBut _ _ hc (k5.extBut _ _ hc h))
  have y : ∀ c o, c ≠ e → g1.get? c = some o → g7.get? c = some o := fun c o hc h => y7 c o hc (y4 c o hc h)
  refine wpAny_bind (wpAny_letGo (wpAny_pure ⟨_, rfl, wpAny_pure (q g7 tk e7 (st1.keep fun c hc o h => y c o (fun w => ?_) h) (y _ _ (Nat.ne_of_gt le) W1) (y7 _ _ (Nat.ne_of_gt (Nat.lt_succ_of_lt le)) O4) fun c o hc h => ?_)⟩))
  · simp only [List.mem_cons, List.not_mem_nil, or_false] at hc
    rw [w] at hc
    exact hc.elim ne.1 fun hc => hc.elim ne.2.1 fun hc => hc.elim ne.2.2.1 fun hc => hc.elim ne.2.2.2.1 ne.2.2.2.2
  · simp only [List.mem_cons, List.not_mem_nil, or_false, not_or] at hc
    exact y c o hc.1 (sy1 c o hc.2.1 hc.2.2.2.1 hc.2.2.2.2.1 hc.2.2.2.2.2 h)
theorem en_end {t u : Bool} {e z S T p1 p2 l1 l2 : Addr} {i : Nat} {xs ys : Array Value} {old : Value} {Q : Option Value → Shared → Prop} (hh : A.in1.handled = none) (D : ZipApart z S T p1 p2 l1 l2) (he : IsEnum s.heap e z ((i : Nat) : Int) old) (st : ZS t u s.heap z S T p1 p2 l1 l2 i)
    (m1 : sqK t s.heap l1 xs) (m2 : sqK u s.heap l2 ys) (hn : xs[i]? = none ∨ ys[i]? = none) (q : ∀ g, Stay s.heap g z T p1 p2 → Q none { s with heap := g }) : wpAny (model prog w) A (pyNext (.ref e)) Q E s := by
  have ty : s.TypeIs (.ref e) "enumerate" := ⟨_, he, rfl⟩
  unfold pyNext
  refine wpAny_bind (wpAny_attempt (wpAny_callSpecial?_slot (name := Str.ofString "__next__") ty F.slot_enumerate_next (wpAny_call_entry F.slot_enumerate_next ty F.entry_enumerate_next ?_ (F.args_enumerate_next_1 _))))
  show wpAny _ _ (field (.ref e) 2 >>= fun _ => _) _ _ _
  refine wpAny_bind (wpAny_field he rfl (x := .ref z) rfl (wpAny_bind (nx_zipEnd hh D st m1 m2 hn fun g x sy ⟨o, ho, hc⟩ => ?_)))
  exact wpAny_bind (wpAny_isInstance (T := "StopIteration") (b := true) ⟨o, ho, hc⟩ isSubtype_stop (wpAny_pure (q g sy)))
end
end Ez
namespace Ez
open PySem PySem.Spec PyProof.Rows L2 Zq Xg
def ItN (K : PySem.W.Frag) (a b : Addr) : It where
  go i H := ∃ (xs ys : List V) (x y : V), (SqT K H a xs ∧ xs[i]? = some x) ∧ (SqL K H b ys ∧ ys[i]? = some y)
  yld i H v H' := ∃ W O x y, v = .ref O ∧ H W = none ∧ W ≠ O ∧ H O = none ∧ H' = upd (upd H W (.tup [x, y])) O (.tup [.int (i : Nat), .ref W]) ∧ (∀ l, SqT K H a l → l[i]? = some x) ∧ (∀ l, SqL K H b l → l[i]? = some y)
  stop i H := ∃ xs ys : List V, SqT K H a xs ∧ SqL K H b ys ∧ min xs.length ys.length ≤ i
theorem turn_N {P : Program} {w : World} {K : PySem.W.Frag} {es : List Expr} {kk : Nat} {tp : Pos} {a b e z S T p1 p2 : Addr} (D : ZipApart z S T p1 p2 a b) (ne : e ∉ [z, S, T, p1, p2]) :
    Turn P w K (.Tuple es kk tp) (ItN K a b) [e, z, S, T, p1, p2] e (fun i g => (∃ old, IsEnum g e z ((i : Nat) : Int) old) ∧ ZS true false g z S T p1 p2 a b i) where
  mem := List.mem_cons_self ..
  obj := fun i g st c hc => by
    obtain ⟨⟨old, he⟩, st⟩ := st
    rcases List.mem_cons.mp hc with rfl | hc
    · exact ⟨_, he, fun v q => nomatch q⟩
    · exact st.obj hc
  keep := fun i g g' st k => ⟨let ⟨old, he⟩ := st.1; ⟨old, k e (by simp) _ he⟩, st.2.keep fun c hc => k c (List.mem_cons_of_mem _ hc)⟩
  item := by
    rintro X rfl rfl rfl hc i pins s σ H E I hf ⟨⟨old, he⟩, st⟩ ⟨xs, ys, x, y, ⟨qx, ex⟩, qy, ey⟩
    have lts : ∀ c ∈ [e, z, S, T, p1, p2], c < s.heap.objs.size := fun c hm => by
      rcases List.mem_cons.mp hm with rfl | hm
      · exact Heap.lt_size he
      · obtain ⟨_, q, _⟩ := st.obj hm
        exact Heap.lt_size q
    obtain ⟨us, r1, m1, _⟩ := I.tuple qx
    obtain ⟨vs, r2, m2, _⟩ := I.list qy
    obtain ⟨u, eu, ru⟩ := r1.get ex
    obtain ⟨v, ev, rv⟩ := r2.get ey
    refine en_item (t := true) (u := false) D ne he st m1 m2.isList (x := u) (y := v) (by simpa using eu) (by simpa using ev) fun g tk eo st1 W1 O1 ky => ⟨_, rfl, ?_⟩
    refine wpAny_letOwnedTupleGo_enum (s := { s with heap := g, toks := tk + 1 }) eo fun g2 he2 sb => ?_
    have le := lts e (List.mem_cons_self ..)
    have O2 := (sb.2 _ (Nat.ne_of_gt (Nat.lt_succ_of_lt le))).trans O1
    have W2 := (sb.2 _ (Nat.ne_of_gt le)).trans W1
    have I1 : Inv X pins σ (upd H s.heap.objs.size (.tup [x, y])) { s with heap := s.heap.push { cls := .type "tuple", data := .seq #[u, v] } } :=
      I.laid (t' := s.toks) (fun c ob q => Heap.get?_push_of_some _ q) (Nat.le_refl _) ⟨(by decide : 2 ≤ sizeLine), [u, v], .cons ru (.cons rv .nil), ⟨_, Heap.get?_push_size _ rfl, rfl, _, rfl⟩⟩
    have okO : ObjOk X.prog X.w (upd (upd H s.heap.objs.size (.tup [x, y])) (s.heap.objs.size + 1) (.tup [.int (i : Nat), .ref s.heap.objs.size])) g2 (s.heap.objs.size + 1) (.tup [.int (i : Nat), .ref s.heap.objs.size]) :=
      ⟨(by decide : 2 ≤ sizeLine), [.int i tk, .ref s.heap.objs.size], .cons ⟨_, rfl⟩ (.cons rfl .nil), ⟨_, O2, rfl, _, rfl⟩⟩
    have I2 := I1.turnedNew (t' := tk + 1) (h' := g2) (ch := [e, z, S, T, p1, p2]) (T := s.heap.objs.size + 1) (ob := .tup [.int (i : Nat), .ref s.heap.objs.size]) (fun c o hb q => by
        rcases Heap.get?_push_cases q with ⟨rfl, rfl⟩ | q
        · exact W2
        · exact (sb.2 c fun w => hb (by rw [w]; exact List.mem_cons_self ..)).trans (ky c o hb q))
      (fun c hm => ⟨(upd_ne (Nat.ne_of_lt (lts c hm))).trans (hf c hm).1, (hf c hm).2⟩) (by show (s.heap.push _).objs.size ≤ _; rw [Heap.size_push]; exact Nat.le_refl _) okO
    have f0 : H s.heap.objs.size = none := I.hok.fresh (Nat.le_refl _)
    have f1 : H (s.heap.objs.size + 1) = none := I.hok.fresh (Nat.le_succ _)
    refine ⟨.ref (s.heap.objs.size + 1), _, I2, rfl, ⟨_, _, x, y, rfl, f0, Nat.ne_of_lt (Nat.lt_succ_self _), f1, rfl, fun l hl => I.tuple_inj hl qx ▸ ex, fun l hl => I.list_inj hl qy ▸ ey⟩, ⟨⟨.ref s.heap.objs.size, ?_⟩, st1.keep fun c hc o q => (sb.2 c fun w => ne (by rw [← w]; exact hc)).trans q⟩, fun c hm => ?_⟩
    · rw [show ((i + 1 : Nat) : Int) = (i : Int) + 1 by omega]
      exact he2
    · have lc := lts c hm
      exact (upd_ne (Nat.ne_of_lt (Nat.lt_succ_of_lt lc))).trans ((upd_ne (Nat.ne_of_lt lc)).trans (hf c hm).1)
  done := by
    rintro X rfl rfl rfl hc i pins s σ H E I hf ⟨⟨old, he⟩, st⟩ ⟨xs, ys, qx, qy, hn⟩
    obtain ⟨us, r1, m1, _⟩ := I.tuple qx
    obtain ⟨vs, r2, m2, _⟩ := I.list qy
    have n1 := r1.length
    have n2 := r2.length
    have no : us.toArray[i]? = none ∨ vs.toArray[i]? = none := by
      simp only [List.getElem?_toArray, List.getElem?_eq_none_iff]
      omega
    refine en_end (t := true) (u := false) (I.ok.hd hc) D he st m1 m2.isList no fun g sy => ⟨rfl, I.turnedL (t' := s.toks) (ch := [e, z, S, T, p1, p2]) (fun c o hb q => ?_) hf⟩
    simp only [List.mem_cons, List.not_mem_nil, or_false, not_or] at hb
    exact sy c o hb.2.1 hb.2.2.2.1 hb.2.2.2.2.1 hb.2.2.2.2.2 q
  self := fun A i s Q E st h => let ⟨⟨_, he⟩, _⟩ := st; wpAny_pyIter_enum he h
end Ez
namespace Dv
open PySem PySem.Spec PyProof.Rows L2 Xg
open Classical
section
variable {K : PySem.W.Frag} {md : Bool} {ta tb : TE} {ca cb : Nat} {fa fb : FE}
end
end Dv
namespace Dv
open PySem PySem.Spec PyProof.Rows L2 Xg
open Classical
section
variable {K : PySem.W.Frag} {md : Bool} {ta tc : TE} {ca cc : Nat} {fa fc : FE}
end
end Dv
namespace Dv
open PySem PySem.Spec PyProof.Rows L2 Xg
open Classical
end Dv
namespace Dv
open PySem PySem.Spec PyProof.Rows L2 Xg
open Classical
section
variable {K : PySem.W.Frag} {md : Bool} {ta tb : TE} {ca cb : Nat} {fa fb : FE}
end
end Dv
namespace Dv
open PySem PySem.Spec PyProof.Rows L2 Xg
open Classical
structure DfR (P : Program) (w : World) (K : PySem.W.Frag) (mg : Str → Option Value) (base : Heap) (x : Str) (ps : List Str) (k : Nat) (sp : Sp) : Prop where
  ex : ∃ (f : Addr) (fd : FuncData), FnG P w K mg base k f fd ps sp ∧ mg x = some (.ref f) ∧ PySem.W.keepIn K (.ref f) = true ∧ KwOnly K fd ps ps.reverse List.reverse
section
variable {K : PySem.W.Frag} {tr : TA} {cr c : Nat} {fr : FA}
theorem ArgL.app {b : Option Addr} {S : Addr → Prop} {H : Hp} : ∀ {vs ws : List V} {as bs : List Sl}, ArgL K b S H vs as → ArgL K b S H ws bs → ArgL K b S H (vs ++ ws) (as ++ bs)
  | _, _, _, _, .nil, h => h
  | _, _, _, _, .cons h g, k => .cons h (ArgL.app g k)
theorem ArgL.rev {b : Option Addr} {S : Addr → Prop} {H : Hp} : ∀ {vs : List V} {as : List Sl}, ArgL K b S H vs as → ArgL K b S H vs.reverse as.reverse
  | _, _, .nil => .nil
  | _, _, .cons h g => by
    rw [List.reverse_cons, List.reverse_cons]
    exact (ArgL.rev g).app (.cons h .nil)
end
end Dv
namespace Dv
open PySem PySem.Spec PyProof.Rows L2 Xg
theorem at_int {ns : List Int} {is : List Value} {i : Nat} {v : Value} (rv : Vals (ns.map V.int) is) (hv : is.toArray[i]? = some v) : i < ns.length ∧ ∃ t, v = .int (ns.getD i 0) t := by
  rw [List.getElem?_toArray] at hv
  have ln := rv.length
  rw [List.length_map] at ln
  have il : i < ns.length := by
    have := (List.getElem?_eq_some_iff.mp hv).1
    omega
  have e1 : (ns.map V.int)[i]? = some (.int (ns.getD i 0)) := by
    rw [List.getElem?_map, List.getElem?_eq_getElem il, List.getD_eq_getElem?_getD, List.getElem?_eq_getElem il]
    rfl
  obtain ⟨u, e2, e3⟩ := Vals.get rv e1
  rw [hv] at e2
  cases e2
  exact ⟨il, e3⟩
def rMinT (K : PySem.W.Frag) : List V → Hp → VK → Prop := fun vs H Q => ∃ (a : Addr) (ns : List Int), vs = [V.ref a] ∧ SqT K H a (ns.map V.int) ∧ 0 < ns.length ∧ ∀ m, m ∈ ns → (∀ y, y ∈ ns → m ≤ y) → Q (.int m) H
theorem cr_minT {X : Cx} (hc : X.calm = true) : CallR X (.builtin "min") (rMinT X.K) := by
  intro pins s σ H vs us Q I r h
  obtain ⟨a, ns, rfl, hs, hne, q⟩ := h
  obtain ⟨is, rv, m1, _⟩ := I.tuple hs
  rw [Vals.ref1 r]
  have la : a < s.heap.objs.size := let ⟨_, e, _⟩ := id m1; Heap.lt_size e
  have ln : is.toArray.size = ns.length := by
    have := rv.length
    rw [List.length_map] at this
    rw [List.size_toArray, ← this]
  refine call_min_walk (wpAny_pyIter_tuple (show s.heap.IsTuple a is.toArray from m1) ⟨_, _, _, _, _, _, _, rfl, Walks.tuple (A := X.A.in1) (I.ok.hd hc) s.heap.objs.size a (Nat.ne_of_lt la) is.toArray,
    ⟨⟨_, Heap.get?_push_size _ rfl, rfl, rfl⟩, ?_⟩, fun b hb => ?_, by rw [ln]; exact hne, CmpOf.ints_lt (fun i => ns.getD i 0) (fun i v hv => (at_int rv hv).2), fun v h' tk hP hk => ?_⟩)
  · have m2 : s.heap.IsTuple a is.toArray := m1
    exact m2.at fun o e => Heap.get?_push_of_some _ e
  · rw [Heap.size_push]
    rcases List.mem_cons.mp hb with z | z
    · rw [z]; exact Nat.lt_succ_self _
    · rw [List.mem_singleton.mp z]; exact Nat.lt_succ_of_lt la
  · obtain ⟨il, t, rfl⟩ := at_int rv hP
    obtain ⟨_, b2⟩ := argBest_lt (fun i => ns.getD i 0) (is.toArray.size - 1)
    refine ⟨.int _, H, I.kept fun b o x => hk b o (fun z => by rw [List.mem_singleton.mp z] at x; exact absurd (Heap.lt_size x) (Nat.lt_irrefl _)) (Heap.get?_push_of_some _ x), ⟨_, rfl⟩, q _ ?_ fun y hy => ?_⟩
    · rw [List.getD_eq_getElem?_getD, List.getElem?_eq_getElem il]
      exact List.getElem_mem il
    · obtain ⟨j, hj, rfl⟩ := List.getElem_of_mem hy
      have z := b2 j (by rw [ln]; omega)
      rw [List.getD_eq_getElem?_getD (l := ns) (i := j), List.getElem?_eq_getElem hj] at z
      exact z
abbrev rMinX (K : PySem.W.Frag) : List V → Hp → VK → Prop := fun vs H Q => rMin K vs H Q ∨ rMinT K vs H Q
theorem cr_minX {X : Cx} (hc : X.calm = true) : CallR X (.builtin "min") (rMinX X.K) := callr_or (cr_min hc) (cr_minT hc)
abbrev minX : PyData → (PyData → Prop) → Prop
  | .list ds, Q => ∃ ns : List Int, ds = ns.map PyData.int ∧ 0 < ns.length ∧ ∀ m, m ∈ ns → (∀ y, y ∈ ns → m ≤ y) → Q (.int m)
  | .tuple ds, Q => ∃ ns : List Int, ds = ns.map PyData.int ∧ 0 < ns.length ∧ ∀ m, m ∈ ns → (∀ y, y ∈ ns → m ≤ y) → Q (.int m)
  | _, _ => False
theorem cs_minX {K : PySem.W.Frag} : CallSnd K (rMinX K) (g1 minX) := call1
  (fun x P P' h q => by cases x <;> first | exact let ⟨ns, e, z1, z2⟩ := q; ⟨ns, e, z1, fun m a b => h _ (z2 m a b)⟩ | exact q.elim)
  (fun {b S H v d Q P} al h q k => by
    cases d <;> first | exact q.elim | skip
    · obtain ⟨ns, rfl, q1, q2⟩ := q
      obtain ⟨p, vs, rfl, e, g⟩ := h.list
      rw [g.ints_inv] at e
      exact .inl ⟨p, ns, rfl, .inl (.inl e), q1, fun m a b => k _ _ _ (q2 m a b) (Evl.Ex.refl _) (.int _)⟩
    · obtain ⟨ns, rfl, q1, q2⟩ := q
      obtain ⟨p, vs, rfl, e, g⟩ := h.tuple
      rw [g.ints_inv] at e
      exact .inr ⟨p, ns, rfl, e, q1, fun m a b => k _ _ _ (q2 m a b) (Evl.Ex.refl _) (.int _)⟩)
end Dv
namespace Dv
open PySem PySem.Spec PyProof.Rows L2 Xg
open Classical
section
variable {K : PySem.W.Frag} {md : Bool} {ta : TE} {ca : Nat} {fa : FE}
end
end Dv
namespace Dv
open PySem PySem.Spec PyProof.Rows L2 Xg
open Classical
section
variable {K : PySem.W.Frag} {tt : TT} {ft : FT} {ct ca cb c : Nat} {ta tb : TE} {fa fb : FD}
end
end Dv
namespace Dv
open PySem PySem.Spec PyProof.Rows L2 Xg
open Classical
abbrev FN := List Sl → (List (List PyData) → Prop) → Prop
structure SndN (K : PySem.W.Frag) (t : TA) (n c : Nat) (f : FN) : Prop where
  mono : ∀ (ρ : List Sl) (P P' : List (List PyData) → Prop), (∀ d, P d → P' d) → f ρ P → f ρ P'
  go : ∀ {b : Option Addr} {S : Addr → Prop} {m : Nat} {σ : L2.St} {H : Hp} {ρ : List Sl} {Q : List V → Hp → Prop} {P : List (List PyData) → Prop}, DEnv K b S m H σ ρ → m + c ≤ LIM → f ρ P →
    (∀ (dss : List (List PyData)) (ps : List Addr) (H' : Hp), P dss → ps.length = n → Stp K b H H' → BxO b H' (m + c) → (∀ q ∈ ps, H q = none) → ps.Nodup → DaL K (rm H' S) (ps.map V.ref) (dss.map PyData.list) → Q (ps.map V.ref) H') → t σ H Q
section
variable {K : PySem.W.Frag} {ta : TE} {tr : TA} {ca cr n c : Nat} {fa : FD} {fr : FN}
def Cn (t : TE) : Prop := ∀ σ H Q, (∀ v H', Evl.Ex H H' → Q v H') → t σ H Q
theorem cn_c {v : V} : Cn (tC v) := fun σ H Q k => k v H (Evl.Ex.refl _)
def Ch (H : Hp) (q : Addr) (B : Nat) (H' : Hp) : Prop := (∀ a o, a ≠ q → H a = some o → H' a = some o) ∧ ∃ ws, H' q = some (.lst ws) ∧ ws.length ≤ B
structure Wm (k : Nat) (t : TE → TS) : Prop where
  go : ∀ {to : TE} {D : Ends} {σ : L2.St} {H : Hp} {q : Addr} {ws : List V} {B : Nat}, (∀ (H1 : Hp) (Q : VK), (∀ a o, a ≠ q → H a = some o → H1 a = some o) → Q (.ref q) H1 → to σ H1 Q) → H q = some (.lst ws) → ws.length ≤ B → B + k < sizeLine → (∀ H', Ch H q (B + k) H' → D.nx σ H') → t to D σ H
theorem wm_app (a : Cn ta) : Wm 1 fun to => tDrop (tBM K "list" rAppend to (tCons ta tNil)) := ⟨fun {to D σ H q ws B} ht hq hl hB k => by
  refine ht H _ (fun _ _ _ h => h) ⟨.inl ⟨rfl, ws, .inl (.inl hq)⟩, a σ H _ fun v H1 e1 => ⟨q, ws, v, rfl, rfl, e1 _ _ hq, by omega, k _ ⟨fun a o n h => ?_, _, upd_same, ?_⟩⟩⟩
  · rw [upd_ne n]
    exact e1 _ _ h
  · rw [List.length_append, List.length_singleton]
    omega⟩
structure Wr (i n : Nat) (vs : List Nat) (k : Nat) (t : TS) : Prop where
  go : ∀ {D : Ends} {σ : L2.St} {H : Hp} {p : Addr} {ps : List Addr} {B : Nat}, (∀ x ∈ vs, x < σ.length) → σ[i]? = some (some (.ref p)) → H p = some (.lst (ps.map V.ref)) → ps.length = n → ps.Nodup → p ∉ ps → (∀ q ∈ ps, ∃ ws, H q = some (.lst ws) ∧ ws.length ≤ B) → B + k < sizeLine →
    (∀ σ' H', σ'.length = σ.length → (∀ x, x ∉ vs → σ'[x]? = σ[x]?) → (∀ a o, a ∉ ps → H a = some o → H' a = some o) → (∀ q ∈ ps, ∃ ws, H' q = some (.lst ws) ∧ ws.length ≤ B + k) → D.nx σ' H') → t D σ H
theorem hoLe_but {H H' : Hp} {ps : List Addr} (hq : ∀ q ∈ ps, ∃ ws, H q = some (.lst ws)) (e : ∀ a o, a ∉ ps → H a = some o → H' a = some o) {a : Addr} {o : HO} (n : a ∉ ps) (h : H a = some o) : HoLe K H H' a o := by
  cases o with
  | tbl qs =>
    refine ⟨⟨qs, e _ _ n h⟩, fun q _ t => ?_⟩
    obtain ⟨ps', e1, r1, r2⟩ := t
    refine ⟨ps', e _ _ n e1, r1, fun pos cv hc => ?_⟩
    obtain ⟨c, e3, e4⟩ := r2 pos cv hc
    refine ⟨c, e3, e _ _ (fun m => ?_) e4⟩
    obtain ⟨ws, w⟩ := hq c m
    rw [w] at e4
    unfold LamX.CodeO at e4
    cases e4
  | _ => exact e _ _ n h
structure SndW (K : PySem.W.Frag) (i n : Nat) (vs : List Nat) (t : TS) (c : Nat) (f : FS) : Prop where
  mono : ∀ (ρ : List Sl) (E E' : DEnds), DLe E E' → f ρ E → f ρ E'
  go : ∀ {b : Option Addr} {S : Addr → Prop} {m : Nat} {σ : L2.St} {H : Hp} {ρ : List Sl} {D : Ends} {E : DEnds} {p : Addr} {ps : List Addr}, DEnv K b S m H σ ρ → m + c ≤ LIM → (∀ x ∈ vs, x < σ.length) → σ[i]? = some (some (.ref p)) → H p = some (.lst (ps.map V.ref)) → ps.length = n → ps.Nodup → p ∉ ps →
    b ≠ some p → (∀ q ∈ ps, b ≠ some q) → (∀ q ∈ ps, ∃ ws, H q = some (.lst ws) ∧ ws.length ≤ 1000000) → f ρ E →
    (∀ σ' H', E.nx ρ → σ'.length = σ.length → (∀ x, x ∉ vs → σ'[x]? = σ[x]?) → (∀ a o, a ∉ ps → b ≠ some a → H a = some o → HoLe K H H' a o) → BxO b H' (m + c) → D.nx σ' H') →
    (∀ H', E.rt (.bool false) → Stp K b H H' → BxO b H' (m + c) → D.rt (.bl false) H') → t D σ H
theorem DaL.lens {S : Addr → Prop} {H : Hp} : ∀ {ps : List Addr} {dss : List (List PyData)}, DaL K (rm H S) (ps.map V.ref) (dss.map PyData.list) → (∀ ds ∈ dss, List.length ds < 1000000) → ∀ q ∈ ps, ∃ ws, H q = some (.lst ws) ∧ ws.length ≤ 1000000
  | [], _, _, _, q, h => nomatch h
  | p :: ps, [], h, _, q, _ => by cases h
  | p :: ps, ds :: dss, .cons h g, hl, q, hq => by
    rcases List.mem_cons.mp hq with rfl | hq
    · cases h with
      | lst e d => exact ⟨_, rm_le _ _ e, by rw [d.len]; exact Nat.le_of_lt (hl ds (List.mem_cons_self ..))⟩
    · exact DaL.lens g (fun x m => hl x (List.mem_cons_of_mem _ m)) q hq
end
end Dv
namespace Sx
open PySem PySem.Spec PyProof.Rows L2
section
variable {prog : Program} {w : World} {A : Around} {E : Value → Shared → Prop} {s : Shared}
end
section
variable {X : Cx}
end
end Sx
namespace Dv
open PySem PySem.Spec PyProof.Rows L2 Xg
open Classical
section
variable {K : PySem.W.Frag} {ta tx : TE} {ca cx : Nat} {fa : FD} {fx : FE} {md : Bool}
end
end Dv
namespace Dv
open PySem PySem.Spec PyProof.Rows L2 Xg
theorem vals_ints : ∀ {ys : List Int} {is : List Value}, Vals (ys.map V.int) is → IntsAre is ys
  | [], is, h => by cases h; exact .nil
  | y :: ys, is, h => by
    cases h with
    | cons e r =>
      obtain ⟨t, rfl⟩ := e
      exact .cons y t (vals_ints r)
section
variable {X : Cx}
end
section
variable {K : PySem.W.Frag}
variable {ta tb : TE} {ca cb : Nat} {fa fb : FE} {md md2 : Bool}
end
end Dv
namespace Dv
open PySem PySem.Spec PyProof.Rows L2 Xg
open Classical
section
variable {K : PySem.W.Frag} {tt : TT} {ft : FT} {t : TS} {f : FS} {c : Nat}
end
section
variable {K : PySem.W.Frag} {ta : TE} {tr : TA} {ca cr n l c : Nat} {fr : FN} {fa : FE}
structure Two (b : Option Addr) (σ : L2.St) (H : Hp) (i j n l : Nat) (p r : Addr) (ps rs : List Addr) : Prop where
  si : σ[i]? = some (some (.ref p))
  sj : σ[j]? = some (some (.ref r))
  hp : H p = some (.lst (ps.map V.ref))
  hr : H r = some (.lst (rs.map V.ref))
  ln : ps.length = n
  ll : rs.length = l
  nd : (ps ++ rs).Nodup
  np : p ∉ ps ++ rs
  nr : r ∉ ps ++ rs
  bp : b ≠ some p
  br : b ≠ some r
  bq : ∀ q ∈ ps ++ rs, b ≠ some q
  hq : ∀ q ∈ ps ++ rs, ∃ ws, H q = some (.lst ws) ∧ ws.length ≤ 1000000
theorem Two.step {b : Option Addr} {σ : L2.St} {H H' : Hp} {i j n l : Nat} {p r : Addr} {ps rs : List Addr} (T : Two b σ H i j n l p r ps rs) (st : Stp K b H H') : Two b σ H' i j n l p r ps rs :=
  ⟨T.si, T.sj, st _ _ T.bp T.hp, st _ _ T.br T.hr, T.ln, T.ll, T.nd, T.np, T.nr, T.bp, T.br, T.bq, fun q m => by
    obtain ⟨ws, w1, w2⟩ := T.hq q m
    exact ⟨ws, st _ _ (T.bq q m) w1, w2⟩⟩
structure SndY (K : PySem.W.Frag) (i n j l : Nat) (vs : List Nat) (t : TS) (c : Nat) (f : FS) : Prop where
  mono : ∀ (ρ : List Sl) (E E' : DEnds), DLe E E' → f ρ E → f ρ E'
  go : ∀ {b : Option Addr} {S : Addr → Prop} {m : Nat} {σ : L2.St} {H : Hp} {ρ : List Sl} {D : Ends} {E : DEnds} {p r : Addr} {ps rs : List Addr}, DEnv K b S m H σ ρ → m + c ≤ LIM → (∀ x ∈ vs, x < σ.length) → Two b σ H i j n l p r ps rs → f ρ E →
    (∀ σ' H' ρ', E.nx ρ' → σ'.length = σ.length → (∀ x, x ∉ vs → σ'[x]? = σ[x]?) → (∀ a o, a ∉ ps ++ rs → b ≠ some a → H a = some o → HoLe K H H' a o) → BxO b H' (m + c) → D.nx σ' H') →
    (∀ H', E.rt (.bool false) → Stp K b H H' → BxO b H' (m + c) → D.rt (.bl false) H') → t D σ H
structure One (b : Option Addr) (σ : L2.St) (H : Hp) (i n : Nat) (p : Addr) (ps : List Addr) : Prop where
  si : σ[i]? = some (some (.ref p))
  hp : H p = some (.lst (ps.map V.ref))
  ln : ps.length = n
  nd : ps.Nodup
  np : p ∉ ps
  bp : b ≠ some p
  bq : ∀ q ∈ ps, b ≠ some q
  hq : ∀ q ∈ ps, ∃ ws, H q = some (.lst ws) ∧ ws.length ≤ 1000000
theorem One.step {b : Option Addr} {σ : L2.St} {H H' : Hp} {i n : Nat} {p : Addr} {ps : List Addr} (T : One b σ H i n p ps) (st : Stp K b H H') : One b σ H' i n p ps :=
  ⟨T.si, st _ _ T.bp T.hp, T.ln, T.nd, T.np, T.bp, T.bq, fun q m => by
    obtain ⟨ws, w1, w2⟩ := T.hq q m
    exact ⟨ws, st _ _ (T.bq q m) w1, w2⟩⟩
structure SndX (K : PySem.W.Frag) (i n : Nat) (vs : List Nat) (t : TS) (c : Nat) (f : FS) : Prop where
  mono : ∀ (ρ : List Sl) (E E' : DEnds), DLe E E' → f ρ E → f ρ E'
  go : ∀ {b : Option Addr} {S : Addr → Prop} {m : Nat} {σ : L2.St} {H : Hp} {ρ : List Sl} {D : Ends} {E : DEnds} {p : Addr} {ps : List Addr}, DEnv K b S m H σ ρ → m + c ≤ LIM → (∀ x ∈ vs, x < σ.length) → One b σ H i n p ps → f ρ E →
    (∀ σ' H' ρ', E.nx ρ' → σ'.length = σ.length → (∀ x, x ∉ vs → σ'[x]? = σ[x]?) → (∀ a o, a ∉ ps → b ≠ some a → H a = some o → HoLe K H H' a o) → BxO b H' (m + c) → D.nx σ' H') →
    (∀ H', E.rt (.bool false) → Stp K b H H' → BxO b H' (m + c) → D.rt (.bl false) H') → t D σ H
end
end Dv
namespace Zq
open PySem PySem.Spec PyProof.Rows L2
structure Ap3 (z S T p1 p2 p3 a b c : Addr) : Prop where
  sep : ZipSep3 z S T p1 p2 p3 [p1, a] [p2, b] [p3, c]
  a1 : a ≠ p1
  b2 : b ≠ p2
  c3 : c ≠ p3
end Zq
namespace Dv
open PySem PySem.Spec PyProof.Rows L2 Xg
open Classical
section
variable {K : PySem.W.Frag} {md : Bool} {ta tb tc : TE} {ca cb cc : Nat} {fa fb fc : FE}
end
end Dv
namespace Zn
open PySem PySem.Spec PyProof.Rows L2
structure Cell where
  p : Addr
  l : Addr
  xs : Array Value
  x : Value
def IsZ (g : Heap) (z S T : Addr) (f0 : Value) (f1 : Bool) : Prop := g.get? z = some { cls := .type "zip", data := .fields #[f0, .bool f1, .bool false, .ref S, .ref T] }
def IsT (g : Heap) (a : Addr) (vs : Array Value) : Prop := g.get? a = some { cls := .type "tuple", data := .seq vs }
structure Ap (z S T : Addr) (L : List Cell) : Prop where
  Sz : S ≠ z
  Tz : T ≠ z
  ST : S ≠ T
  pz : ∀ c ∈ L, c.p ≠ z
  pT : ∀ c ∈ L, c.p ≠ T
  pS : ∀ c ∈ L, c.p ≠ S
  lz : ∀ c ∈ L, c.l ≠ z
  lT : ∀ c ∈ L, c.l ≠ T
  lp : ∀ c ∈ L, ∀ d ∈ L, c.l ≠ d.p
  nd : (L.map Cell.p).Nodup
def Stay (g g' : Heap) (z T : Addr) (ps : List Addr) : Prop := ∀ c o, c ≠ z → c ≠ T → c ∉ ps → g.get? c = some o → g'.get? c = some o
section
variable {prog : Program} {w : World} {A : Around} {E : Value → Shared → Prop} {s : Shared} {z S T : Addr} {f0 : Value} {f1 : Bool} {L : List Cell} {i : Nat} {kept : Array Value}
theorem alive {a : Addr} {Q : Option Obj → Shared → Prop} (h : Q (s.heap.get? a) s) : wpAny (model prog w) A (loadIfAlive a) Q E s := fun Γ p hΓ => by
  unfold loadIfAlive
  rw [Sem.wp_loadIfAlive]
  exact h
structure Mid (g0 g : Heap) (z S T : Addr) (L : List Cell) (i : Nat) (D R : List Cell) : Prop where
  split : L = D ++ R
  sz : g.objs.size = g0.objs.size
  don : ∀ c ∈ D, g.IsListIter c.p c.l (i + 1)
  todo : ∀ c ∈ R, g.IsListIter c.p c.l i
  stay : Stay g0 g z T (L.map Cell.p)
theorem iter_ext {g g' : Heap} {p l b : Addr} {i : Nat} (x : g.IsListIter p l i) (k : Heap.SameBut b g g') (n : p ≠ b) : g'.IsListIter p l i := x.extBut k.extBut n
theorem Mid.step {g0 g g' : Heap} {c : Cell} {D R : List Cell} (M : Mid g0 g z S T L i D (c :: R)) (Ap : Ap z S T L) (k : Heap.SameBut c.p g g') (hc : g'.IsListIter c.p c.l (i + 1)) : Mid g0 g' z S T L i (D ++ [c]) R := by
  have mc : c ∈ L := by rw [M.split]; simp
  have nd := Ap.nd
  rw [M.split, List.map_append, List.map_cons] at nd
  have n2 := List.nodup_append.mp nd
  have n3 := List.nodup_cons.mp n2.2.1
  refine ⟨by rw [M.split]; simp, by rw [k.1, M.sz], fun d hd => ?_, fun d hd => ?_, fun b o h1 h2 h3 e => ?_⟩
  · rcases List.mem_append.mp hd with hd | hd
    · exact iter_ext (M.don d hd) k fun e => n2.2.2 d.p (List.mem_map_of_mem hd) c.p (List.mem_cons_self ..) e
    · rw [List.mem_singleton.mp hd]
      exact hc
  · exact iter_ext (M.todo d (List.mem_cons_of_mem _ hd)) k fun e => n3.1 (by rw [← e]; exact List.mem_map_of_mem hd)
  · exact k.extBut _ _ (fun e => h3 (by rw [e]; exact List.mem_map_of_mem mc)) (M.stay b o h1 h2 h3 e)
theorem Mid.touch {g0 g g' : Heap} {a : Addr} {D R : List Cell} (M : Mid g0 g z S T L i D R) (Ap : Ap z S T L) (k : Heap.SameBut a g g') (ha : a = z ∨ a = T) : Mid g0 g' z S T L i D R := by
  have pa : ∀ c ∈ L, c.p ≠ a := fun c hc e => by
    rcases ha with h | h
    · exact Ap.pz c hc (e.trans h)
    · exact Ap.pT c hc (e.trans h)
  refine ⟨M.split, by rw [k.1, M.sz], fun d hd => iter_ext (M.don d hd) k (pa d (by rw [M.split]; exact List.mem_append_left _ hd)), fun d hd => iter_ext (M.todo d hd) k (pa d (by rw [M.split]; exact List.mem_append_right _ hd)), fun b o h1 h2 h3 e => k.extBut _ _ (fun x => ?_) (M.stay b o h1 h2 h3 e)⟩
  rcases ha with h | h
  · exact h1 (x.trans h)
  · exact h2 (x.trans h)
theorem Mid.list {g0 g : Heap} {D R : List Cell} (M : Mid g0 g z S T L i D R) (Ap : Ap z S T L) {c : Cell} (hc : c ∈ L) (hm : g0.IsList c.l c.xs) : g.IsList c.l c.xs := by
  refine hm.at fun o e => M.stay c.l o (Ap.lz c hc) (Ap.lT c hc) (fun h => ?_) e
  obtain ⟨d, hd, e2⟩ := List.mem_map.mp h
  exact Ap.lp c hc d hd e2.symm
theorem free_or {K : Bool → Shared → Prop} (z0 : IsZ s.heap z S T f0 f1) (hf : f0 = .none ∨ ∃ a : Addr, f0 = rawInt (a : Nat)) (h1 : K true s) (h2 : ∀ g f1', IsZ g z S T f0 f1' → Heap.SameBut z s.heap g → (∃ a : Addr, f0 = rawInt (a : Nat)) → K false { s with heap := g }) :
    wpAny (model prog w) A (Builtin.SmallTypes.ownedTupleIsFree (.ref z)) K E s := by
  unfold Builtin.SmallTypes.ownedTupleIsFree
  refine wpAny_bind (wpAny_field z0 rfl (x := f0) rfl ?_)
  rcases hf with rfl | ⟨a, rfl⟩
  · exact wpAny_pure h1
  · dsimp only [rawInt]
    refine wpAny_bind (alive ?_)
    cases e : s.heap.get? (Int.toNat (a : Nat)) with
    | none =>
      simp only [Option.isNone_none, if_true]
      exact wpAny_pure h1
    | some o =>
      simp only [Option.isNone_some, Bool.false_eq_true, if_false]
      refine wpAny_bind (wpAny_field z0 rfl (x := .bool f1) rfl ?_)
      cases f1 with
      | true =>
        simp only [bne_self_eq_false, Bool.false_eq_true, if_false]
        exact wpAny_pure (h2 s.heap true z0 (Heap.SameBut.refl ..) ⟨a, rfl⟩)
      | false =>
        have hb : (Value.bool false != Value.bool true) = true := by decide
        rw [hb]
        simp only [if_true]
        refine wpAny_bind (wpAny_setField_rec z0 (by simp) fun g z1 k1 => ?_)
        exact wpAny_pure (h2 g true z1 k1 ⟨a, rfl⟩)
theorem upT {a : Addr} {vs : Array Value} {x : Value} {k : Nat} {Q : Unit → Shared → Prop} (hT : IsT s.heap a vs) (hz : vs.size ≤ 1000) (h : ∀ g, IsT g a (vs.setIfInBounds k x) → Heap.SameBut a s.heap g → Q () { s with heap := g }) :
    wpAny (model prog w) A (updateSeq a fun ys => ys.setIfInBounds k x) Q E s := by
  refine wpAny_updateSeq hT rfl (h _ ?_ (Heap.SameBut.update ..)) ?_ ?_
  · show (s.heap.update a _).get? a = _
    rw [Heap.get?_update_self _ hT rfl]
    simp [Obj.mapSeq]
  · exact Nat.le_trans hz (by decide)
  · rw [Array.size_setIfInBounds]
    exact Nat.le_trans hz (by decide)
theorem next_item {Q : Value → Shared → Prop} (D : Ap z S T L) (ne : L ≠ []) (z0 : IsZ s.heap z S T f0 f1) (hf : f0 = .none ∨ ∃ a : Addr, f0 = rawInt (a : Nat)) (S0 : IsT s.heap S (L.map fun c => Value.ref c.p).toArray) (T0 : IsT s.heap T kept) (hk : kept.size = L.length) (hl : L.length ≤ 1000)
    (hi : ∀ c ∈ L, s.heap.IsListIter c.p c.l i) (hm : ∀ c ∈ L, s.heap.IsList c.l c.xs) (hx : ∀ c ∈ L, c.xs[i]? = some c.x)
    (q : ∀ g (a : Addr) f1', IsZ g z S T (rawInt (a : Nat)) f1' → (∃ k : Array Value, IsT g T k ∧ k.size = L.length) → (∀ c ∈ L, g.IsListIter c.p c.l (i + 1)) → IsT g s.heap.objs.size (L.map Cell.x).toArray → g.objs.size = s.heap.objs.size + 1 → Stay s.heap g z T (L.map Cell.p) →
      Q (.ref s.heap.objs.size) { s with heap := g }) : wpAny (model prog w) A (Builtin.«zip.__next__» ⟨[.ref z], []⟩) (fun r s' => ∃ v, r = .done (.ret v) ∧ Q v s') E s := by
  have emp : ((L.map fun c => Value.ref c.p).toArray.isEmpty) = false := by
    cases L with
    | nil => exact absurd rfl ne
    | cons a r => rfl
  have M0 : Mid s.heap s.heap z S T L i [] L := ⟨rfl, rfl, fun _ h => (nomatch h), hi, fun _ _ _ _ _ e => e⟩
  have ltz : z < s.heap.objs.size := Heap.lt_size z0
  have ltT : T < s.heap.objs.size := Heap.lt_size T0
  show wpAny _ _ (field (.ref z) 2 >>= fun _ => _) _ _ _
  refine wpAny_bind (wpAny_field z0 rfl (x := .bool false) rfl ?_)
  show wpAny _ _ (field (.ref z) 3 >>= fun _ => _) _ _ _
  refine wpAny_bind (wpAny_field z0 rfl (x := .ref S) rfl (wpAny_bind (wpAny_seqItems S0 rfl ?_)))
  dsimp only
  rw [emp]
  simp only [Bool.false_eq_true, if_false]
  refine wpAny_bind (free_or z0 hf ?_ fun g1 f1' z1 k1 ha => ?_)
  · simp only [if_true]
    refine wpAny_bind (wpAny_rule (wpAny_bind (wpAny_field z0 rfl (x := .ref T) rfl ?_)))
    dsimp only
    refine wpAny_bind (wpAny_setField_rec z0 (by simp) fun g1 z1 k1 => ?_)
    replace z1 : IsZ g1 z S T .ellipsis f1 := z1
    refine wpAny_bind (wpAny_forIn_list _ (fun rest b s' => b = (none, ()) ∧ ∃ (D' R : List Cell) (g : Heap) (kp : Array Value), rest = (R.map fun c => Value.ref c.p).zipIdx D'.length ∧ s' = { s with heap := g } ∧ Mid s.heap g z S T L i D' R ∧ IsZ g z S T .ellipsis f1 ∧ IsT g T kp ∧ kp.size = L.length ∧ ∀ k, k < D'.length → kp[k]? = (D'.map Cell.x)[k]?) _ ?_ ?_ _ _ ⟨rfl, [], L, g1, kept, rfl, rfl, M0.touch D k1 (.inl rfl), z1, k1.extBut _ _ D.Tz T0, hk, fun k h => absurd h (Nat.not_lt_zero _)⟩)
    · rintro ⟨it, k⟩ rest b s' ⟨rfl, D', R', g, kp, er, rfl, M, zg, Tg, hk', hkp⟩
      cases R' with
      | nil => cases er
      | cons c R =>
        rw [List.map_cons, List.zipIdx_cons] at er
        obtain ⟨e1, rfl⟩ := List.cons.inj er
        obtain ⟨rfl, rfl⟩ := Prod.mk.inj e1
        have mc : c ∈ L := by rw [M.split]; simp
        have hlt : D'.length < L.length := by rw [M.split]; simp
        dsimp only
        refine wpAny_bind (wpAny_onRaise ?_)
        show wpAny _ _ (Builtin.SmallTypes.nextOf (.ref c.p) >>= fun _ => _) _ _ _
        refine wpAny_bind (wpAny_nextOf_list_item (s := { s with heap := g }) (M.todo c (by simp)) (M.list D mc (hm c mc)) (hx c mc) fun g2 ci k2 => wpAny_pure ?_)
        replace k2 : Heap.SameBut c.p g g2 := k2
        have M2 := M.step D k2 ci
        have zg2 : IsZ g2 z S T .ellipsis f1 := k2.extBut _ _ (D.pz c mc).symm zg
        have Tg2 : IsT g2 T kp := k2.extBut _ _ (D.pT c mc).symm Tg
        dsimp only
        refine wpAny_bind (wpAny_seqItems (s := { s with heap := g2 }) Tg2 rfl ?_)
        dsimp only
        refine wpAny_bind (upT (s := { s with heap := g2 }) Tg2 (by omega) fun g3 Tg3 k3 => ?_)
        replace k3 : Heap.SameBut T g2 g3 := k3
        refine wpAny_bind (wpAny_letGo (wpAny_pure ?_))
        refine ⟨rfl, D' ++ [c], R, g3, _, by rw [List.length_append]; rfl, rfl, M2.touch D k3 (.inr rfl), k3.extBut _ _ D.Tz.symm zg2, Tg3, by rw [Array.size_setIfInBounds]; exact hk', fun k h => ?_⟩
        rw [List.length_append, List.length_singleton] at h
        rw [Array.getElem?_setIfInBounds, List.map_append]
        by_cases ek : D'.length = k
        · subst ek
          rw [if_pos rfl, if_pos (by omega), List.getElem?_append_right (by rw [List.length_map]; exact Nat.le_refl _), List.length_map, Nat.sub_self]
          rfl
        · rw [if_neg ek, List.getElem?_append_left (by rw [List.length_map]; omega)]
          exact hkp k (by omega)
    · rintro b s' ⟨rfl, D', R', g, kp, er, rfl, M, zg, Tg, hk', hkp⟩
      cases R' with
      | cons c R => cases er
      | nil =>
        have eD : D' = L := by rw [M.split, List.append_nil]
        subst eD
        have ekp : kp = (D'.map Cell.x).toArray := by
          apply Array.toList_inj.mp
          apply List.ext_getElem?
          intro k
          have e : kp.toList[k]? = kp[k]? := by simp
          rw [e]
          show kp[k]? = (D'.map Cell.x)[k]?
          by_cases h : k < D'.length
          · exact hkp k h
          · rw [Array.getElem?_eq_none (by omega), List.getElem?_eq_none (by rw [List.length_map]; omega)]
        subst ekp
        dsimp only
        refine wpAny_bind (wpAny_seqItems (s := { s with heap := g }) Tg rfl ?_)
        dsimp only
        refine wpAny_bind (wpAny_newTuple ?_ (by rw [List.length_map]; exact Nat.le_trans hl (by decide)))
        refine wpAny_bind ?_
        unfold Builtin.SmallTypes.ownedTupleHandOut
        dsimp only
        have z6 : IsZ (g.push { cls := .type "tuple", data := .seq (D'.map Cell.x).toArray }) z S T .ellipsis f1 := Heap.get?_push_of_some _ zg
        refine wpAny_bind (wpAny_setField_rec (s := { s with heap := _ }) z6 (by simp) fun g7 z7 k7 => ?_)
        replace z7 : IsZ g7 z S T (rawInt g.objs.size) f1 := z7
        refine wpAny_setField_rec (s := { s with heap := g7 }) z7 (by simp) fun g8 z8 k8 => ?_
        replace z8 : IsZ g8 z S T (rawInt g.objs.size) false := z8
        replace k7 : Heap.SameBut z (g.push { cls := .type "tuple", data := .seq (D'.map Cell.x).toArray }) g7 := k7
        replace k8 : Heap.SameBut z g7 g8 := k8
        have on : ∀ c o, c ≠ z → g.get? c = some o → g8.get? c = some o := fun c o c1 e => k8.extBut _ _ c1 (k7.extBut _ _ c1 (Heap.get?_push_of_some _ e))
        have nz' : g.objs.size ≠ z := by rw [M.sz]; exact Nat.ne_of_gt ltz
        have W8 : IsT g8 g.objs.size (D'.map Cell.x).toArray := k8.extBut _ _ nz' (k7.extBut _ _ nz' (Heap.get?_push_size _ rfl))
        have n8 : g8.objs.size = g.objs.size + 1 := by rw [k8.1, k7.1, Heap.size_push]
        refine wpAny_pure ⟨.ref g.objs.size, rfl, ?_⟩
        rw [M.sz] at z8 W8 n8
        rw [M.sz]
        exact q g8 _ false z8 ⟨_, on _ _ D.Tz Tg, by rw [List.size_toArray, List.length_map]⟩ (fun c hc => (M.don c hc).at fun o e => on _ o (D.pz c hc) e) W8 n8 fun c o c1 c2 c3 e => on c o c1 (M.stay c o c1 c2 c3 e)
  · obtain ⟨a, rfl⟩ := ha
    simp only [Bool.false_eq_true, if_false]
    replace k1 : Heap.SameBut z s.heap g1 := k1
    refine wpAny_bind (wpAny_forIn_array' _ (fun rest b s' => ∃ (D' R : List Cell) (g : Heap), b = (none, (D'.map Cell.x).toArray) ∧ rest = (R.map fun c => Value.ref c.p) ∧ s' = { s with heap := g } ∧ Mid s.heap g z S T L i D' R ∧ IsZ g z S T (rawInt (a : Nat)) f1' ∧ IsT g T kept) _ ?_ ?_ _ _ ⟨[], L, g1, rfl, by simp, rfl, M0.touch D k1 (.inl rfl), z1, k1.extBut _ _ D.Tz T0⟩)
    · rintro it rest b s' ⟨D', R', g, rfl, er, rfl, M, zg, Tg⟩
      cases R' with
      | nil => cases er
      | cons c R =>
        rw [List.map_cons] at er
        obtain ⟨rfl, rfl⟩ := List.cons.inj er
        have mc : c ∈ L := by rw [M.split]; simp
        dsimp only
        refine wpAny_bind (wpAny_holding ?_)
        show wpAny _ _ (Builtin.SmallTypes.nextOf (.ref c.p) >>= fun _ => _) _ _ _
        refine wpAny_bind (wpAny_nextOf_list_item (s := { s with heap := g }) (M.todo c (by simp)) (M.list D mc (hm c mc)) (hx c mc) fun g2 ci k2 => wpAny_pure ?_)
        replace k2 : Heap.SameBut c.p g g2 := k2
        dsimp only
        refine wpAny_pure ⟨D' ++ [c], R, g2, by simp, rfl, rfl, M.step D k2 ci, k2.extBut _ _ (D.pz c mc).symm zg, k2.extBut _ _ (D.pT c mc).symm Tg⟩
    · rintro b s' ⟨D', R', g, rfl, er, rfl, M, zg, Tg⟩
      cases R' with
      | cons c R => cases er
      | nil =>
        have eD : D' = L := by rw [M.split, List.append_nil]
        subst eD
        dsimp only
        refine wpAny_bind (wpAny_newTuple ?_ (by rw [List.length_map]; exact Nat.le_trans hl (by decide)))
        have on : ∀ c o, g.get? c = some o → (g.push { cls := .type "tuple", data := .seq (D'.map Cell.x).toArray }).get? c = some o := fun c o e => Heap.get?_push_of_some _ e
        have W8 : IsT (g.push { cls := .type "tuple", data := .seq (D'.map Cell.x).toArray }) g.objs.size (D'.map Cell.x).toArray := Heap.get?_push_size _ rfl
        have n8 : (g.push { cls := .type "tuple", data := .seq (D'.map Cell.x).toArray }).objs.size = g.objs.size + 1 := Heap.size_push ..
        refine wpAny_pure ⟨.ref g.objs.size, rfl, ?_⟩
        rw [M.sz] at W8 n8
        show Q (.ref g.objs.size) _
        rw [M.sz]
        exact q _ a f1' (on _ _ zg) ⟨_, on _ _ Tg, hk⟩ (fun c hc => (M.don c hc).at fun o e => on _ o e) W8 n8 fun c o c1 c2 c3 e => on c o (M.stay c o c1 c2 c3 e)
theorem next_end {Q : Fin → Shared → Prop} {c : Cell} {R : List Cell} (hh : A.handled = none) (D : Ap z S T (c :: R)) (z0 : IsZ s.heap z S T f0 f1) (hf : f0 = .none ∨ ∃ a : Addr, f0 = rawInt (a : Nat)) (S0 : IsT s.heap S ((c :: R).map fun c => Value.ref c.p).toArray) (T0 : IsT s.heap T kept)
    (hi : s.heap.IsListIter c.p c.l i) (hm : s.heap.IsList c.l c.xs) (hx : c.xs[i]? = none)
    (q : ∀ g e, Stay s.heap g z T ((c :: R).map Cell.p) → (∃ o, g.get? e = some o ∧ o.cls = .type "StopIteration") → E (.ref e) { s with heap := g }) : wpAny (model prog w) A (Builtin.«zip.__next__» ⟨[.ref z], []⟩) Q E s := by
  have mc : c ∈ c :: R := by simp
  have mp : c.p ∈ (c :: R).map Cell.p := by simp
  show wpAny _ _ (field (.ref z) 2 >>= fun _ => _) _ _ _
  refine wpAny_bind (wpAny_field z0 rfl (x := .bool false) rfl ?_)
  show wpAny _ _ (field (.ref z) 3 >>= fun _ => _) _ _ _
  refine wpAny_bind (wpAny_field z0 rfl (x := .ref S) rfl (wpAny_bind (wpAny_seqItems S0 rfl ?_)))
  dsimp only
  rw [show (((c :: R).map fun c => Value.ref c.p).toArray.isEmpty) = false from rfl]
  simp only [Bool.false_eq_true, if_false]
  refine wpAny_bind (free_or z0 hf ?_ fun g1 f1' z1 k1 ha => ?_)
  · simp only [if_true]
    refine wpAny_bind (wpAny_rule (wpAny_bind (wpAny_field z0 rfl (x := .ref T) rfl ?_)))
    dsimp only
    refine wpAny_bind (wpAny_setField_rec z0 (by simp) fun g1 z1 k1 => ?_)
    replace z1 : IsZ g1 z S T .ellipsis f1 := z1
    replace k1 : Heap.SameBut z s.heap g1 := k1
    simp only [List.map_cons, List.zipIdx_cons, List.forIn_cons]
    refine wpAny_bind (wpAny_bind (wpAny_bind (wpAny_onRaise ?_)))
    show wpAny _ _ (Builtin.SmallTypes.nextOf (.ref c.p) >>= fun _ => _) _ _ _
    refine wpAny_bind (wpAny_nextOf_list_end (s := { s with heap := g1 }) hh (iter_ext hi k1 (D.pz c mc)) (hm.extBut k1.extBut (D.lz c mc)) hx fun g2 e k2 ⟨o, eo, ec⟩ => ?_)
    replace k2 : Heap.ExtBut c.p g1 g2 := k2
    have z2 : IsZ g2 z S T .ellipsis f1 := k2 _ _ (D.pz c mc).symm z1
    have nez : e ≠ z := fun x => by
      have eo : g2.get? e = some o := eo
      rw [x, z2] at eo
      cases eo
      simp at ec
    exact wpAny_setField_rec (s := { s with heap := g2 }) z2 (by simp) fun g3 _ k3 => q g3 e (fun b o h1 h2 h3 v => k3.extBut _ _ h1 (k2 _ _ (fun x => h3 (by rw [x]; exact mp)) (k1.extBut _ _ h1 v))) ⟨o, k3.extBut _ _ nez eo, ec⟩
  · simp only [Bool.false_eq_true, if_false]
    replace k1 : Heap.SameBut z s.heap g1 := k1
    rw [← Array.forIn_toList]
    simp only [List.map_cons, List.forIn_cons]
    refine wpAny_bind (wpAny_bind (wpAny_bind (wpAny_holding ?_)))
    show wpAny _ _ (Builtin.SmallTypes.nextOf (.ref c.p) >>= fun _ => _) _ _ _
    refine wpAny_bind (wpAny_nextOf_list_end (s := { s with heap := g1 }) hh (iter_ext hi k1 (D.pz c mc)) (hm.extBut k1.extBut (D.lz c mc)) hx fun g2 e k2 ⟨o, eo, ec⟩ => ?_)
    replace k2 : Heap.ExtBut c.p g1 g2 := k2
    exact q g2 e (fun b o h1 h2 h3 v => k2 _ _ (fun x => h3 (by rw [x]; exact mp)) (k1.extBut _ _ h1 v)) ⟨o, eo, ec⟩
theorem iter_all {ls : List Addr} {Q : List Value → Shared → Prop} (hm : ∀ l ∈ ls, ∃ xs, s.heap.IsList l xs)
    (q : ∀ g, g.objs.size = s.heap.objs.size + ls.length → (∀ k l, ls[k]? = some l → g.IsListIter (s.heap.objs.size + k) l 0) → (∀ b o, s.heap.get? b = some o → g.get? b = some o) → Q ((List.range ls.length).map fun k => Value.ref (s.heap.objs.size + k)) { s with heap := g }) :
    wpAny (model prog w) A (Builtin.SmallTypes.iterAll (ls.map Value.ref)) Q E s := by
  unfold Builtin.SmallTypes.iterAll
  refine wpAny_bind (wpAny_forIn_list _ (fun rest b s' => ∃ (D R : List Addr) (g : Heap), ls = D ++ R ∧ rest = R.map Value.ref ∧ b = ((List.range D.length).map fun k => Value.ref (s.heap.objs.size + k)).toArray ∧ s' = { s with heap := g } ∧ g.objs.size = s.heap.objs.size + D.length ∧ (∀ k l, D[k]? = some l → g.IsListIter (s.heap.objs.size + k) l 0) ∧ (∀ b o, s.heap.get? b = some o → g.get? b = some o)) _ ?_ ?_ _ _ ⟨[], ls, s.heap, rfl, rfl, rfl, rfl, rfl, fun k l h => (by simp at h), fun _ _ e => e⟩)
  · rintro it rest b s' ⟨D, R', g, el, er, rfl, rfl, sz, hi, st⟩
    cases R' with
    | nil => cases er
    | cons l R =>
      rw [List.map_cons] at er
      obtain ⟨rfl, rfl⟩ := List.cons.inj er
      obtain ⟨xs, hx⟩ := hm l (by rw [el]; simp)
      have hx2 : g.IsList l xs := hx.at fun o e => st l o e
      refine wpAny_bind (wpAny_holding (wpAny_pyIter_list (s := { s with heap := g }) hx2 ?_))
      refine wpAny_pure ⟨D ++ [l], R, g.push { cls := .type "list_iterator", data := .fields #[.ref l, .int 0 0] }, by rw [el]; simp, rfl, ?_, rfl, ?_, fun k l' h => ?_, fun b o e => Heap.get?_push_of_some _ (st b o e)⟩
      · show (((List.range D.length).map fun k => Value.ref (s.heap.objs.size + k)).toArray).push (Value.ref g.objs.size) = _
        rw [sz, List.length_append, List.length_singleton, List.range_succ, List.map_append]
        simp
      · rw [Heap.size_push, sz, List.length_append, List.length_singleton]
        rfl
      · by_cases hk : k < D.length
        · rw [List.getElem?_append_left hk] at h
          exact (hi k l' h).at fun o e => Heap.get?_push_of_some _ e
        · have h2 : k = D.length := by
            have := (List.getElem?_eq_some_iff.mp h).1
            rw [List.length_append, List.length_singleton] at this
            exact Nat.le_antisymm (Nat.le_of_lt_succ this) (Nat.le_of_not_lt hk)
          subst h2
          rw [List.getElem?_append_right (Nat.le_refl _), Nat.sub_self] at h
          cases h
          have e := Heap.get?_push_size g (o := { cls := .type "list_iterator", data := .fields #[.ref l, .int 0 0] }) rfl
          rw [sz] at e
          exact ⟨_, e, rfl, rfl⟩
  · rintro b s' ⟨D, R', g, el, er, rfl, rfl, sz, hi, st⟩
    cases R' with
    | cons => cases er
    | nil =>
      rw [List.append_nil] at el
      subst el
      exact wpAny_pure (q g sz hi st)
end
end Zn
namespace Zn
open PySem PySem.Spec PyProof.Rows L2
structure Laid (g0 g : Heap) (ls : List Addr) : Prop where
  Z : IsZ g (g0.objs.size + ls.length + 2) (g0.objs.size + ls.length) (g0.objs.size + ls.length + 1) .none false
  S : IsT g (g0.objs.size + ls.length) ((List.range ls.length).map fun k => Value.ref (g0.objs.size + k)).toArray
  T : ∃ k : Array Value, IsT g (g0.objs.size + ls.length + 1) k ∧ k.size = ls.length
  I : ∀ k l, ls[k]? = some l → g.IsListIter (g0.objs.size + k) l 0
  st : ∀ b o, g0.get? b = some o → g.get? b = some o
theorem made (ls : List Addr) (hl : ls.length ≤ 1000) : Meets (Builtin.«zip.__new__» ⟨.type "zip" :: ls.map Value.ref, []⟩) (fun _ R s => (∀ l ∈ ls, ∃ xs, s.heap.IsList l xs) ∧ ∀ g, Laid s.heap g ls → R (.ok (.ret (.ref (s.heap.objs.size + ls.length + 2)))) { s with heap := g }) :=
  .of_wp fun prog w A R s h => by
    obtain ⟨hp, gg, d, tk, os⟩ := s
    obtain ⟨hm, h⟩ := h
    have hsub := sub_zip
    have hm : ∀ l ∈ ls, ∃ xs, hp.IsList l xs := hm
    have q : ∀ {E : Value → Shared → Prop} {Q : List Value → Shared → Prop}, (∀ g : Heap, g.objs.size = hp.objs.size + ls.length → (∀ k l, ls[k]? = some l → g.IsListIter (hp.objs.size + k) l 0) → (∀ b o, hp.get? b = some o → g.get? b = some o) → Q ((List.range ls.length).map fun k => Value.ref (hp.objs.size + k)) ⟨g, gg, d, tk, os⟩) → wpAny (model prog w) A.in1 (Builtin.SmallTypes.iterAll (ls.map Value.ref)) Q E ⟨hp, gg, d, tk, os⟩ := fun h => iter_all (s := ⟨hp, gg, d, tk, os⟩) hm h
    wp_walk using q
    intro g sz hi st
    have z1 : (g.push { cls := .type "tuple", data := .seq ((List.range ls.length).map fun k => Value.ref (hp.objs.size + k)).toArray }).objs.size = hp.objs.size + ls.length + 1 := by rw [Heap.size_push, sz]
    have z2 : ((g.push { cls := .type "tuple", data := .seq ((List.range ls.length).map fun k => Value.ref (hp.objs.size + k)).toArray }).push { cls := .type "tuple", data := .seq (((List.range ls.length).map fun k => Value.ref (hp.objs.size + k)).map fun _ => Value.none).toArray }).objs.size = hp.objs.size + ls.length + 2 := by rw [Heap.size_push, z1]
    refine wpAny_bind (wpAny_newTuple ?_ (by rw [List.length_map, List.length_range]; exact Nat.le_trans hl (by decide)))
    refine wpAny_bind (wpAny_newTuple ?_ (by rw [List.length_map, List.length_map, List.length_range]; exact Nat.le_trans hl (by decide)))
    wp_walk
    refine ⟨_, rfl, ?_⟩
    have a1 := Heap.get?_push_size g (o := { cls := .type "tuple", data := .seq ((List.range ls.length).map fun k => Value.ref (hp.objs.size + k)).toArray }) rfl
    have a2 := Heap.get?_push_size (g.push { cls := .type "tuple", data := .seq ((List.range ls.length).map fun k => Value.ref (hp.objs.size + k)).toArray }) (o := { cls := .type "tuple", data := .seq (((List.range ls.length).map fun k => Value.ref (hp.objs.size + k)).map fun _ => Value.none).toArray }) rfl
    have a3 := Heap.get?_push_size ((g.push { cls := .type "tuple", data := .seq ((List.range ls.length).map fun k => Value.ref (hp.objs.size + k)).toArray }).push { cls := .type "tuple", data := .seq (((List.range ls.length).map fun k => Value.ref (hp.objs.size + k)).map fun _ => Value.none).toArray }) (o := { cls := .type "zip", data := .fields #[.none, .bool false, .bool false, .ref g.objs.size, .ref (g.push { cls := .type "tuple", data := .seq ((List.range ls.length).map fun k => Value.ref (hp.objs.size + k)).toArray }).objs.size] }) rfl
    rw [sz] at a1
    rw [z1] at a2
    rw [z2, sz, z1] at a3
    show R (.ok (.ret (.ref ((g.push _).push _).objs.size))) _
    rw [z2]
    refine h _ ⟨?_, Heap.get?_push_of_some _ (Heap.get?_push_of_some _ a1), ⟨_, Heap.get?_push_of_some _ a2, by simp⟩, fun k l e => (hi k l e).at fun o x => Heap.get?_push_of_some _ (Heap.get?_push_of_some _ (Heap.get?_push_of_some _ x)), fun b o e => Heap.get?_push_of_some _ (Heap.get?_push_of_some _ (Heap.get?_push_of_some _ (st b o e)))⟩
    rw [sz, z1]
    exact a3
theorem tz (as : List Value) : checkTypeCall "zip" ⟨as, []⟩ = pure () := by kernel_rfl
theorem ti (obj : Value) (as : List Value) : argsOk "object.__init__" ⟨obj :: as, []⟩ := by unfold argsOk; kernel_rfl
theorem tn : ∀ (as : List Value), as.length ≤ 25 → checkBuiltinCall "zip.__new__" ⟨.type "zip" :: as, []⟩ = pure ()
  | [], _ => by kernel_rfl
  | [_], _ => by kernel_rfl
  | [_, _], _ => by kernel_rfl
  | [_, _, _], _ => by kernel_rfl
  | [_, _, _, _], _ => by kernel_rfl
  | [_, _, _, _, _], _ => by kernel_rfl
  | [_, _, _, _, _, _], _ => by kernel_rfl
  | [_, _, _, _, _, _, _], _ => by kernel_rfl
  | [_, _, _, _, _, _, _, _], _ => by kernel_rfl
  | [_, _, _, _, _, _, _, _, _], _ => by kernel_rfl
  | [_, _, _, _, _, _, _, _, _, _], _ => by kernel_rfl
  | [_, _, _, _, _, _, _, _, _, _, _], _ => by kernel_rfl
  | [_, _, _, _, _, _, _, _, _, _, _, _], _ => by kernel_rfl
  | [_, _, _, _, _, _, _, _, _, _, _, _, _], _ => by kernel_rfl
  | [_, _, _, _, _, _, _, _, _, _, _, _, _, _], _ => by kernel_rfl
  | [_, _, _, _, _, _, _, _, _, _, _, _, _, _, _], _ => by kernel_rfl
  | [_, _, _, _, _, _, _, _, _, _, _, _, _, _, _, _], _ => by kernel_rfl
  | [_, _, _, _, _, _, _, _, _, _, _, _, _, _, _, _, _], _ => by kernel_rfl
  | [_, _, _, _, _, _, _, _, _, _, _, _, _, _, _, _, _, _], _ => by kernel_rfl
  | [_, _, _, _, _, _, _, _, _, _, _, _, _, _, _, _, _, _, _], _ => by kernel_rfl
  | [_, _, _, _, _, _, _, _, _, _, _, _, _, _, _, _, _, _, _, _], _ => by kernel_rfl
  | [_, _, _, _, _, _, _, _, _, _, _, _, _, _, _, _, _, _, _, _, _], _ => by kernel_rfl
  | [_, _, _, _, _, _, _, _, _, _, _, _, _, _, _, _, _, _, _, _, _, _], _ => by kernel_rfl
  | [_, _, _, _, _, _, _, _, _, _, _, _, _, _, _, _, _, _, _, _, _, _, _], _ => by kernel_rfl
  | [_, _, _, _, _, _, _, _, _, _, _, _, _, _, _, _, _, _, _, _, _, _, _, _], _ => by kernel_rfl
  | [_, _, _, _, _, _, _, _, _, _, _, _, _, _, _, _, _, _, _, _, _, _, _, _, _], _ => by kernel_rfl
  | _ :: _ :: _ :: _ :: _ :: _ :: _ :: _ :: _ :: _ :: _ :: _ :: _ :: _ :: _ :: _ :: _ :: _ :: _ :: _ :: _ :: _ :: _ :: _ :: _ :: _ :: _, h => absurd h (by simp)
section
variable {prog : Program} {w : World} {A : Around} {E : Value → Shared → Prop} {s : Shared}
theorem call_zip {ls : List Addr} {Q : Value → Shared → Prop} (hl : ls.length ≤ 25) (hm : ∀ l ∈ ls, ∃ xs, s.heap.IsList l xs) (q : ∀ g, Laid s.heap g ls → Q (.ref (s.heap.objs.size + ls.length + 2)) { s with heap := g }) :
    wpAny (model prog w) A (call (.type "zip") (ls.map Value.ref)) Q E s := by
  refine callType_new F.called_zip (by decide) (tz _) (tn _ (by rw [List.length_map]; exact hl)) (fun obj => ti obj _) F.entry_zip_new (made ls (by omega)) ⟨hm, fun g La => ?_⟩
  exact ⟨⟨_, La.Z, rfl⟩, q g La⟩
end
end Zn
namespace Zn
open PySem PySem.Spec PyProof.Rows L2
section
variable {M : Model} {A : Around} {E : Value → Shared → Prop} {s : Shared}
theorem callWith_typeS {pos : Pos} {T : String} {args : List (Bool × Sem Value)} {Q : Value → Shared → Prop} (hst : args.any (·.1) = true)
    (h : wpAny M A (evalArgs (.type T) true args []) (fun a s₁ => wpAny M A (call (.type T) a.pos a.kw) Q E s₁) E s) :
    wpAny M A (callWith pos (.type T) [] args []) Q E s := by
  unfold callWith
  refine wpAny_bind (wpAny_holding (wpAny_mono h (fun a s₁ h₁ => wpAny_bind (wpAny_standAt ?_)) fun _ _ x => x))
  simp only [hst, Bool.true_or]
  refine wpAny_bind (wpAny_pure ?_)
  exact wpAny_bind (wpAny_mono (wpAny_operating h₁) (fun r s₂ hr => wpAny_bind (wpAny_holding (wpAny_point (wpAny_pure hr)))) fun _ _ x => x)
end
section
variable {prog : Program} {w : World} {A : Around} {E : Value → Shared → Prop} {s : Shared} {z S T : Addr} {f0 : Value} {f1 : Bool} {L : List Cell} {i : Nat} {kept : Array Value}
theorem pyn_item {Q : Option Value → Shared → Prop} (D : Ap z S T L) (ne : L ≠ []) (z0 : IsZ s.heap z S T f0 f1) (hf : f0 = .none ∨ ∃ a : Addr, f0 = rawInt (a : Nat)) (S0 : IsT s.heap S (L.map fun c => Value.ref c.p).toArray) (T0 : IsT s.heap T kept) (hk : kept.size = L.length) (hl : L.length ≤ 1000)
    (hi : ∀ c ∈ L, s.heap.IsListIter c.p c.l i) (hm : ∀ c ∈ L, s.heap.IsList c.l c.xs) (hx : ∀ c ∈ L, c.xs[i]? = some c.x)
    (q : ∀ g (a : Addr) f1', IsZ g z S T (rawInt (a : Nat)) f1' → (∃ k : Array Value, IsT g T k ∧ k.size = L.length) → (∀ c ∈ L, g.IsListIter c.p c.l (i + 1)) → IsT g s.heap.objs.size (L.map Cell.x).toArray → g.objs.size = s.heap.objs.size + 1 → Stay s.heap g z T (L.map Cell.p) →
      Q (some (.ref s.heap.objs.size)) { s with heap := g }) : wpAny (model prog w) A (pyNext (.ref z)) Q E s := by
  have ty : s.TypeIs (.ref z) "zip" := ⟨_, z0, rfl⟩
  unfold pyNext
  exact wpAny_bind (wpAny_attempt (wpAny_callSpecial?_slot (name := Str.ofString "__next__") ty F.slot_zip_next (wpAny_call_entry F.slot_zip_next ty F.entry_zip_next (next_item D ne z0 hf S0 T0 hk hl hi hm hx fun g a f a1 a2 a3 a4 a5 a6 => wpAny_pure (q g a f a1 a2 a3 a4 a5 a6)) (F.args_zip_next_1 _))))
theorem pyn_end {Q : Option Value → Shared → Prop} {c : Cell} {R : List Cell} (hh : A.handled = none) (D : Ap z S T (c :: R)) (z0 : IsZ s.heap z S T f0 f1) (hf : f0 = .none ∨ ∃ a : Addr, f0 = rawInt (a : Nat)) (S0 : IsT s.heap S ((c :: R).map fun c => Value.ref c.p).toArray) (T0 : IsT s.heap T kept)
    (hi : s.heap.IsListIter c.p c.l i) (hm : s.heap.IsList c.l c.xs) (hx : c.xs[i]? = none)
    (q : ∀ g, Stay s.heap g z T ((c :: R).map Cell.p) → Q none { s with heap := g }) : wpAny (model prog w) A (pyNext (.ref z)) Q E s := by
  have ty : s.TypeIs (.ref z) "zip" := ⟨_, z0, rfl⟩
  unfold pyNext
  refine wpAny_bind (wpAny_attempt (wpAny_callSpecial?_slot (name := Str.ofString "__next__") ty F.slot_zip_next (wpAny_call_entry F.slot_zip_next ty F.entry_zip_next (next_end hh D z0 hf S0 T0 hi hm hx fun g e st ⟨o, eo, ec⟩ => ?_) (F.args_zip_next_1 _))))
  exact wpAny_bind (wpAny_isInstance (T := "StopIteration") (b := true) ⟨o, eo, ec⟩ isSubtype_stop (wpAny_pure (q _ st)))
theorem iter_self {Q : Value → Shared → Prop} (z0 : IsZ s.heap z S T f0 f1) (q : Q (.ref z) s) : wpAny (model prog w) A (pyIter (.ref z)) Q E s := by
  have hT : s.TypeIs (.ref z) "zip" := ⟨_, z0, rfl⟩
  refine wpAny_pyIter_slot hT F.slot_zip_iter (wpAny_call_entry F.slot_zip_iter hT F.entry_zip_iter ?_ (F.args_zip_iter_1 _))
  show wpAny _ _ (ret (.ref z)) _ _ s
  exact wpAny_pure ⟨_, rfl, "zip", _, hT, F.slot_zip_next.lookup, q⟩
end
def ItN (K : PySem.W.Frag) (as : List Addr) : It where
  go i H := ∀ a ∈ as, ∃ (r : List V) (x : V), SqL K H a r ∧ r[i]? = some x
  yld i H v H' := ∃ W xs, v = .ref W ∧ H W = none ∧ H' = upd H W (.tup xs) ∧ xs.length = as.length ∧ ∀ (k : Nat) a l, as[k]? = some a → SqL K H a l → l[i]? = xs[k]?
  stop i H := ∃ a r, as.head? = some a ∧ SqL K H a r ∧ r.length ≤ i
def tnN (z S T : Addr) (ps as : List Addr) (i : Nat) (g : Heap) : Prop := (∃ f0 f1, IsZ g z S T f0 f1 ∧ (f0 = .none ∨ ∃ a : Addr, f0 = rawInt (a : Nat))) ∧ IsT g S (ps.map Value.ref).toArray ∧ (∃ k : Array Value, IsT g T k ∧ k.size = as.length) ∧ ∀ (k : Nat) p a, ps[k]? = some p → as[k]? = some a → g.IsListIter p a i
structure ApA (z S T : Addr) (ps as : List Addr) : Prop where
  Sz : S ≠ z
  Tz : T ≠ z
  ST : S ≠ T
  zp : z ∉ ps
  Tp : T ∉ ps
  Sp : S ∉ ps
  az : ∀ a ∈ as, a ≠ z
  aT : ∀ a ∈ as, a ≠ T
  ap : ∀ a ∈ as, a ∉ ps
  nd : ps.Nodup
  len : ps.length = as.length
  ne : as ≠ []
  le : as.length ≤ 1000
theorem ApA.cells {z S T : Addr} {ps as : List Addr} {L : List Cell} (D : ApA z S T ps as) (hp : L.map Cell.p = ps) (hl : L.map Cell.l = as) : Ap z S T L := by
  subst hp
  subst hl
  exact ⟨D.Sz, D.Tz, D.ST, fun c h e => D.zp (by rw [← e]; exact List.mem_map_of_mem h), fun c h e => D.Tp (by rw [← e]; exact List.mem_map_of_mem h), fun c h e => D.Sp (by rw [← e]; exact List.mem_map_of_mem h), fun c h => D.az _ (List.mem_map_of_mem h), fun c h => D.aT _ (List.mem_map_of_mem h), fun c h d g e => D.ap _ (List.mem_map_of_mem h) (by rw [e]; exact List.mem_map_of_mem g), D.nd⟩
theorem build {X : Cx} {pins : List (Addr × Obj)} {σ : L2.St} {H : Hp} {s : Shared} (I : Inv X pins σ H s) {i : Nat} : ∀ {as ps : List Addr}, ps.length = as.length → (∀ a ∈ as, ∃ (r : List V) (x : V), SqL X.K H a r ∧ r[i]? = some x) → (∀ (k : Nat) p a, ps[k]? = some p → as[k]? = some a → s.heap.IsListIter p a i) →
    ∃ (L : List Cell) (vs : List V), L.map Cell.p = ps ∧ L.map Cell.l = as ∧ (∀ c ∈ L, s.heap.IsListIter c.p c.l i) ∧ (∀ c ∈ L, s.heap.IsList c.l c.xs) ∧ (∀ c ∈ L, c.xs[i]? = some c.x) ∧ Vals vs (L.map Cell.x) ∧ ∀ (k : Nat) a l, as[k]? = some a → SqL X.K H a l → l[i]? = vs[k]?
  | [], [], _, _, _ => ⟨[], [], rfl, rfl, fun c h => (nomatch h), fun c h => (nomatch h), fun c h => (nomatch h), .nil, fun k a l h => (by simp at h)⟩
  | [], _ :: _, h, _, _ => by cases h
  | _ :: _, [], h, _, _ => by cases h
  | a :: as, p :: ps, hl, hg, hi => by
    obtain ⟨L, vs, e1, e2, e3, e4, e5, e6, e7⟩ := build I (as := as) (ps := ps) (by simpa using hl) (fun b hb => hg b (List.mem_cons_of_mem _ hb)) fun k p' a' h1 h2 => hi (k + 1) p' a' h1 h2
    obtain ⟨r, x, q, ex⟩ := hg a (List.mem_cons_self ..)
    obtain ⟨us, rv, m, _⟩ := I.list q
    obtain ⟨u, eu, ru⟩ := rv.get ex
    have i0 := hi 0 p a rfl rfl
    refine ⟨⟨p, a, us.toArray, u⟩ :: L, x :: vs, by rw [List.map_cons, e1], by rw [List.map_cons, e2], fun c h => ?_, fun c h => ?_, fun c h => ?_, .cons ru e6, fun k b l h1 h2 => ?_⟩
    · rcases List.mem_cons.mp h with rfl | h
      · exact i0
      · exact e3 c h
    · rcases List.mem_cons.mp h with rfl | h
      · exact m.isList
      · exact e4 c h
    · rcases List.mem_cons.mp h with rfl | h
      · show us.toArray[i]? = some u
        rw [List.getElem?_toArray]
        exact eu
      · exact e5 c h
    · cases k with
      | zero =>
        cases h1
        rw [I.list_inj h2 q]
        exact ex
      | succ k => exact e7 k b l h1 h2
theorem tnN_obj {z S T : Addr} {ps as : List Addr} {i : Nat} {g : Heap} (hl : ps.length = as.length) (st : tnN z S T ps as i g) {c : Addr} (hc : c ∈ z :: S :: T :: ps) : ∃ o, g.get? c = some o ∧ ∀ v, o.data ≠ .cell v := by
  obtain ⟨⟨f0, f1, z0, _⟩, S0, ⟨k, T0, _⟩, hi⟩ := st
  rcases List.mem_cons.mp hc with rfl | hc
  · exact ⟨_, z0, fun _ k => nomatch k⟩
  · rcases List.mem_cons.mp hc with rfl | hc
    · exact ⟨_, S0, fun _ k => nomatch k⟩
    · rcases List.mem_cons.mp hc with rfl | hc
      · exact ⟨_, T0, fun _ k => nomatch k⟩
      · obtain ⟨j, hj, e⟩ := List.getElem_of_mem hc
        obtain ⟨o, eo, _, d⟩ := hi j c (as[j]'(by omega)) (by rw [List.getElem?_eq_getElem hj, e]) (List.getElem?_eq_getElem _)
        exact ⟨o, eo, fun _ k => by cases d.symm.trans k⟩
theorem turn_N {P : Program} {w : World} {K : PySem.W.Frag} {nm : Str} {np : Pos} {z S T : Addr} {ps as : List Addr} (D : ApA z S T ps as) :
    Turn P w K (.Name nm np) (ItN K as) (z :: S :: T :: ps) z (tnN z S T ps as) where
  mem := List.mem_cons_self
  obj := fun i g st c hc => tnN_obj D.len st hc
  keep := fun i g g' ⟨⟨f0, f1, z0, hf⟩, S0, ⟨kk, T0, hk⟩, hi⟩ k => ⟨⟨f0, f1, k z (by simp) _ z0, hf⟩, k S (by simp) _ S0, ⟨kk, k T (by simp) _ T0, hk⟩, fun j p a h1 h2 => (hi j p a h1 h2).at fun o e => k p (by simp [List.mem_of_getElem? h1]) o e⟩
  item := by
    rintro X rfl rfl rfl hc i pins s σ H E I hf st hg
    have lts : ∀ c ∈ z :: S :: T :: ps, c < s.heap.objs.size := fun c hm => let ⟨_, e, _⟩ := tnN_obj D.len st hm; Heap.lt_size e
    obtain ⟨⟨f0, f1, z0, hf0⟩, S0, ⟨kept, T0, hk⟩, hi⟩ := st
    obtain ⟨L, vs, e1, e2, e3, e4, e5, e6, e7⟩ := build I D.len hg hi
    have ll : L.length = as.length := by rw [← e2, List.length_map]
    have AP := D.cells e1 e2
    have lv : vs.length = as.length := by
      have := e6.length
      rw [List.length_map] at this
      omega
    have eS : (ps.map Value.ref) = L.map fun c => Value.ref c.p := by rw [← e1, List.map_map]; rfl
    rw [eS] at S0
    refine pyn_item AP (fun e => D.ne (by rw [← e2, e]; rfl)) z0 hf0 S0 T0 (by omega) (by have := D.le; omega) e3 e4 e5 fun g a f1' z1 T1 i1 W1 n1 st => ⟨_, rfl, ?_⟩
    show wpAny _ _ (pure ()) _ _ _
    refine wpAny_pure ?_
    rw [e1] at st
    have out : ∀ c o, c ∉ z :: S :: T :: ps → s.heap.get? c = some o → g.get? c = some o := fun c o hb e => by
      simp only [List.mem_cons, not_or] at hb
      exact st c o hb.1 hb.2.2.1 hb.2.2.2 e
    have okW : ObjOk X.prog X.w (upd H s.heap.objs.size (.tup vs)) g s.heap.objs.size (.tup vs) := ⟨by rw [lv]; exact Nat.le_trans D.le (by decide), L.map Cell.x, e6, ⟨_, W1, rfl, _, rfl⟩⟩
    have I' : Inv X pins σ (upd H s.heap.objs.size (.tup vs)) { s with heap := g } := I.turnedNew (t' := s.toks) (ch := z :: S :: T :: ps) out hf (Nat.le_refl _) okW
    refine ⟨.ref s.heap.objs.size, _, I', rfl, ⟨_, vs, rfl, I.hok.fresh (Nat.le_refl _), rfl, lv, e7⟩, ⟨⟨_, f1', z1, .inr ⟨a, rfl⟩⟩, ?_, ?_, fun j p b h1 h2 => ?_⟩, fun c hm => ?_⟩
    · rw [eS]
      exact st _ _ D.Sz D.ST D.Sp S0
    · obtain ⟨k, t1, t2⟩ := T1
      exact ⟨k, t1, by omega⟩
    · rw [← e1, List.getElem?_map] at h1
      rw [← e2, List.getElem?_map] at h2
      cases ej : L[j]? with
      | none => rw [ej] at h1; cases h1
      | some c =>
        rw [ej] at h1 h2
        cases h1
        cases h2
        exact i1 c (List.mem_of_getElem? ej)
    · exact (upd_ne (Nat.ne_of_lt (lts c hm))).trans (hf c hm).1
  done := by
    rintro X rfl rfl rfl hc i pins s σ H E I hf ⟨⟨f0, f1, z0, hf0⟩, S0, ⟨kept, T0, hk⟩, hi⟩ ⟨a, r, ha, qa, le⟩
    match as, ps, D, ha, hi, S0 with
    | a' :: as, p :: ps, D, ha, hi, S0 =>
      cases ha
      obtain ⟨us, rv, m, _⟩ := I.list qa
      have n1 := rv.length
      have key : ∀ (as ps : List Addr), ps.length = as.length → ∃ R : List Cell, R.map Cell.p = ps ∧ R.map Cell.l = as := by
        intro as
        induction as with
        | nil => intro ps h; cases ps with
          | nil => exact ⟨[], rfl, rfl⟩
          | cons => cases h
        | cons b as ih => intro ps h; cases ps with
          | nil => cases h
          | cons p ps =>
            obtain ⟨R, r1, r2⟩ := ih ps (by simpa using h)
            exact ⟨⟨p, b, #[], .none⟩ :: R, by rw [List.map_cons, r1], by rw [List.map_cons, r2]⟩
      obtain ⟨R, r1, r2⟩ := key as ps (by simpa using D.len)
      have eR : (ps.map Value.ref) = R.map fun c => Value.ref c.p := by rw [← r1, List.map_map]; rfl
      have AP := D.cells (L := ⟨p, a, us.toArray, .none⟩ :: R) (by rw [List.map_cons, r1]) (by rw [List.map_cons, r2])
      rw [List.map_cons, eR] at S0
      refine pyn_end (c := ⟨p, a, us.toArray, .none⟩) (R := R) (I.ok.hd hc) AP z0 hf0 S0 T0 (hi 0 p a rfl rfl) m.isList (by show us.toArray[i]? = none; rw [List.getElem?_toArray]; exact List.getElem?_eq_none (by omega)) fun g st => ⟨rfl, I.turnedL (t' := s.toks) (ch := z :: S :: T :: p :: ps) (fun c o hb e => ?_) hf⟩
      simp only [List.mem_cons, not_or] at hb
      refine st c o hb.1 hb.2.2.1 (fun h => ?_) e
      rw [List.map_cons, r1] at h
      rcases List.mem_cons.mp h with h | h
      · exact hb.2.2.2.1 h
      · exact hb.2.2.2.2 h
    | [], _, D, ha, _, _ => cases ha
  self := fun A i s Q E st q => let ⟨⟨_, _, z0, _⟩, _⟩ := st; iter_self z0 q
theorem apN {N : Addr} {as : List Addr} (h : ∀ a ∈ as, a < N) (ne : as ≠ []) (le : as.length ≤ 1000) : ApA (N + as.length + 2) (N + as.length) (N + as.length + 1) ((List.range as.length).map fun k => N + k) as := by
  have lt : ∀ x ∈ (List.range as.length).map fun k => N + k, N ≤ x ∧ x < N + as.length := fun x hx => by
    obtain ⟨k, hk, rfl⟩ := List.mem_map.mp hx
    have := List.mem_range.mp hk
    exact ⟨Nat.le_add_right _ _, Nat.add_lt_add_left this _⟩
  have b : ∀ a ∈ as, (a : Nat) < N := h
  refine ⟨Nat.ne_of_lt (Nat.lt_succ_of_lt (Nat.lt_succ_self _)), Nat.ne_of_lt (Nat.lt_succ_self _), Nat.ne_of_lt (Nat.lt_succ_self _), fun m => ?_, fun m => ?_, fun m => ?_, fun a ha => ?_, fun a ha => ?_, fun a ha m => ?_, ?_, by rw [List.length_map, List.length_range], ne, le⟩
  · exact absurd (lt _ m).2 (Nat.not_lt.mpr (Nat.le_add_right _ 2))
  · exact absurd (lt _ m).2 (Nat.not_lt.mpr (Nat.le_add_right _ 1))
  · exact absurd (lt _ m).2 (Nat.lt_irrefl _)
  · exact Nat.ne_of_lt (Nat.lt_of_lt_of_le (b a ha) (Nat.le_trans (Nat.le_add_right _ as.length) (Nat.le_add_right _ 2)))
  · exact Nat.ne_of_lt (Nat.lt_of_lt_of_le (b a ha) (Nat.le_trans (Nat.le_add_right _ as.length) (Nat.le_add_right _ 1)))
  · exact absurd (b a ha) (Nat.not_lt.mpr (lt a m).1)
  · rw [List.nodup_iff_pairwise_ne, List.pairwise_map]
    exact List.Pairwise.imp (fun h e => h (Nat.add_left_cancel e)) (List.nodup_iff_pairwise_ne.mp (List.nodup_range))
end Zn
namespace Zn
open PySem PySem.Spec PyProof.Rows L2
def iZipN (K : PySem.W.Frag) (te : TE) : TI := fun σ H R => te σ H fun y H1 => ∃ p as, y = .ref p ∧ SqL K H1 p (as.map V.ref) ∧ as ≠ [] ∧ as.length ≤ 25 ∧ (∀ a ∈ as, ∃ r, SqL K H1 a r) ∧ R (ItN K as) H1
theorem vals_refs : ∀ {as : List Addr} {us : List Value}, Vals (as.map V.ref) us → us = as.map Value.ref
  | [], us, h => by cases h; rfl
  | a :: as, us, h => by
    cases h with
    | cons e r =>
      cases e
      rw [vals_refs r]
      rfl
theorem pi_zipN {X : Cx} {e : Expr} {te : TE} {p pos sp np : Pos} {nm : Str} (hg : Gl X "zip") (hm : X.mg "zip" = none) (he : PE X e te)
    (hs : starEach [.Starred e sp] X.env = [(true, eval e X.env)] := by rfl) : PI X (.Name nm np) (.Call (.Name "zip" p) [.Starred e sp] [] pos) (iZipN X.K te) := by
  refine ⟨fun pins s σ H R I h => Call_ (ld_blt I hg hm PyProof.Rows.boot_zip ?_)⟩
  rw [hs]
  refine callWith_typeS rfl (PySem.W.ks_lone (thn (he.run pins s σ H _ I h) fun v s1 ⟨y, H1, I1, ry, l, as, ey, hx, ne, le, hr, q⟩ => ?_))
  subst ey
  cases ry
  refine StX.star_any I1 (.inr hx) fun us s2 I2 rv => ?_
  rw [vals_refs rv]
  have hml : ∀ a ∈ as, ∃ xs, s2.heap.IsList a xs := fun a ha => by
    obtain ⟨r, qr⟩ := hr a ha
    obtain ⟨us, _, m, _⟩ := I2.list qr
    exact ⟨_, m.isList⟩
  have lta : ∀ a ∈ as, a < s2.heap.objs.size := fun a ha => by
    obtain ⟨r, qr⟩ := hr a ha
    obtain ⟨us, _, m, _⟩ := I2.list qr
    exact m.lt
  refine call_zip le hml fun g La => iter_self La.Z ?_
  have D := apN lta ne (by omega)
  refine ⟨_, _, _, _, H1, rfl, I2.kept (t' := s2.toks) La.st, turn_N D, ⟨⟨_, _, La.Z, .inl rfl⟩, ?_, La.T, fun k p a h1 h2 => ?_⟩, fun c hm => ?_, q⟩
  · rw [List.map_map]
    exact La.S
  · rw [List.getElem?_map] at h1
    have hk := (List.getElem?_eq_some_iff.mp h2).1
    rw [List.getElem?_range hk] at h1
    cases h1
    exact La.I k a h2
  · have le : s2.heap.objs.size ≤ c := by
      rcases List.mem_cons.mp hm with rfl | hm
      · exact Nat.le_trans (Nat.le_add_right _ as.length) (Nat.le_add_right _ 2)
      · rcases List.mem_cons.mp hm with rfl | hm
        · exact Nat.le_add_right _ _
        · rcases List.mem_cons.mp hm with rfl | hm
          · exact Nat.le_trans (Nat.le_add_right _ as.length) (Nat.le_add_right _ 1)
          · obtain ⟨k, _, rfl⟩ := List.mem_map.mp hm
            exact Nat.le_add_right _ _
    exact I2.fpOk le (I2.hok.fresh le)
end Zn
namespace Dv
open PySem PySem.Spec PyProof.Rows L2 Xg
open Classical
section
variable {K : PySem.W.Frag} {md : Bool} {ta tb tc : TE} {ca cb cc : Nat} {fa fb fc : FE}
def colD (rs : List (List PyData)) (n : Nat) : List PyData := (List.range n).map fun j => .tuple (rs.map fun r => r.getD j .none)
abbrev zipNQ (Q : List PyData → Prop) : PyData → Prop
  | .list ds => ∃ (rs : List (List PyData)) (n : Nat), ds = rs.map PyData.list ∧ rs ≠ [] ∧ rs.length ≤ 25 ∧ (∀ r ∈ rs, r.length = n) ∧ Q (colD rs n)
  | _ => False
theorem zipNQ_mono {P P' : List PyData → Prop} (h : ∀ k, P k → P' k) : ∀ x, zipNQ P x → zipNQ P' x := fun x g => by
  cases x <;> first | exact g.elim | skip
  obtain ⟨rs, n, a, b, c, d, e⟩ := g
  exact ⟨rs, n, a, b, c, d, h _ e⟩
abbrev fZipN (f : FE) : FD := fun ρ Q => f ρ (zipNQ Q)
theorem DaL.rows {H : Hp} : ∀ {rs : List (List PyData)} {xs : List V}, DaL K H xs (rs.map PyData.list) → ∃ (as : List Addr) (vss : List (List V)), xs = as.map V.ref ∧ as.length = rs.length ∧ vss.length = rs.length ∧ ∀ (k : Nat) a, as[k]? = some a → ∃ vs r, vss[k]? = some vs ∧ rs[k]? = some r ∧ H a = some (.lst vs) ∧ DaL K H vs r
  | [], xs, h => by
    cases h
    exact ⟨[], [], rfl, rfl, rfl, fun k a h => (by simp at h)⟩
  | r :: rs, xs, h => by
    cases h with
    | cons h g =>
      cases h with
      | lst e d =>
        rename_i a vs
        obtain ⟨as, vss, e1, e2, e3, e4⟩ := DaL.rows g
        refine ⟨a :: as, vs :: vss, by rw [e1]; rfl, by rw [List.length_cons, List.length_cons, e2], by rw [List.length_cons, List.length_cons, e3], fun k b hb => ?_⟩
        cases k with
        | zero =>
          cases hb
          exact ⟨vs, r, rfl, rfl, e, d⟩
        | succ k => exact e4 k b hb
theorem sndi_zipN (a : Snd md K ta ca fa) : SndI md K (Zn.iZipN K ta) ca (fZipN fa) := ⟨fun ρ P P' h g => a.mono _ _ _ (zipNQ_mono h) g,
  fun {b S m σ H ρ R P} E hm hf k => a.go E hm hf fun d v H1 p st bx vd => by
    have sx : sq (fun _ => True) d := by
      cases d <;> first | trivial | exact p.elim
    obtain ⟨p1, xs, ds, rfl, _, g, hh⟩ := vd.seq sx E.bs
    rcases hh with ⟨rfl, hL⟩ | ⟨rfl, hL⟩
    · obtain ⟨rs, n, rfl, ne, le, hn, q⟩ := p
      obtain ⟨as, vss, rfl, l1, l2, e4⟩ := DaL.rows g
      have sql : ∀ H2, KG K md b S H1 H2 → ∀ (k : Nat) a, as[k]? = some a → ∃ vs, vss[k]? = some vs ∧ SqL K H2 a vs := fun H2 kg k a ha => by
        obtain ⟨vs, r, h1, h2, h3, h4⟩ := e4 k a ha
        exact ⟨vs, h1, .inl (.inl (rm_le _ _ (KG.ex (b := b) kg E.bs _ _ h3)))⟩
      have lens : ∀ (k : Nat) a vs, as[k]? = some a → vss[k]? = some vs → vs.length = n := fun k a vs ha hv => by
        obtain ⟨vs', r, h1, h2, h3, h4⟩ := e4 k a ha
        rw [hv] at h1
        cases h1
        rw [h4.len]
        exact hn r (List.mem_of_getElem? h2)
      have nea : as ≠ [] := fun e => ne (List.length_eq_zero_iff.mp (by rw [← l1, e]; rfl))
      have W : Walk (Zn.ItN K as) n (fun H2 => KG K md b S H1 H2) (fun i H2 v H' => KG K md b S H1 H2 ∧ ∃ W ys, v = .ref W ∧ H2 W = none ∧ H' = upd H2 W (.tup ys) ∧ ys.length = as.length ∧ ∀ (k : Nat) a l, as[k]? = some a → SqL K H2 a l → l[i]? = ys[k]?) := by
        refine ⟨fun i H2 hi kg a ha => ?_, fun H2 kg => ?_, fun i H2 v H' hi kg y => ⟨kg, y⟩⟩
        · obtain ⟨j, hj, ej⟩ := List.getElem_of_mem ha
          have ea : as[j]? = some a := by rw [List.getElem?_eq_getElem hj, ej]
          obtain ⟨vs, h1, h2⟩ := sql H2 kg j a ea
          have lv := lens j a vs ea h1
          exact ⟨vs, vs[i]'(by omega), h2, List.getElem?_eq_getElem _⟩
        · cases as with
          | nil => exact absurd rfl nea
          | cons a0 as =>
            obtain ⟨vs, h1, h2⟩ := sql H2 kg 0 a0 rfl
            exact ⟨a0, vs, rfl, h2, by rw [lens 0 a0 vs rfl h1]; exact Nat.le_refl _⟩
      refine ⟨p1, as, rfl, hL _ KG.refl, nea, by omega, fun a ha => ?_, k _ _ H1 q st bx (wk_of W (by unfold colD; rw [List.length_map, List.length_range]) (fun _ kg => kg) fun i H2 x H' hi y T hT al => ?_)⟩
      · obtain ⟨j, hj, ej⟩ := List.getElem_of_mem ha
        obtain ⟨vs, _, h2⟩ := sql H1 KG.refl j a (by rw [List.getElem?_eq_getElem hj, ej])
        exact ⟨vs, h2⟩
      · obtain ⟨kg, W, ys, rfl, nW, rfl, ly, hy⟩ := y
        refine ⟨Evl.Ex.new nW, .tuple (rs.map fun r => r.getD i .none), ?_, new_tup al nW ?_⟩
        · unfold colD
          rw [List.getElem?_map, List.getElem?_range hi]
          rfl
        · have key : ∀ (ys : List V) (rs : List (List PyData)), ys.length = rs.length → (∀ (k : Nat) y r, ys[k]? = some y → rs[k]? = some r → Da K (rm H2 T) y (r.getD i .none)) → DaL K (rm H2 T) ys (rs.map fun r => r.getD i .none) := by
            intro ys
            induction ys with
            | nil => intro rs h _; cases rs with
              | nil => exact .nil
              | cons => cases h
            | cons y ys ih => intro rs h g; cases rs with
              | nil => cases h
              | cons r rs => exact .cons (g 0 y r rfl rfl) (ih rs (by simpa using h) fun k y' r' h1 h2 => g (k + 1) y' r' h1 h2)
          refine key ys rs (by omega) fun k y r h1 h2 => ?_
          have hk : k < as.length := by
            have := (List.getElem?_eq_some_iff.mp h1).1
            omega
          obtain ⟨vs, r', e1, e2, e3, e5⟩ := e4 k as[k] (List.getElem?_eq_getElem hk)
          rw [h2] at e2
          cases e2
          obtain ⟨vs', f1, f2⟩ := sql H2 kg k as[k] (List.getElem?_eq_getElem hk)
          rw [e1] at f1
          cases f1
          have ey := hy k as[k] vs (List.getElem?_eq_getElem hk) f2
          rw [h1] at ey
          obtain ⟨d, g1, g2⟩ := at_of e5 hT ey
          rw [List.getD_eq_getElem?_getD, g1]
          exact g2
    · exact p.elim⟩
end
end Dv
namespace Dv
open PySem PySem.Spec PyProof.Rows L2 Xg
open Classical
section
variable {K : PySem.W.Frag} {md md2 md3 : Bool} {ta tb tc : TE} {ca cb cc : Nat} {fa fb fc : FE}
abbrev eChain (g g' : GB) (fa fb fc : FE) : FE := fun ρ Q => fa ρ fun x => fb ρ fun y => g x y (asB fun k => if k = true then fc ρ fun w => g' y w Q else Q (.bool false))
theorem snd_chain {r r' : R2} {g g' : GB} (o : OpSnd K r g) (o' : OpSnd K r' g') (a : Snd md K ta ca fa) (b : Snd md2 K tb cb fb) (c : Snd md3 K tc cc fc) : Snd true K (tChain r r' ta tb tc) (ca + (cb + cc)) (eChain g g' fa fb fc) := mk_snd
  (fun ρ P P' h q => a.mono _ _ _ (fun x => b.mono _ _ _ fun y => o.mono x y _ _ (asB_mono fun k z => by
    cases k with
    | true => exact c.mono _ _ _ (fun w => o'.mono y w _ _ h) z
    | false => exact h _ z)) q)
  (fun {B S m σ H ρ Q P} E hm hf k => a.go E (by omega) hf fun x vx H1 h1 s1 b1 d1 => b.go (E.step s1 b1) (by omega) h1 fun y vy H2 h2 s2 b2 d2 =>
    o.run ((E.step s1 b1).step s2 b2).al (d1.vw.step s2 E.bs) d2.vw h2 fun d v H' p e q => by
      obtain ⟨kk, rfl, p⟩ := asB_of (md := true) (b := B) p q
      have st3 : Stp K B H2 H' := Stp.ex e
      have bx3 := b2.ex e
      refine ⟨kk, rfl, ?_⟩
      cases kk with
      | false =>
        rw [if_neg Bool.false_ne_true] at p ⊢
        exact k _ _ _ p ((s1.trans s2).trans st3) (bx3.le (by omega)) (.bl false)
      | true =>
        rw [if_pos rfl] at p ⊢
        refine c.go (((E.step s1 b1).step s2 b2).step st3 bx3) (by omega) p fun w vw H4 h4 s4 b4 d4 => ?_
        exact o'.run ((((E.step s1 b1).step s2 b2).step st3 bx3).step s4 b4).al ((d2.vw.step st3 E.bs).step s4 E.bs) d4.vw h4 fun d v H5 p5 e5 q5 => k d v H5 p5 ((((s1.trans s2).trans st3).trans s4).trans (Stp.ex e5)) ((b4.ex e5).le (by omega)) q5)
abbrev eBits (fa : FE) : FE := fun ρ Q => fa ρ (asI fun i => Q (.int (Builtin.Int.intBits i : Nat)))
theorem snd_bits (a : Snd md K ta ca fa) : Snd true K (tBits ta) ca (eBits fa) := mk_snd
  (fun ρ P P' h q => a.mono _ _ _ (asI_mono fun i z => h _ z) q)
  (fun E hm hf k => a.go E hm hf fun x vx H1 h1 s1 b1 d1 => by
    obtain ⟨i, rfl, h1⟩ := asI_of h1 d1
    exact ⟨i, rfl, k _ _ _ h1 s1 b1 (.int _)⟩)
abbrev gOdd : GB
  | .int i, .int j, Q => (0 ≤ i ∧ j = 1) ∧ Q (.int (i % 2))
  | _, _, _ => False
theorem ops_odd : OpSnd K (fun x y H Q => ∃ n : Nat, x = .int (n : Int) ∧ y = .int 1 ∧ Q (.int ((n % 2 : Nat) : Int)) H) gOdd := ⟨fun x y P P' h q => by
    cases x <;> cases y <;> first | exact ⟨q.1, h _ q.2⟩ | exact q.elim, fun {b S H x y dx dy Q P} al hx hy q k => by
    cases dx <;> cases dy <;> first | exact q.elim | skip
    rename_i i j
    obtain ⟨⟨h0, rfl⟩, q⟩ := q
    rw [hx.int, hy.int]
    refine ⟨i.toNat, by rw [Int.toNat_of_nonneg h0], rfl, ?_⟩
    have e : ((i.toNat % 2 : Nat) : Int) = i % 2 := by omega
    rw [e]
    exact k _ _ _ q (Evl.Ex.refl _) (.int _)⟩
def rMinD (K : PySem.W.Frag) : List V → List V → Hp → VK → Prop := fun vs zs H Q => ∃ (a : Addr) (ns : List Int) (d : V), vs = [V.ref a] ∧ zs = [d] ∧ SqL K H a (ns.map V.int) ∧ ((ns = [] ∧ Q d H) ∨ (0 < ns.length ∧ ∀ m, m ∈ ns → (∀ y, y ∈ ns → m ≤ y) → Q (.int m) H))
theorem alike_ints {ns : List Int} : PySem.W.AlikeAll (ns.map PyData.int) := by
  refine ⟨fun x hx y hy => ?_, fun x hx => ?_⟩
  · obtain ⟨i, _, rfl⟩ := List.mem_map.mp hx
    obtain ⟨j, _, rfl⟩ := List.mem_map.mp hy
    rfl
  · obtain ⟨i, _, rfl⟩ := List.mem_map.mp hx
    exact fun e => nomatch e
theorem depth_ints : ∀ {ns : List Int}, PyData.depthAll (ns.map PyData.int) = 0
  | [] => by simp [PyData.depthAll]
  | n :: ns => by rw [List.map_cons, PyData.depthAll, depth_ints]; simp [PyData.depth]
theorem fold_min : ∀ (ns : List Int) (n : Int), (ns.foldl min n = n ∨ ns.foldl min n ∈ ns) ∧ ns.foldl min n ≤ n ∧ ∀ y ∈ ns, ns.foldl min n ≤ y
  | [], n => ⟨.inl rfl, Int.le_refl _, fun y h => (nomatch h)⟩
  | k :: ns, n => by
    obtain ⟨h1, h2, h3⟩ := fold_min ns (min n k)
    rw [List.foldl_cons]
    refine ⟨?_, by omega, fun y hy => ?_⟩
    · rcases h1 with h1 | h1
      · by_cases c : n ≤ k
        · rw [Int.min_eq_left c] at h1 ⊢
          exact .inl h1
        · rw [Int.min_eq_right (by omega)] at h1 ⊢
          right
          rw [h1]
          exact List.mem_cons_self ..
      · exact .inr (List.mem_cons_of_mem _ h1)
    · rcases List.mem_cons.mp hy with rfl | hy
      · omega
      · exact h3 y hy
theorem cr_minD {X : Cx} (hu : X.A.units + 64 < cLine) (hc : X.calm = true) : CallRK X (.builtin "min") [Str.ofString "default"] (rMinD X.K) := by
  intro pins s σ H vs zs us ws Q I r rz h
  obtain ⟨a, ns, d, rfl, rfl, hs, h⟩ := h
  obtain rfl := Vals.ref1 r
  obtain ⟨w1, rfl, e1⟩ := vals1 rz
  obtain ⟨its, rv, hl, _⟩ := I.list hs
  have hr := ints_readAll s.heap (vals_ints rv)
  refine PySem.W.min_list_default (I.ok.hd hc) hl.isList (by rw [List.toList_toArray]; exact hr) alike_ints (by rw [depth_ints]; omega) (fun e h' tk k => ?_) fun y ys i v h' tk bs e hv rd k => ?_
  · have e : ns = [] := List.map_eq_nil_iff.mp e
    rcases h with ⟨_, q⟩ | ⟨q, _⟩
    · exact ⟨d, H, I.kept k, e1, q⟩
    · rw [e] at q
      cases q
  · cases ns with
    | nil => cases e
    | cons n ns =>
      cases e
      rw [PySem.W.minD_ints] at rd
      cases rd
      obtain ⟨f1, f2, f3⟩ := fold_min ns n
      rcases h with ⟨q, _⟩ | ⟨_, q⟩
      · cases q
      · refine ⟨.int _, H, I.kept k, ⟨_, rfl⟩, q _ ?_ fun y hy => ?_⟩
        · rcases f1 with f1 | f1
          · rw [f1]; exact List.mem_cons_self ..
          · exact List.mem_cons_of_mem _ f1
        · rcases List.mem_cons.mp hy with rfl | hy
          · exact f2
          · exact f3 y hy
abbrev minQ (Q : PyData → Prop) (d : PyData) : PyData → Prop
  | .list ds => ∃ ns : List Int, ds = ns.map PyData.int ∧ ((ns = [] ∧ Q d) ∨ (0 < ns.length ∧ ∀ m, m ∈ ns → (∀ y, y ∈ ns → m ≤ y) → Q (.int m)))
  | _ => False
abbrev eMinD (fa fb : FE) : FE := fun ρ Q => fa ρ fun x => fb ρ fun d => minQ Q d x
theorem minQ_mono {P P' : PyData → Prop} (h : ∀ d, P d → P' d) : ∀ d x, minQ P d x → minQ P' d x := fun d x q => by
  cases x <;> first | exact q.elim | skip
  obtain ⟨ns, e, q⟩ := q
  exact ⟨ns, e, q.elim (fun z => .inl ⟨z.1, h _ z.2⟩) fun z => .inr ⟨z.1, fun m a b => h _ (z.2 m a b)⟩⟩
theorem snd_minD (a : Snd md K ta ca fa) (b : Snd true K tb cb fb) : Snd true K (tCKw (rMinD K) (tCons ta tNil) (tCons tb tNil)) (ca + cb) (eMinD fa fb) := mk_snd
  (fun ρ P P' h q => a.mono _ _ _ (fun x => b.mono _ _ _ fun d => minQ_mono h d x) q)
  (fun {B S m σ H ρ Q P} E hm hf k => a.go E (by omega) hf fun x vx H1 h1 s1 b1 d1 => b.go (E.step s1 b1) (by omega) h1 fun y vy H2 h2 s2 b2 d2 => by
    cases x <;> first | exact h2.elim | skip
    obtain ⟨ns, rfl, q⟩ := h2
    obtain ⟨p, vs, rfl, e, g⟩ := (d1.vw.step s2 E.bs).list
    rw [g.ints_inv] at e
    refine ⟨p, ns, vy, rfl, rfl, .inl (.inl e), q.elim (fun z => .inl ⟨z.1, k _ _ _ z.2 (s1.trans s2) (b2.le (by omega)) d2⟩) fun z => .inr ⟨z.1, fun m a b => k _ _ _ (z.2 m a b) (s1.trans s2) (b2.le (by omega)) (.int _)⟩⟩)
end
end Dv
namespace Dv
open PySem PySem.Spec PyProof.Rows L2 Xg
open Classical
section
variable {K : PySem.W.Frag} {ta : TE} {ca c : Nat} {fa : FE}
abbrev eBoxC (i : Nat) (fa : FE) (F : FF) : FE := fun ρ Q => match ρ[i]? with
  | some (.scr _) => fa ρ (asI fun k => (0 ≤ k ∧ k ≤ 1000) ∧ F [.box] fun d => flat d = true ∧ Q d)
  | _ => False
theorem snd_boxC {i : Nat} {F : FF} (mF : MonoF F) (a : Snd true K ta ca fa) : Snd true K (tCallG (spD K c F) (tCons (tCallG (spBx K) (tCons (tVar i) (tCons ta tNil))) tNil)) (ca + c) (eBoxC i fa F) := mk_snd
  (fun ρ P P' h q => by
    unfold eBoxC at q ⊢
    split at q
    · exact a.mono _ _ _ (asI_mono fun k z => ⟨z.1, mF _ _ _ (fun d y => ⟨y.1, h _ y.2⟩) z.2⟩) q
    · exact q.elim)
  (fun {B S m σ H ρ Q P} E hm hf kk => by
    unfold eBoxC at hf
    split at hf
    · rename_i ns e
      obtain ⟨p, e1, hs⟩ := E.sl i _ e
      refine ⟨.ref p, e1, a.go E (by omega) hf fun d v H1 h1 s1 b1 vd => ?_⟩
      obtain ⟨k, rfl, ⟨k0, k1⟩, h1⟩ := asI_of h1 vd
      refine ⟨p, ns, k.toNat, ?_, Evl.ex_l rm_le (Evl.ex_l (s1.rm E.bs) hs), by omega, fun q x y nq x0 y0 y1 => ?_⟩
      · rw [Int.toNat_of_nonneg k0]
      have ex := Evl.Ex.new (o := .lst [.int x, .int y, .int 0]) nq
      refine ⟨some q, fun a => a = q, 0, [.box], .cons ⟨q, rfl, rfl⟩ .nil, ⟨x, y, 0, x0, y0, y1, by omega, by omega, upd_same⟩, fun p' e => by cases e; rfl, ⟨fun a h => (h : a = q) ▸ ⟨_, upd_same, rfl⟩, (E.step s1 b1).tb.ex ex⟩, by omega,
        mF _ _ _ (fun d z v H' st bx hd => kk d v H' z.2 ?_ ?_ (Da.flat hd z.1)) h1⟩
      · exact fun a' o n1 h => ((s1.trans (Stp.ex ex)) a' o n1 h).trans fun o' h' => st a' o' (fun w => by cases w; exact (s1 _ o n1 h).ne nq) h'
      · cases B with
        | none => trivial
        | some p0 =>
          obtain ⟨x1, y2, z1, g1, g2, g3, g4, g5, g6⟩ := b1
          exact ⟨x1, y2, z1, g1, g2, g3, g4, by omega, st p0 _ (fun w => by cases w; rw [nq] at g6; cases g6) (ex p0 _ g6)⟩
    · exact hf.elim)
end
end Dv
namespace Kd
open PySem PySem.Spec PyProof.Rows L2 Xg Dv
def f_is_number : FS := (sRet (eAnd (eIsi .int (eVar 0)) (eNot (eIsi .bool (eVar 0)))))
@[irreducible] def F_is_number : FF := mkF 1 1 f_is_number
def t_is_number (K : PySem.W.Frag) : TS := (tRet (tAndV (tCB (rIsi K) (tCons (tVar 0) (tCons (tC (.ty "int")) tNil))) (tNotV (tCB (rIsi K) (tCons (tVar 0) (tCons (tC (.ty "bool")) tNil))))))
theorem s_is_number (K : PySem.W.Frag) : SndS K (t_is_number K) 0 f_is_number := (snds_ret (snd_and (snd_isi (t := .int) snd_var) (snd_not (snd_isi (t := .bool) snd_var))))
theorem m_is_number (K : PySem.W.Frag) : MonoF F_is_number := by
  unfold F_is_number
  exact mkF_mono (s_is_number K)
def f_gates : FS := (sSeq (sAsg (eVar 0) (gT (gsCons (gN 1) (gsCons (gN 2) gsNil)))) (sRet (eIf (fTest (eBin gEq (eVar 1) (eC (.str "row")))) (eBin gAdd (eCB (g1 lenD) (dCons (eVar 2) dNil)) (eC (.int 1))) (eCB (g1 lenD) (dCons (eVar 2) dNil)))))
@[irreducible] def F_gates : FF := mkF 1 3 f_gates
def t_gates (K : PySem.W.Frag) : TS := (tSeq (tAsg (tVar 0) (fun v σ H Q => gTup K 2 (gCons (gName 1) (gCons (gName 2) gNil)) v σ H Q ∨ gLst K 2 (gCons (gName 1) (gCons (gName 2) gNil)) v σ H Q)) (tRet (tIf (tTest (tOp (rEqX K) (tVar 1) (tC (.str "row")))) (tOp (rAdd K) (tCB (fun xs H Q => ∃ x n, xs = [x] ∧ LenV K x H n ∧ Q (.int n) H) (tCons (tVar 2) tNil)) (tC (.int 1))) (tCB (fun xs H Q => ∃ x n, xs = [x] ∧ LenV K x H n ∧ Q (.int n) H) (tCons (tVar 2) tNil)))))
theorem s_gates (K : PySem.W.Frag) : SndS K (t_gates K) 0 f_gates := (snds_seq (snds_asg (vs := [1, 2]) snd_var (sndg_tup (sndgs_cons (sndg_name (by decide)) (sndgs_cons (sndg_name (by decide)) sndgs_nil)) (gs_lenS gN_some (gs_lenS gN_some gs_len0)))) (snds_ret (snd_if (sndt_test (snd_op ops_eq snd_var snd_str)) (snd_op ops_add (snd_cb cs_len (sndd_cons snd_var sndd_nil)) snd_int) (snd_cb cs_len (sndd_cons snd_var sndd_nil)))))
theorem m_gates (K : PySem.W.Frag) : MonoF F_gates := by
  unfold F_gates
  exact mkF_mono (s_gates K)
def f_lacking : FS := (sSeq (sAsg (eVar 0) (gT (gsCons (gN 2) (gsCons (gN 3) gsNil)))) (sRet (eUn tupD (eL (fComp 1000000 (fZip (eVar 1) (eVar 3)) [4, 5] (gT (gsCons (gN 4) (gsCons (gN 5) gsNil))) fYes (eBin (gI fun i j => i - j) (eVar 5) (eVar 4)))))))
@[irreducible] def F_lacking : FF := mkF 2 6 f_lacking
def f_bounds_at : FS := (sSeq (sOwn dNil 5) (sSeq (sIf (fTest (eBin gIsNot (eVar 4) (eC .none))) (sApp 5 (eVar 4)) sSkip) (sSeq (sIf (fOr (fTest (eBin gEq (eVar 0) (eC (.str "ring")))) (fTest (eBin (gC fun i j => decide (j < i)) (eVar 3) (eC (.int 0))))) (sApp 5 (eBin gIx (eVar 1) (eBin (gI fun i j => i - j) (eVar 3) (eC (.int 1))))) sSkip) (sSeq (sIf (fTest (eBin (gC fun i j => decide (i < j)) (eVar 3) (eCB (g1 lenD) (dCons (eVar 2) dNil)))) (sApp 5 (eBin gIx (eVar 2) (eVar 3))) sSkip) (sRetO 5)))))
@[irreducible] def F_bounds_at : FF := mkF 5 6 f_bounds_at
def f_moved : FS := (sSeq (sAsg (eVar 0) (gT (gsCons (gN 4) (gsCons (gN 5) gsNil)))) (sSeq (sAsg (eTup (dCons (eVar 2) (dCons (eCall F_lacking (aCons (eVar 0) (aCons (eVar 2) aNil))) dNil))) (gT (gsCons (gN 6) (gsCons (gN 7) gsNil)))) (sSeq (sIf (fTest (eBin gEq (eVar 3) (eC (.str "back")))) (sAsg (eTup (dCons (eVar 7) (dCons (eVar 6) dNil))) (gT (gsCons (gN 6) (gsCons (gN 7) gsNil)))) sSkip) (sRet (eUn tupD (eL (fComp 1000000 (fEnum (eVar 1)) [8, 9] (gT (gsCons (gN 8) (gsCons (gN 9) gsNil))) fYes (eCB minD (dCons (eCall F_bounds_at (aCons (eVar 4) (aCons (eVar 6) (aCons (eVar 7) (aCons (eVar 8) (aCons (eVar 9) aNil)))))) dNil)))))))))
@[irreducible] def F_moved : FF := mkF 4 10 f_moved
def f_beat_counts : FS := (sSeq (sAsg (eCall F_moved (aCons (eVar 0) (aCons (eVar 1) (aCons (eVar 2) (aCons (eVar 3) aNil))))) (gN 4)) (sRet (eIf (fTest (eBin gEq (eVar 3) (eC (.str "forth")))) (eVar 4) (eUn tupD (eL (fComp 1000000 (fIt (eVar 4)) [5] (gN 5) fYes (eUn negD (eVar 5))))))))
@[irreducible] def F_beat_counts : FF := mkF 4 6 f_beat_counts
end Kd
namespace Kd
open PySem PySem.Spec PyProof.Rows L2 Xg Dv
theorem comp_at {g : FG} {te : FE} {ρ : List Sl} {Q : List PyData → Prop} (h : Nat → PyData) : ∀ (ds acc : List PyData) (k : Nat), (∀ i d, ds[i]? = some d → ∀ P : PyData → Prop, P (h (k + i)) → g d ρ fun ρ' => te ρ' P) → Q (acc ++ (List.range' k ds.length).map h) → compD g fYes te ρ ds acc Q
  | [], acc, k, _, q => by
    rw [List.length_nil, List.range'_zero, List.map_nil, List.append_nil] at q
    exact q
  | d :: ds, acc, k, hs, q => hs 0 d rfl (fun y => compD g fYes te ρ ds (acc ++ [y]) Q) (comp_at h ds _ (k + 1) (fun i e he P hp => hs (i + 1) e (by simpa using he) P (by rw [show k + (i + 1) = k + 1 + i by omega]; exact hp)) (by
    rw [List.append_assoc]
    rw [List.length_cons, List.range'_succ, List.map_cons] at q
    exact q))
def vec (n : Nat) (f : Nat → Int) : List Int := (List.range n).map f
theorem vec_len {n : Nat} {f : Nat → Int} : (vec n f).length = n := by unfold vec; rw [List.length_map, List.length_range]
theorem vec_at {n i : Nat} {f : Nat → Int} (h : i < n) : (vec n f)[i]? = some (f i) := by
  unfold vec
  rw [List.getElem?_map, List.getElem?_range h]
  rfl
theorem vec_get {n i : Nat} {f : Nat → Int} (h : i < n) : (vec n f).getD i 0 = f i := by
  rw [List.getD_eq_getElem?_getD, vec_at h]
  rfl
theorem vec_ext {n : Nat} {f g : Nat → Int} (h : ∀ i, i < n → f i = g i) : vec n f = vec n g := by
  unfold vec
  exact List.map_congr_left fun i hi => h i (List.mem_range.mp hi)
theorem list_vec (l : List Int) : l = vec l.length fun i => l.getD i 0 := by
  apply List.ext_getElem?
  intro i
  by_cases h : i < l.length
  · rw [vec_at h, List.getD_eq_getElem?_getD, List.getElem?_eq_getElem h]
    rfl
  · rw [List.getElem?_eq_none (by omega), List.getElem?_eq_none (by rw [vec_len]; omega)]
def sqd (k : Bool) (ds : List PyData) : PyData := match k with
  | true => .tuple ds
  | false => .list ds
abbrev iq (k : Bool) (ns : List Int) : PyData := sqd k (ns.map PyData.int)
def oI : Option Int → PyData
  | none => .none
  | some i => .int i
def fm (row : Bool) : Str := if row = true then "row" else "ring"
def wy (forth : Bool) : Str := if forth = true then "forth" else "back"
def ln (k row : Bool) (rooms : List Int) : PyData := sqd k [.str (fm row), iq k rooms]
theorem fm_row {row : Bool} : decide (fm row = "row") = row := by cases row <;> decide
theorem fm_ring {row : Bool} : decide (fm row = "ring") = !row := by cases row <;> decide
theorem wy_forth {b : Bool} : decide (wy b = "forth") = b := by cases b <;> decide
theorem wy_back {b : Bool} : decide (wy b = "back") = !b := by cases b <;> decide
theorem len_i (ns : List Int) : (ns.map PyData.int).length = ns.length := List.length_map ..
def gts (row : Bool) (n : Nat) : Nat := if row = true then n + 1 else n
theorem comp_vec {g : FG} {te : FE} {ρ : List Sl} {Q : List PyData → Prop} {ds : List PyData} {n : Nat} (f : Nat → Int) (hn : ds.length = n) (hs : ∀ i d, ds[i]? = some d → ∀ P : PyData → Prop, P (.int (f i)) → g d ρ fun ρ' => te ρ' P) (q : Q ((vec n f).map PyData.int)) : compD g fYes te ρ ds [] Q := by
  refine comp_at (fun i => .int (f i)) ds [] 0 (fun i d hd P hp => hs i d hd P (by rw [Nat.zero_add] at hp; exact hp)) ?_
  rw [hn, List.nil_append, ← List.range_eq_range']
  unfold vec at q
  rw [List.map_map] at q
  exact q
theorem map_at {ns : List Int} {i : Nat} {d : PyData} (h : (ns.map PyData.int)[i]? = some d) : i < ns.length ∧ d = .int (ns.getD i 0) := by
  rw [List.getElem?_map] at h
  cases e : ns[i]? with
  | none => rw [e] at h; cases h
  | some z =>
    rw [e] at h
    have h : PyData.int z = d := Option.some.inj h
    refine ⟨(List.getElem?_eq_some_iff.mp e).1, ?_⟩
    rw [List.getD_eq_getElem?_getD, e, ← h]
    rfl
theorem zip_at {a b : List PyData} {i : Nat} {d : PyData} (h : (zipD a b)[i]? = some d) : ∃ x y, a[i]? = some x ∧ b[i]? = some y ∧ d = .tuple [x, y] := by
  unfold zipD at h
  rw [List.getElem?_zipWith] at h
  cases ea : a[i]? with
  | none => rw [ea] at h; cases h
  | some x =>
    cases eb : b[i]? with
    | none => rw [ea, eb] at h; cases h
    | some y =>
      rw [ea, eb] at h
      exact ⟨x, y, rfl, rfl, (Option.some.inj h).symm⟩
theorem zip_len {a b : List PyData} {n : Nat} (ha : a.length = n) (hb : b.length = n) : (zipD a b).length = n := by
  unfold zipD
  rw [List.length_zipWith, ha, hb, Nat.min_self]
theorem enum_at {ds : List PyData} {i : Nat} {d : PyData} (h : (enumD 0 ds)[i]? = some d) : ∃ x, ds[i]? = some x ∧ d = .tuple [.int (i : Nat), x] := by
  rw [enumD_at, Nat.zero_add] at h
  cases e : ds[i]? with
  | none => rw [e] at h; cases h
  | some x =>
    rw [e] at h
    exact ⟨x, rfl, (Option.some.inj h).symm⟩
theorem gates_of {k row : Bool} {rooms : List Int} {Q : PyData → Prop} (q : Q (.int (gts row rooms.length : Nat))) : F_gates [.dt (ln k row rooms)] Q := by
  have e : ∀ (P : PyData → Prop), P (.int ((gts row rooms.length : Nat) : Int)) → (if decide (fm row = "row") = true then P (.int (((rooms.map PyData.int).length : Nat) + 1)) else P (.int ((rooms.map PyData.int).length : Nat))) := fun P hp => by
    rw [fm_row, len_i]
    cases row with
    | true => exact hp
    | false => exact hp
  unfold F_gates
  cases k with
  | true => exact ⟨rfl, e Q q⟩
  | false => exact ⟨rfl, e Q q⟩
theorem lacking_of {k ks row : Bool} {rooms hs : List Int} {Q : PyData → Prop} (hk : ks = true ∨ k = k) (hl : hs.length = rooms.length) (hz : hs.length ≤ 1000000) (q : Q (iq true (vec rooms.length fun i => rooms.getD i 0 - hs.getD i 0))) : F_lacking [.dt (ln k row rooms), .dt (iq ks hs)] Q := by
  have main : ∀ ρ, (zipD (hs.map PyData.int) (rooms.map PyData.int)).length ≤ 1000000 ∧ compD (gT (gsCons (gN 4) (gsCons (gN 5) gsNil))) fYes (eBin (gI fun i j => i - j) (eVar 5) (eVar 4)) [.dt (ln k row rooms), .dt (iq ks hs), .dt (.str (fm row)), .dt ρ, .no, .no] (zipD (hs.map PyData.int) (rooms.map PyData.int)) [] (fun ds => Q (.tuple ds)) := fun ρ => by
    have lz : (zipD (hs.map PyData.int) (rooms.map PyData.int)).length = rooms.length := zip_len (by rw [len_i, hl]) (len_i _)
    refine ⟨by omega, comp_vec _ lz (fun i d hd P hp => ?_) q⟩
    obtain ⟨x, y, e1, e2, rfl⟩ := zip_at hd
    obtain ⟨_, rfl⟩ := map_at e1
    obtain ⟨_, rfl⟩ := map_at e2
    exact hp
  unfold F_lacking
  cases k with
  | true =>
    cases ks with
    | true => exact ⟨rfl, main _⟩
    | false => exact ⟨rfl, main _⟩
  | false =>
    cases ks with
    | true => exact ⟨rfl, main _⟩
    | false => exact ⟨rfl, main _⟩
def mn : List Int → Int
  | [] => 0
  | [x] => x
  | x :: y :: r => if x ≤ mn (y :: r) then x else mn (y :: r)
theorem mn_mem : ∀ {l : List Int}, l ≠ [] → mn l ∈ l
  | [x], _ => by simp [mn]
  | x :: y :: r, _ => by
    have h := mn_mem (l := y :: r) (by simp)
    rw [mn]
    split
    · exact List.mem_cons_self ..
    · exact List.mem_cons_of_mem _ h
theorem mn_le : ∀ {l : List Int} {y : Int}, y ∈ l → mn l ≤ y
  | [x], y, h => by
    rw [List.mem_singleton.mp h]
    exact Int.le_refl _
  | x :: z :: r, y, h => by
    rw [mn]
    rcases List.mem_cons.mp h with rfl | h
    · split <;> omega
    · have g := mn_le (l := z :: r) h
      split <;> omega
theorem mn_is {l : List Int} {m : Int} (h : m ∈ l) (g : ∀ y ∈ l, m ≤ y) : m = mn l := Int.le_antisymm (g _ (mn_mem fun z => by rw [z] at h; cases h)) (mn_le h)
theorem min_of {l : List Int} {Q : PyData → Prop} (h : l ≠ []) (q : Q (.int (mn l))) : minD [.list (l.map PyData.int)] Q :=
  ⟨l, rfl, List.length_pos_iff.mpr h, fun m h1 h2 => by rw [mn_is h1 h2]; exact q⟩
def prev (be : List Int) (j : Nat) : Int := if j = 0 then be.getD (be.length - 1) 0 else be.getD (j - 1) 0
def bnd (ring : Bool) (be ah : List Int) (j : Nat) (w : Option Int) : List Int := w.toList ++ (if (ring || decide (0 < j)) = true then [prev be j] else []) ++ (if j < ah.length then [ah.getD j 0] else [])
theorem atI_i {ns : List Int} {i : Nat} (h : i < ns.length) : L2.atI (ns.map PyData.int) ((i : Nat) : Int) = some (.int (ns.getD i 0)) := atI_nat (by
  rw [List.getElem?_map, List.getElem?_eq_getElem h, List.getD_eq_getElem?_getD, List.getElem?_eq_getElem h]
  rfl)
theorem atI_prev {ns : List Int} {j : Nat} (h0 : 0 < ns.length) (h : j ≤ ns.length) : L2.atI (ns.map PyData.int) ((j : Nat) - 1 : Int) = some (.int (prev ns j)) := by
  unfold prev
  by_cases z : j = 0
  · subst z
    rw [if_pos rfl]
    have e : ((0 : Nat) : Int) - 1 = -1 := by omega
    rw [e]
    have hne : ns ≠ [] := List.length_pos_iff.mp h0
    have e1 : ns.getD (ns.length - 1) 0 = ns.getLast hne := by
      rw [List.getLast_eq_getElem, List.getD_eq_getElem?_getD, List.getElem?_eq_getElem (show ns.length - 1 < ns.length by omega)]
      rfl
    have e2 : ns.map PyData.int = ns.dropLast.map PyData.int ++ [.int (ns.getD (ns.length - 1) 0)] := by
      rw [e1]
      have z := congrArg (List.map PyData.int) (List.dropLast_concat_getLast hne)
      rw [List.map_append] at z
      exact z.symm
    rw [e2]
    exact atI_last _ _
  · rw [if_neg z, show ((j : Nat) : Int) - 1 = ((j - 1 : Nat) : Int) by omega]
    exact atI_i (by omega)
theorem bounds_of {kb ka row : Bool} {be ah : List Int} {j : Nat} {w : Option Int} {Q : PyData → Prop} (h0 : 0 < be.length) (hj : j ≤ be.length) (q : Q (.list ((bnd (!row) be ah j w).map PyData.int))) :
    F_bounds_at [.dt (.str (fm row)), .dt (iq kb be), .dt (iq ka ah), .dt (.int (j : Nat)), .dt (oI w)] Q := by
  have ix1 : ∀ P : PyData → Prop, P (.int (prev be j)) → gIx (iq kb be) (.int ((j : Nat) - 1 : Int)) P := fun P hp => by
    cases kb with
    | true =>
      show atQ (L2.atI _ _) P
      rw [atI_prev h0 hj]
      exact hp
    | false =>
      show atQ (L2.atI _ _) P
      rw [atI_prev h0 hj]
      exact hp
  have ix2 : ∀ P : PyData → Prop, j < ah.length → P (.int (ah.getD j 0)) → gIx (iq ka ah) (.int (j : Nat)) P := fun P hl hp => by
    cases ka with
    | true =>
      show atQ (L2.atI _ _) P
      rw [atI_i hl]
      exact hp
    | false =>
      show atQ (L2.atI _ _) P
      rw [atI_i hl]
      exact hp
  have ln2 : ∀ P : PyData → Prop, P (.int (ah.length : Nat)) → lenD (iq ka ah) P := fun P hp => by
    cases ka with
    | true => show P (.int ((ah.map PyData.int).length : Nat)); rw [len_i]; exact hp
    | false => show P (.int ((ah.map PyData.int).length : Nat)); rw [len_i]; exact hp
  have s3 : ∀ (acc : List Int), acc.length < 1000 → Q (.list ((acc ++ if j < ah.length then [ah.getD j 0] else []).map PyData.int)) →
      sSeq (sIf (fTest (eBin (gC fun i j => decide (i < j)) (eVar 3) (eCB (g1 lenD) (dCons (eVar 2) dNil)))) (sApp 5 (eBin gIx (eVar 2) (eVar 3))) sSkip) (sRetO 5)
        [.dt (.str (fm row)), .dt (iq kb be), .dt (iq ka ah), .dt (.int (j : Nat)), .dt (oI w), .own (acc.map PyData.int)] { nx := fun _ => Q .none, rt := Q, rl := fun ds => Q (.list ds) } := fun acc ha hq => by
    refine ln2 _ ?_
    show if decide ((j : Int) < (ah.length : Nat)) = true then _ else _
    by_cases z : j < ah.length
    · rw [if_pos z] at hq
      rw [if_pos (decide_eq_true (by omega))]
      refine ix2 _ z ⟨by rw [len_i]; omega, ?_⟩
      rw [List.map_append] at hq
      exact hq
    · rw [if_neg z, List.append_nil] at hq
      rw [if_neg (by rw [decide_eq_true_eq]; omega)]
      exact hq
  have s2 : ∀ (acc : List Int), acc.length < 900 → Q (.list (((acc ++ if ((!row) || decide (0 < j)) = true then [prev be j] else []) ++ if j < ah.length then [ah.getD j 0] else []).map PyData.int)) →
      sSeq (sIf (fOr (fTest (eBin gEq (eVar 0) (eC (.str "ring")))) (fTest (eBin (gC fun i j => decide (j < i)) (eVar 3) (eC (.int 0))))) (sApp 5 (eBin gIx (eVar 1) (eBin (gI fun i j => i - j) (eVar 3) (eC (.int 1))))) sSkip)
        (sSeq (sIf (fTest (eBin (gC fun i j => decide (i < j)) (eVar 3) (eCB (g1 lenD) (dCons (eVar 2) dNil)))) (sApp 5 (eBin gIx (eVar 2) (eVar 3))) sSkip) (sRetO 5))
        [.dt (.str (fm row)), .dt (iq kb be), .dt (iq ka ah), .dt (.int (j : Nat)), .dt (oI w), .own (acc.map PyData.int)] { nx := fun _ => Q .none, rt := Q, rl := fun ds => Q (.list ds) } := fun acc ha hq => by
    have yes : ((!row) || decide (0 < j)) = true → sApp 5 (eBin gIx (eVar 1) (eBin (gI fun i j => i - j) (eVar 3) (eC (.int 1))))
        [.dt (.str (fm row)), .dt (iq kb be), .dt (iq ka ah), .dt (.int (j : Nat)), .dt (oI w), .own (acc.map PyData.int)] { nx := fun ρ' => sSeq (sIf (fTest (eBin (gC fun i j => decide (i < j)) (eVar 3) (eCB (g1 lenD) (dCons (eVar 2) dNil)))) (sApp 5 (eBin gIx (eVar 2) (eVar 3))) sSkip) (sRetO 5) ρ' { nx := fun _ => Q .none, rt := Q, rl := fun ds => Q (.list ds) }, rt := Q, rl := fun ds => Q (.list ds) } := fun z => by
      rw [if_pos z] at hq
      refine ix1 _ ⟨by rw [len_i]; omega, ?_⟩
      have h := s3 (acc ++ [prev be j]) (by rw [List.length_append]; simp; omega) hq
      rw [List.map_append] at h
      exact h
    show if decide (fm row = "ring") = true then _ else (if decide ((0 : Int) < (j : Nat)) = true then _ else _)
    rw [fm_ring]
    cases row with
    | false =>
      rw [if_pos (show (!false) = true from rfl)]
      exact yes rfl
    | true =>
      rw [if_neg (by decide)]
      by_cases z : 0 < j
      · rw [if_pos (decide_eq_true (by omega))]
        exact yes (by simpa using z)
      · rw [if_neg (by rw [decide_eq_true_eq]; omega)]
        rw [if_neg (by simpa using z), List.append_nil] at hq
        exact s3 acc (by omega) hq
  unfold F_bounds_at
  refine ⟨rfl, ?_⟩
  unfold bnd at q
  cases w with
  | none => exact s2 [] (by decide) q
  | some x => exact ⟨Nat.zero_lt_succ _, s2 [x] (by show 1 < 900; decide) q⟩
end Kd
namespace Kd
open PySem PySem.Spec PyProof.Rows L2 Xg Dv
def gone (row : Bool) (be ah : List Int) (ws : List (Option Int)) (j : Nat) : Int := mn (bnd (!row) be ah j (ws.getD j none))
def lackL (rooms hs : List Int) : List Int := vec rooms.length fun i => rooms.getD i 0 - hs.getD i 0
def mvd (row : Bool) (rooms : List Int) (ws : List (Option Int)) (hs : List Int) (forth : Bool) : List Int :=
  vec ws.length (if forth = true then gone row hs (lackL rooms hs) ws else gone row (lackL rooms hs) hs ws)
structure Ft (row : Bool) (rooms : List Int) (ws : List (Option Int)) (hs : List Int) : Prop where
  n0 : 0 < rooms.length
  n2 : row = false → 2 ≤ rooms.length
  nz : rooms.length ≤ 1000
  nw : ws.length = gts row rooms.length
  nh : hs.length = rooms.length
theorem bnd_ne {row : Bool} {be ah : List Int} {ws : List (Option Int)} {w : Option Int} {n j : Nat} (hb : be.length = n) (ha : ah.length = n) (n0 : 0 < n) : bnd (!row) be ah j w ≠ [] := fun e => by
  unfold bnd at e
  rw [List.append_eq_nil_iff, List.append_eq_nil_iff] at e
  obtain ⟨⟨_, e2⟩, e3⟩ := e
  by_cases z : j < ah.length
  · rw [if_pos z] at e3
    cases e3
  · rw [if_pos (by cases row <;> simp; omega)] at e2
    cases e2
theorem oI_at {ws : List (Option Int)} {i : Nat} {d : PyData} (h : (ws.map oI)[i]? = some d) : i < ws.length ∧ d = oI (ws.getD i none) := by
  rw [List.getElem?_map] at h
  cases e : ws[i]? with
  | none => rw [e] at h; cases h
  | some z =>
    rw [e] at h
    have h : oI z = d := Option.some.inj h
    refine ⟨(List.getElem?_eq_some_iff.mp e).1, ?_⟩
    rw [List.getD_eq_getElem?_getD, e, ← h]
    rfl
theorem moved_of {k kw ks row : Bool} {rooms hs : List Int} {ws : List (Option Int)} {forth : Bool} {Q : PyData → Prop} (hk : ks = true ∨ k = k) (F : Ft row rooms ws hs) (q : Q (iq true (mvd row rooms ws hs forth))) :
    F_moved [.dt (ln k row rooms), .dt (sqd kw (ws.map oI)), .dt (iq ks hs), .dt (.str (wy forth))] Q := by
  have n0 := F.n0
  have nz := F.nz
  have nw := F.nw
  have nh := F.nh
  have lk : (lackL rooms hs).length = rooms.length := vec_len
  have jle : ∀ j, j < ws.length → j ≤ rooms.length := fun j h => by
    rw [nw] at h
    unfold gts at h
    split at h <;> omega
  have fin : ∀ (kb ka : Bool) (be ah : List Int) (rr : PyData), be.length = rooms.length → ah.length = rooms.length → Q (iq true (vec ws.length (gone row be ah ws))) →
      sRet (eUn tupD (eL (fComp 1000000 (fEnum (eVar 1)) [8, 9] (gT (gsCons (gN 8) (gsCons (gN 9) gsNil))) fYes (eCB minD (dCons (eCall F_bounds_at (aCons (eVar 4) (aCons (eVar 6) (aCons (eVar 7) (aCons (eVar 8) (aCons (eVar 9) aNil)))))) dNil)))))
        [.dt (ln k row rooms), .dt (sqd kw (ws.map oI)), .dt (iq ks hs), .dt (.str (wy forth)), .dt (.str (fm row)), .dt rr, .dt (iq kb be), .dt (iq ka ah), .no, .no] { nx := fun _ => Q .none, rt := Q, rl := fun ds => Q (.list ds) } := fun kb ka be ah rr hb ha hq => by
    have main : (enumD 0 (ws.map oI)).length ≤ 1000000 ∧ compD (gT (gsCons (gN 8) (gsCons (gN 9) gsNil))) fYes (eCB minD (dCons (eCall F_bounds_at (aCons (eVar 4) (aCons (eVar 6) (aCons (eVar 7) (aCons (eVar 8) (aCons (eVar 9) aNil)))))) dNil))
        [.dt (ln k row rooms), .dt (sqd kw (ws.map oI)), .dt (iq ks hs), .dt (.str (wy forth)), .dt (.str (fm row)), .dt rr, .dt (iq kb be), .dt (iq ka ah), .no, .no] (enumD 0 (ws.map oI)) [] (fun ds => Q (.tuple ds)) := by
      have le : (enumD 0 (ws.map oI)).length = ws.length := by rw [enumD_len, List.length_map]
      have := jle
      refine ⟨by rw [le, nw]; unfold gts; split <;> omega, comp_vec _ le (fun i d hd P hp => ?_) hq⟩
      obtain ⟨x, e1, rfl⟩ := enum_at hd
      obtain ⟨hi, rfl⟩ := oI_at e1
      exact bounds_of (by omega) (by rw [hb]; exact jle i hi) (min_of (bnd_ne hb ha n0 (ws := ws)) hp)
    cases kw with
    | true => exact main
    | false => exact main
  have step : ∀ rr, sSeq (sAsg (eTup (dCons (eVar 2) (dCons (eCall F_lacking (aCons (eVar 0) (aCons (eVar 2) aNil))) dNil))) (gT (gsCons (gN 6) (gsCons (gN 7) gsNil)))) (sSeq (sIf (fTest (eBin gEq (eVar 3) (eC (.str "back")))) (sAsg (eTup (dCons (eVar 7) (dCons (eVar 6) dNil))) (gT (gsCons (gN 6) (gsCons (gN 7) gsNil)))) sSkip) (sRet (eUn tupD (eL (fComp 1000000 (fEnum (eVar 1)) [8, 9] (gT (gsCons (gN 8) (gsCons (gN 9) gsNil))) fYes (eCB minD (dCons (eCall F_bounds_at (aCons (eVar 4) (aCons (eVar 6) (aCons (eVar 7) (aCons (eVar 8) (aCons (eVar 9) aNil)))))) dNil)))))))
      [.dt (ln k row rooms), .dt (sqd kw (ws.map oI)), .dt (iq ks hs), .dt (.str (wy forth)), .dt (.str (fm row)), .dt rr, .no, .no, .no, .no] { nx := fun _ => Q .none, rt := Q, rl := fun ds => Q (.list ds) } := fun rr => by
    refine lacking_of hk nh (by omega) ?_
    show if decide (wy forth = "back") = true then _ else _
    rw [wy_back]
    unfold mvd at q
    cases forth with
    | true => exact fin ks true hs (lackL rooms hs) rr nh lk q
    | false => exact fin true ks (lackL rooms hs) hs rr lk nh q
  unfold F_moved
  cases k with
  | true => exact ⟨rfl, step _⟩
  | false => exact ⟨rfl, step _⟩
end Kd
namespace Kd
open PySem PySem.Spec PyProof.Rows L2 Xg Dv
def cnt (row : Bool) (rooms : List Int) (ws : List (Option Int)) (hs : List Int) (forth : Bool) : List Int :=
  vec ws.length fun j => if forth = true then (mvd row rooms ws hs forth).getD j 0 else -(mvd row rooms ws hs forth).getD j 0
theorem counts_of {k kw ks row : Bool} {rooms hs : List Int} {ws : List (Option Int)} {forth : Bool} {Q : PyData → Prop} (hk : ks = true ∨ k = k) (F : Ft row rooms ws hs) (q : Q (iq true (cnt row rooms ws hs forth))) :
    F_beat_counts [.dt (ln k row rooms), .dt (sqd kw (ws.map oI)), .dt (iq ks hs), .dt (.str (wy forth))] Q := by
  have lm : (mvd row rooms ws hs forth).length = ws.length := vec_len
  have lw : ws.length ≤ 1001 := by
    rw [F.nw]
    have := F.nz
    unfold gts
    split <;> omega
  unfold F_beat_counts
  refine ⟨rfl, moved_of hk F ?_⟩
  show if decide (wy forth = "forth") = true then Q (iq true (mvd row rooms ws hs forth)) else _
  rw [wy_forth]
  unfold cnt at q
  cases forth with
  | true =>
    rw [if_pos rfl]
    rw [list_vec (mvd row rooms ws hs true), lm]
    exact q
  | false =>
    rw [if_neg Bool.false_ne_true]
    have ll : ((mvd row rooms ws hs false).map PyData.int).length = ws.length := by rw [len_i, lm]
    refine (show ((mvd row rooms ws hs false).map PyData.int).length ≤ 1000000 ∧ _ from ⟨by omega, comp_vec _ ll (fun i d hd P hp => ?_) q⟩)
    obtain ⟨_, rfl⟩ := map_at hd
    exact hp
end Kd
namespace Kd
open PySem PySem.Spec PyProof.Rows L2 Xg Dv
def ledL (hs cs : List Int) : List Int := vec hs.length fun i => hs.getD i 0 + cs.getD i 0 - cs.getD ((i + 1) % cs.length) 0
def btL (row : Bool) (rooms : List Int) (ws : List (Option Int)) (hs : List Int) (forth : Bool) : List Int := ledL hs (cnt row rooms ws hs forth)
end Kd
namespace Kd
open PySem PySem.Spec PyProof.Rows L2 Xg Dv
theorem btL_len {row : Bool} {rooms hs : List Int} {ws : List (Option Int)} {forth : Bool} : (btL row rooms ws hs forth).length = hs.length := vec_len
theorem Ft.next {row : Bool} {rooms hs : List Int} {ws : List (Option Int)} {forth : Bool} (F : Ft row rooms ws hs) : Ft row rooms ws (btL row rooms ws hs forth) := ⟨F.n0, F.n2, F.nz, F.nw, btL_len.trans F.nh⟩
def addL (a b : List Int) : List Int := vec a.length fun i => a.getD i 0 + b.getD i 0
def ledR (row : Bool) (rooms : List Int) : List (Bool × List (Option Int)) → List Int → List Int → List Int × List Int
  | [], h, c => (h, c)
  | (b, ws) :: r, h, c => ledR row rooms r (ledL h (cnt row rooms ws h b)) (addL c (cnt row rooms ws h b))
end Kd
namespace Kd
open PySem PySem.Spec PyProof.Rows L2 Xg Dv
variable {b : Int}
end Kd
namespace Kd
open PySem PySem.Spec PyProof.Rows L2 Xg Dv
theorem comp_any {α : Type} {g : FG} {te : FE} {ρ : List Sl} {Q : List PyData → Prop} (e : α → PyData) (R : PyData → Prop) : ∀ (xs : List α) (acc : List PyData), (∀ x ∈ xs, ∀ P : PyData → Prop, (∀ y, R y → P y) → g (e x) ρ fun ρ' => te ρ' P) →
    (∀ ys, ys.length = xs.length → (∀ y ∈ ys, R y) → Q (acc ++ ys)) → compD g fYes te ρ (xs.map e) acc Q
  | [], acc, _, q => by
    have z := q [] rfl (fun y hy => nomatch hy)
    rw [List.append_nil] at z
    exact z
  | x :: xs, acc, hs, q => hs x (List.mem_cons_self ..) (fun y => compD g fYes te ρ (xs.map e) (acc ++ [y]) Q) fun y hy => comp_any e R xs _ (fun z hz => hs z (List.mem_cons_of_mem _ hz)) fun ys hl hr => by
    rw [List.append_assoc]
    refine q (y :: ys) (by rw [List.length_cons, List.length_cons, hl]) fun z hz => ?_
    rcases List.mem_cons.mp hz with rfl | hz
    · exact hy
    · exact hr z hz
theorem for_inv {g : FG} {f : FS} {E : DEnds} (I : List Sl → Prop) : ∀ (ds : List PyData) (ρ : List Sl), (∀ ρ d (N : List Sl → Prop), I ρ → d ∈ ds → (∀ ρ', I ρ' → N ρ') → g d ρ fun ρ1 => f ρ1 { E with nx := N, ct := N, bk := E.nx }) → I ρ → (∀ ρ, I ρ → E.nx ρ) → forD g f ds ρ E
  | [], ρ, _, h0, he => he ρ h0
  | d :: ds, ρ, hs, h0, he => hs ρ d (fun ρ2 => forD g f ds ρ2 E) h0 (List.mem_cons_self ..) fun ρ' h => for_inv I ds ρ' (fun ρ e N i m => hs ρ e N i (List.mem_cons_of_mem _ m)) h he
theorem shal_iq {n : Nat} {k : Bool} {l : List Int} (h : l.length ≤ 1000) : shal (n + 1) (iq k l) = true := by
  have z : (l.map PyData.int).all (shal n) = true := by
    rw [List.all_eq_true]
    intro d hd
    obtain ⟨x, _, rfl⟩ := List.mem_map.mp hd
    cases n <;> rfl
  cases k with
  | true =>
    show (decide ((l.map PyData.int).length ≤ 1000) && (l.map PyData.int).all (shal n)) = true
    rw [z, len_i, decide_eq_true h]
    rfl
  | false =>
    show (decide ((l.map PyData.int).length ≤ 1000) && (l.map PyData.int).all (shal n)) = true
    rw [z, len_i, decide_eq_true h]
    rfl
theorem lay_flat {α : Type} (c : α → PyData) (h1 : ∀ a, (c a).canLay0 = true) (h2 : ∀ a, (c a).depth = 0) : ∀ ms : List α, PyData.canLayAll0 (ms.map c) = true ∧ PyData.depthAll (ms.map c) = 0
  | [] => ⟨rfl, rfl⟩
  | m :: r => by
    obtain ⟨g1, g2⟩ := lay_flat c h1 h2 r
    refine ⟨?_, ?_⟩
    · rw [List.map_cons, PyData.canLayAll0, h1, g1]
      rfl
    · rw [List.map_cons, PyData.depthAll, h2, g2]
      rfl
theorem shp_iq {k : Bool} {l : List Int} : SeqAt.shaped (iq k l) = true := by
  obtain ⟨g1, g2⟩ := lay_flat PyData.int (fun _ => by simp [PyData.canLay0]) (fun _ => by simp [PyData.depth]) l
  cases k with
  | true =>
    show SeqAt.shaped (.tuple (l.map PyData.int)) = true
    unfold SeqAt.shaped
    rw [PyData.canLay0, PyData.depth, g1, g2]
    rfl
  | false =>
    show SeqAt.shaped (.list (l.map PyData.int)) = true
    unfold SeqAt.shaped
    rw [PyData.canLay0, PyData.depth, g1, g2]
    rfl
theorem range_len {lo : Int} {n : Nat} : (rangeD lo n).length = n := by
  unfold rangeD
  rw [List.length_map, List.length_range]
end Kd
namespace Kd
open PySem PySem.Spec PyProof.Rows L2 Xg Dv
def Nn (l : List Int) : Prop := ∀ i, 0 ≤ l.getD i 0
def Wn (ws : List (Option Int)) : Prop := ∀ j x, ws.getD j none = some x → 0 ≤ x
structure Vd (rooms hs : List Int) : Prop where
  len : hs.length = rooms.length
  lo : ∀ i, i < rooms.length → 0 ≤ hs.getD i 0
  hi : ∀ i, i < rooms.length → hs.getD i 0 ≤ rooms.getD i 0
theorem get_out {l : List Int} {i : Nat} (h : l.length ≤ i) : l.getD i 0 = 0 := by
  rw [List.getD_eq_getElem?_getD, List.getElem?_eq_none h]
  rfl
theorem Vd.nn {rooms hs : List Int} (h : Vd rooms hs) : Nn hs := fun i => by
  by_cases z : i < rooms.length
  · exact h.lo i z
  · rw [get_out (by rw [h.len]; omega)]
    exact Int.le_refl _
theorem Vd.lack {rooms hs : List Int} (h : Vd rooms hs) : Nn (lackL rooms hs) := fun i => by
  unfold lackL
  by_cases z : i < rooms.length
  · rw [vec_get z]
    have := h.hi i z
    omega
  · rw [get_out (by rw [vec_len]; omega)]
    exact Int.le_refl _
theorem prev_nn {be : List Int} {j : Nat} (h : Nn be) : 0 ≤ prev be j := by
  unfold prev
  split
  · exact h _
  · exact h _
section
variable {row : Bool} {be ah : List Int} {ws : List (Option Int)} {j n : Nat}
theorem mem_bnd {ring : Bool} {w : Option Int} {x : Int} : x ∈ bnd ring be ah j w ↔ (w = some x ∨ ((ring || decide (0 < j)) = true ∧ x = prev be j) ∨ (j < ah.length ∧ x = ah.getD j 0)) := by
  unfold bnd
  rw [List.mem_append, List.mem_append]
  constructor
  · rintro ((h | h) | h)
    · left
      cases w with
      | none => simp at h
      | some y => simp at h; rw [h]
    · right; left
      split at h
      · exact ⟨by assumption, List.mem_singleton.mp h⟩
      · simp at h
    · right; right
      split at h
      · exact ⟨by assumption, List.mem_singleton.mp h⟩
      · simp at h
  · rintro (h | ⟨h, e⟩ | ⟨h, e⟩)
    · subst h
      left; left
      simp
    · left; right
      rw [if_pos h, e]
      simp
    · right
      rw [if_pos h, e]
      simp
theorem gone_nn (hb : Nn be) (ha : Nn ah) (hw : Wn ws) (lb : be.length = n) (la : ah.length = n) (n0 : 0 < n) : 0 ≤ gone row be ah ws j := by
  have h := mn_mem (bnd_ne (row := row) (ws := ws) (w := ws.getD j none) (j := j) lb la n0)
  unfold gone
  rcases mem_bnd.mp h with e | ⟨_, e⟩ | ⟨_, e⟩
  · exact hw j _ e
  · rw [e]
    exact prev_nn hb
  · rw [e]
    exact ha _
theorem gone_a (h : j < ah.length) : gone row be ah ws j ≤ ah.getD j 0 := mn_le (mem_bnd.mpr (.inr (.inr ⟨h, rfl⟩)))
theorem gone_b (h : ((!row) || decide (0 < j)) = true) : gone row be ah ws j ≤ prev be j := mn_le (mem_bnd.mpr (.inr (.inl ⟨h, rfl⟩)))
theorem next_prev {i : Nat} (hi : i < n) (lb : be.length = n) : ((!row) || decide (0 < (i + 1) % gts row n)) = true ∧ prev be ((i + 1) % gts row n) = be.getD i 0 ∧ (i + 1) % gts row n < gts row n := by
  have g0 : 0 < gts row n := by
    unfold gts
    split <;> omega
  refine ⟨?_, ?_, Nat.mod_lt _ g0⟩
  · cases row with
    | false => rfl
    | true =>
      show (false || decide (0 < (i + 1) % (n + 1))) = true
      rw [Nat.mod_eq_of_lt (by omega)]
      simp
  · unfold prev
    cases row with
    | true =>
      show (if (i + 1) % (n + 1) = 0 then _ else be.getD ((i + 1) % (n + 1) - 1) 0) = _
      rw [Nat.mod_eq_of_lt (by omega), if_neg (by omega)]
      rfl
    | false =>
      show (if (i + 1) % n = 0 then be.getD (be.length - 1) 0 else be.getD ((i + 1) % n - 1) 0) = _
      by_cases z : i + 1 = n
      · rw [z, Nat.mod_self, if_pos rfl, lb, ← z]
        rfl
      · rw [Nat.mod_eq_of_lt (by omega), if_neg (by omega)]
        rfl
end
section
variable {row : Bool} {rooms hs : List Int} {ws : List (Option Int)} {forth : Bool}
theorem cnt_len : (cnt row rooms ws hs forth).length = ws.length := vec_len
theorem mvd_get {j : Nat} (h : j < ws.length) : (mvd row rooms ws hs forth).getD j 0 = if forth = true then gone row hs (lackL rooms hs) ws j else gone row (lackL rooms hs) hs ws j := by
  unfold mvd
  rw [vec_get h]
  cases forth <;> rfl
theorem cnt_get {j : Nat} (h : j < ws.length) : (cnt row rooms ws hs forth).getD j 0 = if forth = true then gone row hs (lackL rooms hs) ws j else -gone row (lackL rooms hs) hs ws j := by
  unfold cnt
  rw [vec_get h, mvd_get h]
  cases forth <;> rfl
theorem lack_len : (lackL rooms hs).length = rooms.length := vec_len
theorem lack_get {i : Nat} (h : i < rooms.length) : (lackL rooms hs).getD i 0 = rooms.getD i 0 - hs.getD i 0 := vec_get h
theorem bt_get (F : Ft row rooms ws hs) {i : Nat} (h : i < rooms.length) : (btL row rooms ws hs forth).getD i 0 = hs.getD i 0 + (cnt row rooms ws hs forth).getD i 0 - (cnt row rooms ws hs forth).getD ((i + 1) % gts row rooms.length) 0 := by
  unfold btL ledL
  rw [vec_get (by rw [F.nh]; exact h), cnt_len, F.nw]
theorem gate_lt (F : Ft row rooms ws hs) {i : Nat} (h : i < rooms.length) : i < ws.length := by
  rw [F.nw]
  unfold gts
  split <;> omega
theorem Vd.next (F : Ft row rooms ws hs) (V : Vd rooms hs) (W : Wn ws) : Vd rooms (btL row rooms ws hs forth) := by
  have key : ∀ i, i < rooms.length → 0 ≤ (btL row rooms ws hs forth).getD i 0 ∧ (btL row rooms ws hs forth).getD i 0 ≤ rooms.getD i 0 := fun i hi => by
    have gi := gate_lt F hi
    have lk := lack_get (hs := hs) hi
    rw [bt_get F hi]
    cases forth with
    | true =>
      obtain ⟨p1, p2, p3⟩ := next_prev (row := row) (be := hs) hi F.nh
      have q : (i + 1) % gts row rooms.length < ws.length := by
        rw [F.nw]
        exact p3
      rw [cnt_get gi, cnt_get q]
      have a1 := gone_nn (row := row) (j := i) V.nn V.lack W F.nh lack_len F.n0
      have a2 := gone_nn (row := row) (j := (i + 1) % gts row rooms.length) V.nn V.lack W F.nh lack_len F.n0
      have a3 := gone_a (row := row) (be := hs) (ah := lackL rooms hs) (ws := ws) (j := i) (by rw [lack_len]; exact hi)
      have a4 := gone_b (row := row) (be := hs) (ah := lackL rooms hs) (ws := ws) p1
      rw [p2] at a4
      simp only [if_pos]
      omega
    | false =>
      obtain ⟨p1, p2, p3⟩ := next_prev (row := row) (be := lackL rooms hs) hi lack_len
      have q : (i + 1) % gts row rooms.length < ws.length := by
        rw [F.nw]
        exact p3
      rw [cnt_get gi, cnt_get q]
      have a1 := gone_nn (row := row) (j := i) V.lack V.nn W lack_len F.nh F.n0
      have a2 := gone_nn (row := row) (j := (i + 1) % gts row rooms.length) V.lack V.nn W lack_len F.nh F.n0
      have a3 := gone_a (row := row) (be := lackL rooms hs) (ah := hs) (ws := ws) (j := i) (by rw [F.nh]; exact hi)
      have a4 := gone_b (row := row) (be := lackL rooms hs) (ah := hs) (ws := ws) p1
      rw [p2] at a4
      simp only [Bool.false_eq_true, if_false]
      omega
  exact ⟨btL_len.trans F.nh, fun i hi => (key i hi).1, fun i hi => (key i hi).2⟩
end
end Kd
namespace Kd
open PySem PySem.Spec PyProof.Rows L2 Xg Dv
@[irreducible] def f__law_line_0 : FS := (sRet (eTup (dCons (eIf (fAnd (fTest (eBin (gC fun i j => decide (j < i)) (eVar 2) (eC (.int 1)))) (fTest (eBin gEq (eCall F_take (aBox 0 (aCons (eC (.int 3)) aNil))) (eC (.int 0))))) (eC (.str "ring")) (eC (.str "row"))) (dCons (eVar 3) dNil))))
def t__law_line_0 (K : PySem.W.Frag) : TS := (tRet (tTup (tCons (tIf (tAnd (tTest (tOp (rI0 fun i j => .bl (decide (j < i))) (tVar 2) (tC (.int 1)))) (tTest (tOp (rEqX K) (tCallG (spD K 1 F_take) (tCons (tVar 0) (tCons (tC (.int 3)) tNil))) (tC (.int 0))))) (tC (.str "ring")) (tC (.str "row"))) (tCons (tVar 3) tNil))))
theorem s__law_line_0 (K : PySem.W.Frag) : SndS K (t__law_line_0 K) 1 f__law_line_0 := by
  unfold f__law_line_0
  exact (snds_ret (snd_tup (sndd_cons (snd_if (sndt_and (sndt_test (snd_op ops_C snd_var snd_int)) (sndt_test (snd_op ops_eq (snd_call m_take (snda_box (snda_cons snd_int snda_nil))) snd_int))) snd_str snd_str) (sndd_cons snd_var sndd_nil)) (by decide)))
@[irreducible] def f__law_line_1 : FS := (sSeq (sAsg (eUn tupD (eL (fComp 100 (fRange1 (eVar 2)) [4] (gN 4) fYes (eBin gIx (eLst (dCons (eC (.int 1)) (dCons (eC (.int 2)) (dCons (eC (.int 3)) (dCons (eBin gAdd (eC (.int 1)) (eCall F_take (aBox 0 (aCons (eC (.int 9)) aNil)))) dNil))))) (eCall F_take (aBox 0 (aCons (eC (.int 4)) aNil))))))) (gN 3)) f__law_line_0)
def t__law_line_1 (K : PySem.W.Frag) : TS := (tSeq (tAsg (tThen (tLc (iRng1 (tCons (tVar 2) tNil)) (gName 4) tYes (tOp (rIx K) (tLst (tCons (tC (.int 1)) (tCons (tC (.int 2)) (tCons (tC (.int 3)) (tCons (tOp (rAdd K) (tC (.int 1)) (tCallG (spD K 1 F_take) (tCons (tVar 0) (tCons (tC (.int 9)) tNil)))) tNil))))) (tCallG (spD K 1 F_take) (tCons (tVar 0) (tCons (tC (.int 4)) tNil)))) [4]) (kTup K)) (gName 3)) (t__law_line_0 K))
theorem s__law_line_1 (K : PySem.W.Frag) : SndS K (t__law_line_1 K) 201 f__law_line_1 := by
  unfold f__law_line_1
  exact (snds_seq (snds_asg (vs := [3]) (snd_tupOf (SndL.d (sndl_comp (N := 100) (by decide) (sndi_range1 snd_var) (sndg_name (by decide)) sndt_yes (snd_op ops_ix (SndL.d (sndl_lst (sndd_cons snd_int (sndd_cons snd_int (sndd_cons snd_int (sndd_cons (snd_op ops_add snd_int (snd_call m_take (snda_box (snda_cons snd_int snda_nil)))) sndd_nil)))) (by decide))) (snd_call m_take (snda_box (snda_cons snd_int snda_nil))))))) (sndg_name (by decide))) (s__law_line_0 K))
def f__law_line : FS := (sSeq (sAsg (eBin gAdd (eC (.int 1)) (eCall F_take (aBox 0 (aCons (eVar 1) aNil)))) (gN 2)) f__law_line_1)
@[irreducible] def F__law_line : FF := mkF 2 5 f__law_line
def t__law_line (K : PySem.W.Frag) : TS := (tSeq (tAsg (tOp (rAdd K) (tC (.int 1)) (tCallG (spD K 1 F_take) (tCons (tVar 0) (tCons (tVar 1) tNil)))) (gName 2)) (t__law_line_1 K))
theorem s__law_line (K : PySem.W.Frag) : SndS K (t__law_line K) 202 f__law_line := (snds_seq (snds_asg (vs := [2]) (snd_op ops_add snd_int (snd_call m_take (snda_box (snda_cons snd_var snda_nil)))) (sndg_name (by decide))) (s__law_line_1 K))
theorem m__law_line (K : PySem.W.Frag) : MonoF F__law_line := by
  unfold F__law_line
  exact mkF_mono (s__law_line K)
end Kd
namespace Kd
open PySem PySem.Spec PyProof.Rows L2 Xg Dv
theorem ext_get {a b : List Int} (hl : a.length = b.length) (h : ∀ i, i < a.length → a.getD i 0 = b.getD i 0) : a = b := by
  rw [list_vec a, list_vec b, ← hl]
  exact vec_ext h
def ov {α : Type} (row : Bool) (l : List α) : List α := if row = true then l.reverse else l.take 1 ++ (l.drop 1).reverse
section
variable {α : Type} {row : Bool} {n j : Nat}
variable {be ah : List Int} {ws : List (Option Int)}
end
section
variable {row : Bool} {rooms hs cs : List Int} {ws : List (Option Int)} {f : Bool}
theorem gts_le {n : Nat} : n ≤ gts row n := by
  unfold gts
  split <;> omega
theorem ld_get {i : Nat} (h : i < hs.length) : (ledL hs cs).getD i 0 = hs.getD i 0 + cs.getD i 0 - cs.getD ((i + 1) % cs.length) 0 := vec_get h
theorem ld_len : (ledL hs cs).length = hs.length := vec_len
theorem add_len {a b : List Int} : (addL a b).length = a.length := vec_len
theorem add_get {a b : List Int} {i : Nat} (h : i < a.length) : (addL a b).getD i 0 = a.getD i 0 + b.getD i 0 := vec_get h
end
end Kd
namespace Kd
open PySem PySem.Spec PyProof.Rows L2 Xg Dv
end Kd
namespace Kd
open PySem PySem.Spec PyProof.Rows L2 Xg Dv
section
variable {row : Bool} {rooms hs cs : List Int} {ws : List (Option Int)} {f : Bool}
structure Rf (row : Bool) (n : Nat) (run : List (Bool × List (Option Int))) : Prop where
  len : ∀ s ∈ run, s.2.length = gts row n
  wn : ∀ s ∈ run, Wn s.2
end
theorem bools_all {α : Type} (xs : List α) : xs.map (fun _ => PyData.bool true) = (List.replicate xs.length true).map PyData.bool := by
  rw [List.map_const', List.map_replicate]
theorem all_true (n : Nat) : (List.replicate n true).all id = true := by
  rw [List.all_eq_true]
  intro x hx
  exact List.eq_of_mem_replicate hx
theorem num_of {i : Int} {Q : PyData → Prop} (q : Q (.bool true)) : F_is_number [.dt (.int i)] Q := by
  unfold F_is_number
  exact ⟨rfl, q⟩
end Kd
namespace Kd
open PySem PySem.Spec PyProof.Rows L2 Xg Dv
section
variable {row : Bool} {rooms h0 x y : List Int} {ws : List (Option Int)}
structure Fth (row : Bool) (rooms h0 : List Int) (ws : List (Option Int)) (x y : List Int) : Prop where
  w : ∀ j a, j < gts row rooms.length → ws.getD j none = some a → y.getD j 0 - x.getD j 0 ≤ a
  b : ∀ i, i < rooms.length → y.getD ((i + 1) % gts row rooms.length) 0 ≤ x.getD i 0 + h0.getD i 0
  a : ∀ i, i < rooms.length → y.getD i 0 ≤ x.getD ((i + 1) % gts row rooms.length) 0 + (rooms.getD i 0 - h0.getD i 0)
theorem bin_of {n j : Nat} {be : List Int} (n0 : 0 < n) (lb : be.length = n) (hj : j < gts row n) (hc : ((!row) || decide (0 < j)) = true) : ∃ i, i < n ∧ (i + 1) % gts row n = j ∧ prev be j = be.getD i 0 := by
  have key : ∀ i, i < n → (i + 1) % gts row n = j → ∃ i, i < n ∧ (i + 1) % gts row n = j ∧ prev be j = be.getD i 0 := fun i hi e => by
    have z := (next_prev (row := row) hi lb).2.1
    rw [e] at z
    exact ⟨i, hi, e, z⟩
  cases row with
  | true =>
    have hj : j < n + 1 := hj
    have hc : (false || decide (0 < j)) = true := hc
    rw [Bool.false_or, decide_eq_true_eq] at hc
    exact key (j - 1) (by omega) (by show (j - 1 + 1) % (n + 1) = j; rw [Nat.mod_eq_of_lt (by omega)]; omega)
  | false =>
    have hj : j < n := hj
    by_cases z : j = 0
    · subst z
      exact key (n - 1) (by omega) (by show (n - 1 + 1) % n = 0; rw [show n - 1 + 1 = n by omega, Nat.mod_self])
    · exact key (j - 1) (by omega) (by show (j - 1 + 1) % n = j; rw [Nat.mod_eq_of_lt (by omega)]; omega)
theorem le_mn {l : List Int} {m : Int} (h : l ≠ []) : m ≤ mn l ↔ ∀ z ∈ l, m ≤ z := ⟨fun g z hz => Int.le_trans g (mn_le hz), fun g => g _ (mn_mem h)⟩
structure Fc (row : Bool) (rooms : List Int) (ws : List (Option Int)) (h0 x : List Int) : Prop where
  n0 : 0 < rooms.length
  lw : ws.length = gts row rooms.length
  lh : h0.length = rooms.length
  lx : x.length = gts row rooms.length
theorem st_get (F : Fc row rooms ws h0 x) {i : Nat} (hi : i < rooms.length) : (ledL h0 x).getD i 0 = h0.getD i 0 + x.getD i 0 - x.getD ((i + 1) % gts row rooms.length) 0 := by
  rw [ld_get (by rw [F.lh]; exact hi), F.lx]
theorem st_lack (F : Fc row rooms ws h0 x) {i : Nat} (hi : i < rooms.length) : (lackL rooms (ledL h0 x)).getD i 0 = rooms.getD i 0 - (h0.getD i 0 + x.getD i 0 - x.getD ((i + 1) % gts row rooms.length) 0) := by
  rw [lack_get hi, st_get F hi]
theorem forth_iff (F : Fc row rooms ws h0 x) : (∀ j, j < gts row rooms.length → y.getD j 0 ≤ x.getD j 0 + (cnt row rooms ws (ledL h0 x) true).getD j 0) ↔ Fth row rooms h0 ws x y := by
  have n0 := F.n0
  have lh : (ledL h0 x).length = rooms.length := by rw [ld_len, F.lh]
  have one : ∀ j, j < gts row rooms.length → (y.getD j 0 ≤ x.getD j 0 + (cnt row rooms ws (ledL h0 x) true).getD j 0 ↔ ∀ z ∈ bnd (!row) (ledL h0 x) (lackL rooms (ledL h0 x)) j (ws.getD j none), y.getD j 0 - x.getD j 0 ≤ z) := fun j hj => by
    rw [cnt_get (by rw [F.lw]; exact hj), if_pos rfl]
    unfold gone
    rw [← le_mn (bnd_ne (ws := ws) lh lack_len n0)]
    constructor <;> intro h <;> omega
  constructor
  · intro h
    refine ⟨fun j a hj e => ((one j hj).mp (h j hj)) a (mem_bnd.mpr (.inl e)), fun i hi => ?_, fun i hi => ?_⟩
    · obtain ⟨p1, p2, p3⟩ := next_prev (row := row) (be := ledL h0 x) hi lh
      have z := ((one _ p3).mp (h _ p3)) _ (mem_bnd.mpr (.inr (.inl ⟨p1, rfl⟩)))
      rw [p2, st_get F hi] at z
      omega
    · have hj : i < gts row rooms.length := Nat.lt_of_lt_of_le hi gts_le
      have z := ((one _ hj).mp (h _ hj)) _ (mem_bnd.mpr (.inr (.inr ⟨by rw [lack_len]; exact hi, rfl⟩)))
      rw [st_lack F hi] at z
      omega
  · intro f j hj
    refine (one j hj).mpr fun z hz => ?_
    rcases mem_bnd.mp hz with e | ⟨c, e⟩ | ⟨c, e⟩
    · exact f.w j z hj e
    · obtain ⟨i, hi, e1, e2⟩ := bin_of (row := row) n0 lh hj c
      have g := f.b i hi
      rw [e1] at g
      rw [e, e2, st_get F hi, e1]
      omega
    · rw [lack_len] at c
      have g := f.a j c
      rw [e, st_lack F c]
      omega
theorem back_iff (F : Fc row rooms ws h0 y) : (∀ j, j < gts row rooms.length → y.getD j 0 + (cnt row rooms ws (ledL h0 y) false).getD j 0 ≤ x.getD j 0) ↔ Fth row rooms h0 ws x y := by
  have n0 := F.n0
  have lh : (ledL h0 y).length = rooms.length := by rw [ld_len, F.lh]
  have one : ∀ j, j < gts row rooms.length → (y.getD j 0 + (cnt row rooms ws (ledL h0 y) false).getD j 0 ≤ x.getD j 0 ↔ ∀ z ∈ bnd (!row) (lackL rooms (ledL h0 y)) (ledL h0 y) j (ws.getD j none), y.getD j 0 - x.getD j 0 ≤ z) := fun j hj => by
    rw [cnt_get (by rw [F.lw]; exact hj), if_neg Bool.false_ne_true]
    unfold gone
    rw [← le_mn (bnd_ne (ws := ws) lack_len lh n0)]
    constructor <;> intro h <;> omega
  constructor
  · intro h
    refine ⟨fun j a hj e => ((one j hj).mp (h j hj)) a (mem_bnd.mpr (.inl e)), fun i hi => ?_, fun i hi => ?_⟩
    · have hj : i < gts row rooms.length := Nat.lt_of_lt_of_le hi gts_le
      have z := ((one _ hj).mp (h _ hj)) _ (mem_bnd.mpr (.inr (.inr ⟨by rw [lh]; exact hi, rfl⟩)))
      rw [st_get F hi] at z
      omega
    · obtain ⟨p1, p2, p3⟩ := next_prev (row := row) (be := lackL rooms (ledL h0 y)) hi lack_len
      have z := ((one _ p3).mp (h _ p3)) _ (mem_bnd.mpr (.inr (.inl ⟨p1, rfl⟩)))
      rw [p2, st_lack F hi] at z
      omega
  · intro f j hj
    refine (one j hj).mpr fun z hz => ?_
    rcases mem_bnd.mp hz with e | ⟨c, e⟩ | ⟨c, e⟩
    · exact f.w j z hj e
    · obtain ⟨i, hi, e1, e2⟩ := bin_of (row := row) (be := lackL rooms (ledL h0 y)) n0 lack_len hj c
      have g := f.a i hi
      rw [e1] at g
      rw [e, e2, st_lack F hi, e1]
      omega
    · rw [lh] at c
      have g := f.b j c
      rw [e, st_get F c]
      omega
def Le (n : Nat) (x y : List Int) : Prop := ∀ j, j < n → x.getD j 0 ≤ y.getD j 0
theorem Le.refl {n : Nat} {x : List Int} : Le n x x := fun _ _ => Int.le_refl _
theorem Le.trans {n : Nat} {x y z : List Int} (a : Le n x y) (b : Le n y z) : Le n x z := fun j h => Int.le_trans (a j h) (b j h)
theorem Le.anti {n : Nat} {x y : List Int} (lx : x.length = n) (ly : y.length = n) (a : Le n x y) (b : Le n y x) : x = y := ext_get (by rw [lx, ly]) fun i hi => Int.le_antisymm (a i (by omega)) (b i (by omega))
def runX (row : Bool) (rooms h0 : List Int) : List (Bool × List (Option Int)) → List Int → List Int
  | [], x => x
  | (b, ws) :: r, x => runX row rooms h0 r (addL x (cnt row rooms ws (ledL h0 x) b))
theorem runX_len : ∀ {run : List (Bool × List (Option Int))} {x : List Int}, (runX row rooms h0 run x).length = x.length
  | [], x => rfl
  | (b, ws) :: r, x => by
    unfold runX
    rw [runX_len, add_len]
theorem runX_app : ∀ {r1 r2 : List (Bool × List (Option Int))} {x : List Int}, runX row rooms h0 (r1 ++ r2) x = runX row rooms h0 r2 (runX row rooms h0 r1 x)
  | [], r2, x => rfl
  | (b, ws) :: r, r2, x => by
    show runX row rooms h0 (r ++ r2) (addL x (cnt row rooms ws (ledL h0 x) b)) = _
    rw [runX_app]
    rfl
def tb (run : List (Bool × List (Option Int))) : List (Bool × List (Option Int)) := run.reverse.map fun s => (!s.1, s.2)
theorem tb_cons {s : Bool × List (Option Int)} {r : List (Bool × List (Option Int))} : tb (s :: r) = tb r ++ [(!s.1, s.2)] := by
  unfold tb
  rw [List.reverse_cons, List.map_append]
  rfl
theorem add_le {n : Nat} {a b c : List Int} (la : a.length = n) : Le n c (addL a b) ↔ ∀ j, j < n → c.getD j 0 ≤ a.getD j 0 + b.getD j 0 := by
  unfold Le
  constructor
  · intro h j hj
    have z := h j hj
    rw [add_get (by omega)] at z
    exact z
  · intro h j hj
    rw [add_get (by omega)]
    exact h j hj
theorem le_add {n : Nat} {a b c : List Int} (la : a.length = n) : Le n (addL a b) c ↔ ∀ j, j < n → a.getD j 0 + b.getD j 0 ≤ c.getD j 0 := by
  unfold Le
  constructor
  · intro h j hj
    have z := h j hj
    rw [add_get (by omega)] at z
    exact z
  · intro h j hj
    rw [add_get (by omega)]
    exact h j hj
theorem mates (n0 : 0 < rooms.length) (lh : h0.length = rooms.length) : ∀ (run : List (Bool × List (Option Int))) (x y : List Int), (∀ s ∈ run, s.1 = true ∧ s.2.length = gts row rooms.length) → x.length = gts row rooms.length → y.length = gts row rooms.length →
    (Le (gts row rooms.length) y (runX row rooms h0 run x) ↔ Le (gts row rooms.length) (runX row rooms h0 (tb run) y) x)
  | [], x, y, _, _, _ => Iff.rfl
  | (b, ws) :: r, x, y, hr, lx, ly => by
    obtain ⟨hb, lw⟩ := hr _ (List.mem_cons_self ..)
    have hb : b = true := hb
    subst hb
    have lw : ws.length = gts row rooms.length := lw
    have lx' : (addL x (cnt row rooms ws (ledL h0 x) true)).length = gts row rooms.length := by rw [add_len, lx]
    have ih := mates n0 lh r (addL x (cnt row rooms ws (ledL h0 x) true)) y (fun s m => hr s (List.mem_cons_of_mem _ m)) lx' ly
    have lv : (runX row rooms h0 (tb r) y).length = gts row rooms.length := by rw [runX_len, ly]
    rw [tb_cons, runX_app]
    show Le _ y (runX row rooms h0 r (addL x (cnt row rooms ws (ledL h0 x) true))) ↔ Le _ (addL (runX row rooms h0 (tb r) y) (cnt row rooms ws (ledL h0 (runX row rooms h0 (tb r) y)) false)) x
    rw [ih, add_le lx, le_add lv, forth_iff ⟨n0, lw, lh, lx⟩, back_iff ⟨n0, lw, lh, lv⟩]
end
end Kd
namespace Kd
open PySem PySem.Spec PyProof.Rows L2 Xg Dv
theorem same_of {x y : PyData} {Q : PyData → Prop} (e : x = y) (hs : shal 5 x = true) (q : Q (.bool true)) : F_same [.dt x, .dt y] Q := ⟨⟨e, hs⟩, q⟩
theorem ints_ex {R : Int → Prop} : ∀ {ys : List PyData}, (∀ y ∈ ys, ∃ x, y = .int x ∧ R x) → ∃ ns : List Int, ys = ns.map PyData.int ∧ ∀ x ∈ ns, R x
  | [], _ => ⟨[], rfl, fun x h => nomatch h⟩
  | y :: ys, h => by
    obtain ⟨x, rfl, hx⟩ := h y (List.mem_cons_self ..)
    obtain ⟨ns, rfl, hn⟩ := ints_ex fun z hz => h z (List.mem_cons_of_mem _ hz)
    refine ⟨x :: ns, rfl, fun z hz => ?_⟩
    rcases List.mem_cons.mp hz with rfl | hz
    · exact hx
    · exact hn z hz
def Rm (rooms : List Int) : Prop := ∀ x ∈ rooms, 1 ≤ x ∧ x ≤ 1000000000
def Dr (w : Option Int) : Prop := ∀ x, w = some x → 0 ≤ x ∧ x ≤ 1000000000
theorem dr_none : Dr none := fun x e => nomatch e
theorem dr_some {i : Int} (h : 0 ≤ i ∧ i ≤ 1000000000) : Dr (some i) := fun x e => by
  cases e
  exact h
def Dw (ws : List (Option Int)) : Prop := ∀ w ∈ ws, Dr w
theorem Dw.wn {ws : List (Option Int)} (h : Dw ws) : Wn ws := fun j x e => by
  rw [List.getD_eq_getElem?_getD] at e
  cases z : ws[j]? with
  | none => rw [z] at e; cases e
  | some w =>
    rw [z] at e
    exact (h w (List.mem_of_getElem? z) x e).1
structure Ln (row : Bool) (rooms : List Int) (most : Nat) : Prop where
  n0 : 0 < rooms.length
  n2 : row = false → 2 ≤ rooms.length
  nz : rooms.length ≤ most
  rm : Rm rooms
theorem size_of {row : Bool} {rooms : List Int} {Q : PyData → Prop} (q : Q (.int (gts row rooms.length : Nat))) : Q (.int (((rooms.map PyData.int).length : Nat) + (if decide (fm row = "row") = true then 1 else 0))) := by
  rw [fm_row, len_i]
  cases row with
  | true => exact q
  | false => exact q
theorem vd_of {rooms hs : List Int} (hl : hs.length = rooms.length) (h : ∀ i, i < rooms.length → 0 ≤ hs.getD i 0 ∧ hs.getD i 0 ≤ rooms.getD i 0) : Vd rooms hs := ⟨hl, fun i hi => (h i hi).1, fun i hi => (h i hi).2⟩
inductive All2 {α β : Type} (R : α → β → Prop) : List α → List β → Prop
  | nil : All2 R [] []
  | cons {a : α} {b : β} {as : List α} {bs : List β} : R a b → All2 R as bs → All2 R (a :: as) (b :: bs)
theorem comp_each {α : Type} {g : FG} {te : FE} {ρ : List Sl} {Q : List PyData → Prop} (e : α → PyData) (R : α → Int → Prop) : ∀ (xs : List α) (acc : List PyData), (∀ x ∈ xs, ∀ P : PyData → Prop, (∀ y, R x y → P (.int y)) → g (e x) ρ fun ρ' => te ρ' P) →
    (∀ ys : List Int, All2 R xs ys → Q (acc ++ ys.map PyData.int)) → compD g fYes te ρ (xs.map e) acc Q
  | [], acc, _, q => by
    have z := q [] .nil
    rw [List.map_nil, List.append_nil] at z
    exact z
  | x :: xs, acc, hs, q => hs x (List.mem_cons_self ..) (fun y => compD g fYes te ρ (xs.map e) (acc ++ [y]) Q) fun y hy => comp_each e R xs _ (fun z hz => hs z (List.mem_cons_of_mem _ hz)) fun ys hr => by
    rw [List.append_assoc]
    exact q (y :: ys) (.cons hy hr)
theorem vd_all : ∀ {rooms hs : List Int}, All2 (fun r h => 0 ≤ h ∧ h ≤ r) rooms hs → Vd rooms hs
  | _, _, .nil => ⟨rfl, fun i hi => absurd hi (Nat.not_lt_zero _), fun i hi => absurd hi (Nat.not_lt_zero _)⟩
  | r :: rooms, h :: hs, .cons a b => by
    have v := vd_all b
    refine vd_of (by rw [List.length_cons, List.length_cons, v.len]) fun i hi => ?_
    cases i with
    | zero => exact a
    | succ i => exact ⟨v.lo i (by rw [List.length_cons] at hi; omega), v.hi i (by rw [List.length_cons] at hi; omega)⟩
end Kd
namespace Kd
open PySem PySem.Spec PyProof.Rows L2 Xg Dv
end Kd
namespace Kd
open PySem PySem.Spec PyProof.Rows L2 Xg Dv
def pre (hs ks : List Int) (j : Nat) : Int := (vec j fun i => hs.getD i 0 - ks.getD i 0).sum
def btw (row : Bool) (n : Nat) (hs ks : List Int) : List Int := vec (gts row n) (pre hs ks)
end Kd
namespace Kd
open PySem PySem.Spec PyProof.Rows L2 Xg Dv
theorem minX_of {k : Bool} {l : List Int} {Q : PyData → Prop} (h : 0 < l.length) (q : Q (.int (mn l))) : minX (iq k l) Q := by
  have z : ∀ m, m ∈ l → (∀ y, y ∈ l → m ≤ y) → Q (.int m) := fun m a b => by rw [mn_is a b]; exact q
  cases k with
  | true => exact ⟨l, rfl, h, z⟩
  | false => exact ⟨l, rfl, h, z⟩
section
variable {k k1 k2 row : Bool} {rooms hs ks : List Int} {Q : PyData → Prop}
end
end Kd
namespace Kd
open PySem PySem.Spec PyProof.Rows L2 Xg Dv
section
variable {row : Bool} {rooms h0 : List Int} {run : List (Bool × List (Option Int))}
def subL (a b : List Int) : List Int := vec a.length fun i => a.getD i 0 - b.getD i 0
end
end Kd
namespace Kd
open PySem PySem.Spec PyProof.Rows L2 Xg Dv
section
variable {row : Bool} {rooms h0 hs ks x y : List Int}
structure Pr (row : Bool) (rooms hs ks : List Int) : Prop where
  lh : hs.length = rooms.length
  lk : ks.length = rooms.length
  sm : row = false → hs.sum = ks.sum
structure Two2 (row : Bool) (rooms hs ks : List Int) (run : List (Bool × List (Option Int))) (hs' ks' X Y : List Int) : Prop where
  eh : hs' = ledL hs X
  ek : ks' = ledL hs Y
  lX : X.length = gts row rooms.length
  lY : Y.length = gts row rooms.length
  e1 : ledR row rooms run hs (vec (gts row rooms.length) fun _ => 0) = (hs', X)
  e2 : ledR row rooms run ks (vec (gts row rooms.length) fun _ => 0) = (ks', subL Y (btw row rooms.length hs ks))
  pr : Pr row rooms hs' ks'
  rng : ∀ a b, (∀ j, j < gts row rooms.length → a ≤ (btw row rooms.length hs ks).getD j 0 ∧ (btw row rooms.length hs ks).getD j 0 ≤ b) → ∀ j, j < gts row rooms.length → a ≤ Y.getD j 0 - X.getD j 0 ∧ Y.getD j 0 - X.getD j 0 ≤ b
  dif : btw row rooms.length hs' ks' = vec (gts row rooms.length) fun j => (Y.getD j 0 - X.getD j 0) - (Y.getD 0 0 - X.getD 0 0)
end
end Kd
namespace Kd
open PySem PySem.Spec PyProof.Rows L2 Xg Dv
def f_gate_behind : FS := (sSeq (sAsg (eVar 0) (gT (gsCons (gN 2) (gsCons (gN 3) gsNil)))) (sRet (eIf (fTest (eBin gEq (eVar 2) (eC (.str "ring")))) (eBin (gIc (fun _ j => 0 < j) fun i j => i % j) (eBin (gI fun i j => i - j) (eVar 1) (eC (.int 1))) (eCB (g1 lenD) (dCons (eVar 3) dNil))) (eBin (gI fun i j => i - j) (eVar 1) (eC (.int 1))))))
@[irreducible] def F_gate_behind : FF := mkF 2 4 f_gate_behind
def t_gate_behind (K : PySem.W.Frag) : TS := (tSeq (tAsg (tVar 0) (fun v σ H Q => gTup K 2 (gCons (gName 2) (gCons (gName 3) gNil)) v σ H Q ∨ gLst K 2 (gCons (gName 2) (gCons (gName 3) gNil)) v σ H Q)) (tRet (tIf (tTest (tOp (rEqX K) (tVar 2) (tC (.str "ring")))) (tOp (rI (fun _ j => 0 < j) fun i j => .int (i % j)) (tOp (rI0 fun i j => .int (i - j)) (tVar 1) (tC (.int 1))) (tCB (fun xs H Q => ∃ x n, xs = [x] ∧ LenV K x H n ∧ Q (.int n) H) (tCons (tVar 3) tNil))) (tOp (rI0 fun i j => .int (i - j)) (tVar 1) (tC (.int 1))))))
theorem s_gate_behind (K : PySem.W.Frag) : SndS K (t_gate_behind K) 0 f_gate_behind := (snds_seq (snds_asg (vs := [2, 3]) snd_var (sndg_tup (sndgs_cons (sndg_name (by decide)) (sndgs_cons (sndg_name (by decide)) sndgs_nil)) (gs_lenS gN_some (gs_lenS gN_some gs_len0)))) (snds_ret (snd_if (sndt_test (snd_op ops_eq snd_var snd_str)) (snd_op ops_Ic (snd_op ops_I snd_var snd_int) (snd_cb cs_len (sndd_cons snd_var sndd_nil))) (snd_op ops_I snd_var snd_int))))
theorem m_gate_behind (K : PySem.W.Frag) : MonoF F_gate_behind := by
  unfold F_gate_behind
  exact mkF_mono (s_gate_behind K)
def f_costs : FS := (sSeq (sAsg (eVar 0) (gT (gsCons (gN 5) (gsCons (gN 6) gsNil)))) (sSeq (sOwn dNil 7) (sSeq (sIf (fAnd (fTest (eBin gEq (eVar 3) (eVar 4))) (fTest (eBin gIsNot (eBin gIx (eVar 1) (eVar 3)) (eC .none)))) (sApp 7 (eBin gIx (eVar 1) (eVar 3))) sSkip) (sSeq (sIf (fTest (eBin gEq (eVar 4) (eCall F_gate_behind (aCons (eVar 0) (aCons (eVar 3) aNil))))) (sApp 7 (eBin gIx (eVar 2) (eVar 4))) sSkip) (sSeq (sIf (fTest (eBin gEq (eVar 3) (eCall F_gate_behind (aCons (eVar 0) (aCons (eVar 4) aNil))))) (sApp 7 (eBin (gI fun i j => i - j) (eBin gIx (eVar 6) (eVar 3)) (eBin gIx (eVar 2) (eVar 3)))) sSkip) (sRetO 7))))))
@[irreducible] def F_costs : FF := mkF 5 8 f_costs
@[irreducible] def L_costs : FFL := mkL 5 8 f_costs
def t_costs (K : PySem.W.Frag) : TS := (tSeq (tAsg (tVar 0) (fun v σ H Q => gTup K 2 (gCons (gName 5) (gCons (gName 6) gNil)) v σ H Q ∨ gLst K 2 (gCons (gName 5) (gCons (gName 6) gNil)) v σ H Q)) (tSeq (tAsg (tLst tNil) (gName 7)) (tSeq (tIfS (tAnd (tTest (tOp (rEqX K) (tVar 3) (tVar 4))) (tTest (tOp (fun x y H Q => y = .non ∧ Q (.bl (!decide (x = .non))) H) (tOp (rIx K) (tVar 1) (tVar 3)) (tC .non)))) (tDrop (tBM K "list" rAppend (tVar 7) (tCons (tOp (rIx K) (tVar 1) (tVar 3)) tNil))) tNext) (tSeq (tIfS (tTest (tOp (rEqX K) (tVar 4) (tCallG (spD K 0 F_gate_behind) (tCons (tVar 0) (tCons (tVar 3) tNil))))) (tDrop (tBM K "list" rAppend (tVar 7) (tCons (tOp (rIx K) (tVar 2) (tVar 4)) tNil))) tNext) (tSeq (tIfS (tTest (tOp (rEqX K) (tVar 3) (tCallG (spD K 0 F_gate_behind) (tCons (tVar 0) (tCons (tVar 4) tNil))))) (tDrop (tBM K "list" rAppend (tVar 7) (tCons (tOp (rI0 fun i j => .int (i - j)) (tOp (rIx K) (tVar 6) (tVar 3)) (tOp (rIx K) (tVar 2) (tVar 3))) tNil))) tNext) (tRet (tVar 7)))))))
theorem s_costs (K : PySem.W.Frag) : SndS K (t_costs K) 0 f_costs := (snds_seq (snds_asg (vs := [5, 6]) snd_var (sndg_tup (sndgs_cons (sndg_name (by decide)) (sndgs_cons (sndg_name (by decide)) sndgs_nil)) (gs_lenS gN_some (gs_lenS gN_some gs_len0)))) (snds_seq (snds_own (sndl_lst sndd_nil (by decide))) (snds_seq (snds_if (sndt_and (sndt_test (snd_op ops_eq snd_var snd_var)) (sndt_test (snd_op ops_isnot (snd_op ops_ix snd_var snd_var) snd_non))) (snds_app (snd_op ops_ix snd_var snd_var)) snds_nil) (snds_seq (snds_if (sndt_test (snd_op ops_eq snd_var (snd_call (m_gate_behind K) (snda_cons snd_var (snda_cons snd_var snda_nil))))) (snds_app (snd_op ops_ix snd_var snd_var)) snds_nil) (snds_seq (snds_if (sndt_test (snd_op ops_eq snd_var (snd_call (m_gate_behind K) (snda_cons snd_var (snda_cons snd_var snda_nil))))) (snds_app (snd_op ops_I (snd_op ops_ix snd_var snd_var) (snd_op ops_ix snd_var snd_var))) snds_nil) snds_retO)))))
theorem m_costs (K : PySem.W.Frag) : MonoF F_costs := by
  unfold F_costs
  exact mkF_mono (s_costs K)
def f_is_gate : FS := (sRet (eAnd (eCall F_is_number (aCons (eVar 1) aNil)) (eChain (gC fun i j => decide (i ≤ j)) (gC fun i j => decide (i < j)) (eC (.int 0)) (eVar 1) (eCall F_gates (aCons (eVar 0) aNil)))))
@[irreducible] def F_is_gate : FF := mkF 2 2 f_is_gate
def t_is_gate (K : PySem.W.Frag) : TS := (tRet (tAndV (tCallG (spD K 0 F_is_number) (tCons (tVar 1) tNil)) (tChain (rI0 fun i j => .bl (decide (i ≤ j))) (rI0 fun i j => .bl (decide (i < j))) (tC (.int 0)) (tVar 1) (tCallG (spD K 0 F_gates) (tCons (tVar 0) tNil)))))
theorem s_is_gate (K : PySem.W.Frag) : SndS K (t_is_gate K) 0 f_is_gate := (snds_ret (snd_and (snd_call (m_is_number K) (snda_cons snd_var snda_nil)) (snd_chain ops_C ops_C snd_int snd_var (snd_call (m_gates K) (snda_cons snd_var snda_nil)))))
theorem m_is_gate (K : PySem.W.Frag) : MonoF F_is_gate := by
  unfold F_is_gate
  exact mkF_mono (s_is_gate K)
def f_cost : FS := (sSeq (sIf (fNot (fAnd (fTest (eCall F_is_gate (aCons (eVar 0) (aCons (eVar 3) aNil)))) (fTest (eCall F_is_gate (aCons (eVar 0) (aCons (eVar 4) aNil)))))) (sRet (eC .none)) sSkip) (sRet (eMinD (eCall F_costs (aCons (eVar 0) (aCons (eVar 1) (aCons (eVar 2) (aCons (eVar 3) (aCons (eVar 4) aNil)))))) (eC .none))))
@[irreducible] def F_cost : FF := mkF 5 5 f_cost
def t_cost (K : PySem.W.Frag) : TS := (tSeq (tIfS (tNot (tAnd (tB (tCallG (spD K 0 F_is_gate) (tCons (tVar 0) (tCons (tVar 3) tNil)))) (tB (tCallG (spD K 0 F_is_gate) (tCons (tVar 0) (tCons (tVar 4) tNil)))))) (tRet (tC .non)) tNext) (tRet (tCKw (rMinD K) (tCons (tCallG (spD K 0 F_costs) (tCons (tVar 0) (tCons (tVar 1) (tCons (tVar 2) (tCons (tVar 3) (tCons (tVar 4) tNil)))))) tNil) (tCons (tC .non) tNil))))
theorem s_cost (K : PySem.W.Frag) : SndS K (t_cost K) 0 f_cost := (snds_seq (snds_if (sndt_not (sndt_and (sndt_B (snd_call (m_is_gate K) (snda_cons snd_var (snda_cons snd_var snda_nil)))) (sndt_B (snd_call (m_is_gate K) (snda_cons snd_var (snda_cons snd_var snda_nil)))))) (snds_ret snd_non) snds_nil) (snds_ret (snd_minD (snd_call (m_costs K) (snda_cons snd_var (snda_cons snd_var (snda_cons snd_var (snda_cons snd_var (snda_cons snd_var snda_nil)))))) snd_non)))
theorem m_cost (K : PySem.W.Frag) : MonoF F_cost := by
  unfold F_cost
  exact mkF_mono (s_cost K)
def f_grid_of_one : FS := (sSeq (sAsg (eCall F_gates (aCons (eVar 0) aNil)) (gN 3)) (sRetL (fComp 1000000 (fRange1 (eVar 3)) [4] (gN 4) fYes (eL (fComp 1000000 (fRange1 (eVar 3)) [5] (gN 5) fYes (eCall F_cost (aCons (eVar 0) (aCons (eVar 1) (aCons (eVar 2) (aCons (eVar 4) (aCons (eVar 5) aNil)))))))))))
@[irreducible] def F_grid_of_one : FF := mkF 3 6 f_grid_of_one
@[irreducible] def L_grid_of_one : FFL := mkL 3 6 f_grid_of_one
def t_grid_of_one (K : PySem.W.Frag) : TS := (tSeq (tAsg (tCallG (spD K 0 F_gates) (tCons (tVar 0) tNil)) (gName 3)) (tRet (tLc (iRng1 (tCons (tVar 3) tNil)) (gName 4) tYes (tLc (iRng1 (tCons (tVar 3) tNil)) (gName 5) tYes (tCallG (spD K 0 F_cost) (tCons (tVar 0) (tCons (tVar 1) (tCons (tVar 2) (tCons (tVar 4) (tCons (tVar 5) tNil)))))) [5]) [4])))
theorem s_grid_of_one (K : PySem.W.Frag) : SndS K (t_grid_of_one K) 0 f_grid_of_one := (snds_seq (snds_asg (vs := [3]) (snd_call (m_gates K) (snda_cons snd_var snda_nil)) (sndg_name (by decide))) (snds_retL (sndl_comp (N := 1000000) (by decide) (sndi_range1 snd_var) (sndg_name (by decide)) sndt_yes (SndL.d (sndl_comp (N := 1000000) (by decide) (sndi_range1 snd_var) (sndg_name (by decide)) sndt_yes (snd_call (m_cost K) (snda_cons snd_var (snda_cons snd_var (snda_cons snd_var (snda_cons snd_var (snda_cons snd_var snda_nil)))))))))))
theorem m_grid_of_one (K : PySem.W.Frag) : MonoF F_grid_of_one := by
  unfold F_grid_of_one
  exact mkF_mono (s_grid_of_one K)
def f_columns_of : FS := (sRetL (fComp 1000000 (fZipN (eVar 0)) [1] (gN 1) fYes (eL (fListOf (eVar 1)))))
@[irreducible] def F_columns_of : FF := mkF 1 2 f_columns_of
@[irreducible] def L_columns_of : FFL := mkL 1 2 f_columns_of
def t_columns_of (K : PySem.W.Frag) : TS := (tRet (tLc (Zn.iZipN K (tVar 0)) (gName 1) tYes (tCB (fun xs H Q => ∃ p ys, xs = [.ref p] ∧ (SqL K H p ys ∨ SqT K H p ys) ∧ ∀ l, H l = none → Q (.ref l) (upd H l (.lst ys))) (tCons (tVar 1) tNil)) [1]))
theorem s_columns_of (K : PySem.W.Frag) : SndS K (t_columns_of K) 0 f_columns_of := (snds_retL (sndl_comp (N := 1000000) (by decide) (sndi_zipN (Snd.v snd_var)) (sndg_name (by decide)) sndt_yes (SndL.d (sndl_listOf snd_var))))
theorem m_columns_of (K : PySem.W.Frag) : MonoF F_columns_of := by
  unfold F_columns_of
  exact mkF_mono (s_columns_of K)
def f_least_sum : FS := (sSeq (sAsg (eL (fComp 1000000 (fZip (eVar 0) (eVar 1)) [3, 4] (gT (gsCons (gN 3) (gsCons (gN 4) gsNil))) (fAnd (fTest (eBin gIsNot (eVar 3) (eC .none))) (fTest (eBin gIsNot (eVar 4) (eC .none)))) (eBin gAdd (eVar 3) (eVar 4)))) (gN 2)) (sRet (eMinD (eVar 2) (eC .none))))
@[irreducible] def F_least_sum : FF := mkF 2 5 f_least_sum
def t_least_sum (K : PySem.W.Frag) : TS := (tSeq (tAsg (tLc (Pw.iZipX K (tCons (tVar 0) (tCons (tVar 1) tNil))) (fun v σ H Q => gTup K 2 (gCons (gName 3) (gCons (gName 4) gNil)) v σ H Q ∨ gLst K 2 (gCons (gName 3) (gCons (gName 4) gNil)) v σ H Q) (tAnd (tTest (tOp (fun x y H Q => y = .non ∧ Q (.bl (!decide (x = .non))) H) (tVar 3) (tC .non))) (tTest (tOp (fun x y H Q => y = .non ∧ Q (.bl (!decide (x = .non))) H) (tVar 4) (tC .non)))) (tOp (rAdd K) (tVar 3) (tVar 4)) [3, 4]) (gName 2)) (tRet (tCKw (rMinD K) (tCons (tVar 2) tNil) (tCons (tC .non) tNil))))
theorem s_least_sum (K : PySem.W.Frag) : SndS K (t_least_sum K) 0 f_least_sum := (snds_seq (snds_asg (vs := [2]) (SndL.d (sndl_comp (N := 1000000) (by decide) (sndi_zip (Snd.v snd_var) (Snd.v snd_var)) (sndg_tup (sndgs_cons (sndg_name (by decide)) (sndgs_cons (sndg_name (by decide)) sndgs_nil)) (gs_lenS gN_some (gs_lenS gN_some gs_len0))) (sndt_and (sndt_test (snd_op ops_isnot snd_var snd_non)) (sndt_test (snd_op ops_isnot snd_var snd_non))) (snd_op ops_add snd_var snd_var))) (sndg_name (by decide))) (snds_ret (snd_minD snd_var snd_non)))
theorem m_least_sum (K : PySem.W.Frag) : MonoF F_least_sum := by
  unfold F_least_sum
  exact mkF_mono (s_least_sum K)
def f_chained : FS := (sSeq (sAsg (eCall F_columns_of (aCons (eVar 1) aNil)) (gN 2)) (sRetL (fComp 1000000 (fIt (eVar 0)) [3] (gN 3) fYes (eL (fComp 1000000 (fIt (eVar 2)) [4] (gN 4) fYes (eCall F_least_sum (aCons (eVar 3) (aCons (eVar 4) aNil))))))))
@[irreducible] def F_chained : FF := mkF 2 5 f_chained
@[irreducible] def L_chained : FFL := mkL 2 5 f_chained
def t_chained (K : PySem.W.Frag) : TS := (tSeq (tAsg (tCallG (spD K 0 F_columns_of) (tCons (tVar 1) tNil)) (gName 2)) (tRet (tLc (Pw.iSeq K (tVar 0)) (gName 3) tYes (tLc (Pw.iSeq K (tVar 2)) (gName 4) tYes (tCallG (spD K 0 F_least_sum) (tCons (tVar 3) (tCons (tVar 4) tNil))) [4]) [3])))
theorem s_chained (K : PySem.W.Frag) : SndS K (t_chained K) 0 f_chained := (snds_seq (snds_asg (vs := [2]) (snd_call (m_columns_of K) (snda_cons snd_var snda_nil)) (sndg_name (by decide))) (snds_retL (sndl_comp (N := 1000000) (by decide) (sndi_seq (Snd.v snd_var)) (sndg_name (by decide)) sndt_yes (SndL.d (sndl_comp (N := 1000000) (by decide) (sndi_seq (Snd.v snd_var)) (sndg_name (by decide)) sndt_yes (snd_call (m_least_sum K) (snda_cons snd_var (snda_cons snd_var snda_nil))))))))
theorem m_chained (K : PySem.W.Frag) : MonoF F_chained := by
  unfold F_chained
  exact mkF_mono (s_chained K)
def f_doubled_grids : FS := (sSeq (sOwn (dCons (eCall F_grid_of_one (aCons (eVar 0) (aCons (eVar 1) (aCons (eVar 2) aNil)))) dNil) 4) (sSeq (sWhile (fTest (eBin (gC fun i j => decide (i < j)) (eCB (g1 lenD) (dCons (eVarV 4) dNil)) (eBits (eVar 3)))) (sApp 4 (eCall F_chained (aCons (eBin gIx (eVarV 4) (eUn negD (eC (.int 1)))) (aCons (eBin gIx (eVarV 4) (eUn negD (eC (.int 1)))) aNil))))) (sRetO 4)))
@[irreducible] def F_doubled_grids : FF := mkF 4 5 f_doubled_grids
@[irreducible] def L_doubled_grids : FFL := mkL 4 5 f_doubled_grids
def t_doubled_grids (K : PySem.W.Frag) : TS := (tSeq (tAsg (tLst (tCons (tCallG (spD K 0 F_grid_of_one) (tCons (tVar 0) (tCons (tVar 1) (tCons (tVar 2) tNil)))) tNil)) (gName 4)) (tSeq (tWhile (tTest (tOp (rI0 fun i j => .bl (decide (i < j))) (tCB (fun xs H Q => ∃ x n, xs = [x] ∧ LenV K x H n ∧ Q (.int n) H) (tCons (tVar 4) tNil)) (tBits (tVar 3)))) (tDrop (tBM K "list" rAppend (tVar 4) (tCons (tCallG (spD K 0 F_chained) (tCons (tOp (rIx K) (tVar 4) (tUn (rU fun i => .int (-i)) (tC (.int 1)))) (tCons (tOp (rIx K) (tVar 4) (tUn (rU fun i => .int (-i)) (tC (.int 1)))) tNil))) tNil)))) (tRet (tVar 4))))
theorem s_doubled_grids (K : PySem.W.Frag) : SndS K (t_doubled_grids K) 0 f_doubled_grids := (snds_seq (snds_own (sndl_lst (sndd_cons (snd_call (m_grid_of_one K) (snda_cons snd_var (snda_cons snd_var (snda_cons snd_var snda_nil)))) sndd_nil) (by decide))) (snds_seq (snds_while (sndt_test (snd_op ops_C (snd_cb cs_len (sndd_cons sndV_var sndd_nil)) (snd_bits snd_var))) (snds_app (snd_call (m_chained K) (snda_cons (snd_op ops_ix sndV_var (snd_un us_neg snd_int)) (snda_cons (snd_op ops_ix sndV_var (snd_un us_neg snd_int)) snda_nil))))) snds_retO))
theorem m_doubled_grids (K : PySem.W.Frag) : MonoF F_doubled_grids := by
  unfold F_doubled_grids
  exact mkF_mono (s_doubled_grids K)
def f_grids_in : FS := (sRetL (fComp 1000000 (fEnum (eVar 0)) [2, 3] (gT (gsCons (gN 2) (gsCons (gN 3) gsNil))) (fTru (eBin gOdd (eBin (gIc (fun _ j => 0 ≤ j) fun i j => i / 2 ^ j.toNat) (eVar 1) (eVar 2)) (eC (.int 1)))) (eVar 3)))
@[irreducible] def F_grids_in : FF := mkF 2 4 f_grids_in
@[irreducible] def L_grids_in : FFL := mkL 2 4 f_grids_in
def t_grids_in (K : PySem.W.Frag) : TS := (tRet (tLc (Pw.iEnumX K (tCons (tVar 0) tNil)) (fun v σ H Q => gTup K 2 (gCons (gName 2) (gCons (gName 3) gNil)) v σ H Q ∨ gLst K 2 (gCons (gName 2) (gCons (gName 3) gNil)) v σ H Q) (fun σ H Q => (tOp (fun x y H Q => ∃ n : Nat, x = .int (n : Int) ∧ y = .int 1 ∧ Q (.int ((n % 2 : Nat) : Int)) H) (tOp (rI (fun _ j => 0 ≤ j) fun i j => .int (i / 2 ^ j.toNat)) (tVar 1) (tVar 2)) (tC (.int 1))) σ H fun x H' => ∃ k, TruV K x H' k ∧ Q k H') (tVar 3) [2, 3]))
theorem s_grids_in (K : PySem.W.Frag) : SndS K (t_grids_in K) 0 f_grids_in := (snds_retL (sndl_comp (N := 1000000) (by decide) (sndi_enum (Snd.v snd_var)) (sndg_tup (sndgs_cons (sndg_name (by decide)) (sndgs_cons (sndg_name (by decide)) sndgs_nil)) (gs_lenS gN_some (gs_lenS gN_some gs_len0))) (sndt_tru (snd_op ops_odd (snd_op ops_Ic snd_var snd_var) snd_int)) snd_var))
theorem m_grids_in (K : PySem.W.Frag) : MonoF F_grids_in := by
  unfold F_grids_in
  exact mkF_mono (s_grids_in K)
def f_led_by : FS := (sRetL (fComp 1000000 (fIt (eVar 0)) [2] (gN 2) fYes (eCall F_least_sum (aCons (eVar 2) (aCons (eVar 1) aNil)))))
@[irreducible] def F_led_by : FF := mkF 2 3 f_led_by
@[irreducible] def L_led_by : FFL := mkL 2 3 f_led_by
def t_led_by (K : PySem.W.Frag) : TS := (tRet (tLc (Pw.iSeq K (tVar 0)) (gName 2) tYes (tCallG (spD K 0 F_least_sum) (tCons (tVar 2) (tCons (tVar 1) tNil))) [2]))
theorem s_led_by (K : PySem.W.Frag) : SndS K (t_led_by K) 0 f_led_by := (snds_retL (sndl_comp (N := 1000000) (by decide) (sndi_seq (Snd.v snd_var)) (sndg_name (by decide)) sndt_yes (snd_call (m_least_sum K) (snda_cons snd_var (snda_cons snd_var snda_nil)))))
theorem m_led_by (K : PySem.W.Frag) : MonoF F_led_by := by
  unfold F_led_by
  exact mkF_mono (s_led_by K)
def f_led_back_by : FS := (sSeq (sAsg (eL (fComp 1000000 (fIt (eVar 1)) [3] (gN 3) fYes (eUn negD (eVar 3)))) (gN 2)) (sRetL (fComp 1000000 (fIt (eCall F_columns_of (aCons (eVar 0) aNil))) [4] (gN 4) fYes (eUn negD (eCall F_least_sum (aCons (eVar 4) (aCons (eVar 2) aNil)))))))
@[irreducible] def F_led_back_by : FF := mkF 2 5 f_led_back_by
@[irreducible] def L_led_back_by : FFL := mkL 2 5 f_led_back_by
def t_led_back_by (K : PySem.W.Frag) : TS := (tSeq (tAsg (tLc (Pw.iSeq K (tVar 1)) (gName 3) tYes (tUn (rU fun i => .int (-i)) (tVar 3)) [3]) (gName 2)) (tRet (tLc (Pw.iSeq K (tCallG (spD K 0 F_columns_of) (tCons (tVar 0) tNil))) (gName 4) tYes (tUn (rU fun i => .int (-i)) (tCallG (spD K 0 F_least_sum) (tCons (tVar 4) (tCons (tVar 2) tNil)))) [4])))
theorem s_led_back_by (K : PySem.W.Frag) : SndS K (t_led_back_by K) 0 f_led_back_by := (snds_seq (snds_asg (vs := [2]) (SndL.d (sndl_comp (N := 1000000) (by decide) (sndi_seq (Snd.v snd_var)) (sndg_name (by decide)) sndt_yes (snd_un us_neg snd_var))) (sndg_name (by decide))) (snds_retL (sndl_comp (N := 1000000) (by decide) (sndi_seq (Snd.v (snd_call (m_columns_of K) (snda_cons snd_var snda_nil)))) (sndg_name (by decide)) sndt_yes (snd_un us_neg (snd_call (m_least_sum K) (snda_cons snd_var (snda_cons snd_var snda_nil)))))))
theorem m_led_back_by (K : PySem.W.Frag) : MonoF F_led_back_by := by
  unfold F_led_back_by
  exact mkF_mono (s_led_back_by K)
end Kd
namespace Ke
open PySem PySem.Spec PyProof.Rows L2 Xg Dv Kd
def f__law_pick : FS := (sRet (eBin gIx (eVar 1) (eCall F_take (aBox 0 (aCons (eCB (g1 lenD) (dCons (eVar 1) dNil)) aNil)))))
@[irreducible] def F__law_pick : FF := mkF 2 2 f__law_pick
def t__law_pick (K : PySem.W.Frag) : TS := (tRet (tOp (rIx K) (tVar 1) (tCallG (spD K 1 F_take) (tCons (tVar 0) (tCons (tCB (fun xs H Q => ∃ x n, xs = [x] ∧ LenV K x H n ∧ Q (.int n) H) (tCons (tVar 1) tNil)) tNil)))))
theorem s__law_pick (K : PySem.W.Frag) : SndS K (t__law_pick K) 1 f__law_pick := (snds_ret (snd_op ops_ix snd_var (snd_call m_take (snda_box (snda_cons (snd_cb cs_len (sndd_cons snd_var sndd_nil)) snda_nil)))))
theorem m__law_pick (K : PySem.W.Frag) : MonoF F__law_pick := by
  unfold F__law_pick
  exact mkF_mono (s__law_pick K)
@[irreducible] def f__law_line_0 : FS := (sRet (eTup (dCons (eVar 3) (dCons (eUn tupD (eL (fComp 100 (fRange1 (eVar 6)) [7] (gN 7) fYes (eBin gAdd (eC (.int 1)) (eCall F_take (aBox 0 (aCons (eVar 4) aNil))))))) dNil))))
def t__law_line_0 (K : PySem.W.Frag) : TS := (tRet (tTup (tCons (tVar 3) (tCons (tThen (tLc (iRng1 (tCons (tVar 6) tNil)) (gName 7) tYes (tOp (rAdd K) (tC (.int 1)) (tCallG (spD K 1 F_take) (tCons (tVar 0) (tCons (tVar 4) tNil)))) [7]) (kTup K)) tNil))))
theorem s__law_line_0 (K : PySem.W.Frag) : SndS K (t__law_line_0 K) 100 f__law_line_0 := by
  unfold f__law_line_0
  exact (snds_ret (snd_tup (sndd_cons snd_var (sndd_cons (snd_tupOf (SndL.d (sndl_comp (N := 100) (by decide) (sndi_range1 snd_var) (sndg_name (by decide)) sndt_yes (snd_op ops_add snd_int (snd_call m_take (snda_box (snda_cons snd_var snda_nil))))))) sndd_nil)) (by decide)))
@[irreducible] def f__law_line_1 : FS := (sSeq (sAsg (eBin gAdd (eVar 5) (eCall F_take (aBox 0 (aCons (eBin (gI fun i j => i - j) (eBin gAdd (eVar 1) (eC (.int 1))) (eVar 5)) aNil)))) (gN 6)) f__law_line_0)
def t__law_line_1 (K : PySem.W.Frag) : TS := (tSeq (tAsg (tOp (rAdd K) (tVar 5) (tCallG (spD K 1 F_take) (tCons (tVar 0) (tCons (tOp (rI0 fun i j => .int (i - j)) (tOp (rAdd K) (tVar 1) (tC (.int 1))) (tVar 5)) tNil)))) (gName 6)) (t__law_line_0 K))
theorem s__law_line_1 (K : PySem.W.Frag) : SndS K (t__law_line_1 K) 101 f__law_line_1 := by
  unfold f__law_line_1
  exact (snds_seq (snds_asg (vs := [6]) (snd_op ops_add snd_var (snd_call m_take (snda_box (snda_cons (snd_op ops_I (snd_op ops_add snd_var snd_int) snd_var) snda_nil)))) (sndg_name (by decide))) (s__law_line_0 K))
@[irreducible] def f__law_line_2 : FS := (sSeq (sAsg (eBin gAdd (eC (.int 1)) (eCB (g1 intD) (dCons (eBin gEq (eVar 3) (eC (.str "ring"))) dNil))) (gN 5)) f__law_line_1)
def t__law_line_2 (K : PySem.W.Frag) : TS := (tSeq (tAsg (tOp (rAdd K) (tC (.int 1)) (tCB (fun xs H Q => (∃ i, xs = [.int i] ∧ Q (.int i) H) ∨ ∃ k, xs = [.bl k] ∧ Q (.int (if k then 1 else 0)) H) (tCons (tOp (rEqX K) (tVar 3) (tC (.str "ring"))) tNil))) (gName 5)) (t__law_line_1 K))
theorem s__law_line_2 (K : PySem.W.Frag) : SndS K (t__law_line_2 K) 101 f__law_line_2 := by
  unfold f__law_line_2
  exact (snds_seq (snds_asg (vs := [5]) (snd_op ops_add snd_int (snd_cb cs_int (sndd_cons (snd_op ops_eq snd_var snd_str) sndd_nil))) (sndg_name (by decide))) (s__law_line_1 K))
def f__law_line : FS := (sSeq (sAsg (eTup (dCons (eCall F__law_pick (aBox 0 (aCons (eLst (dCons (eC (.str "row")) (dCons (eC (.str "row")) (dCons (eC (.str "ring")) dNil)))) aNil))) (dCons (eCall F__law_pick (aBox 0 (aCons (eLst (dCons (eC (.int 1)) (dCons (eC (.int 2)) (dCons (eVar 2) (dCons (eVar 2) dNil))))) aNil))) dNil))) (gT (gsCons (gN 3) (gsCons (gN 4) gsNil)))) f__law_line_2)
@[irreducible] def F__law_line : FF := mkF 3 8 f__law_line
def t__law_line (K : PySem.W.Frag) : TS := (tSeq (tAsg (tTup (tCons (tCallG (spD K 1 F__law_pick) (tCons (tVar 0) (tCons (tLst (tCons (tC (.str "row")) (tCons (tC (.str "row")) (tCons (tC (.str "ring")) tNil)))) tNil))) (tCons (tCallG (spD K 1 F__law_pick) (tCons (tVar 0) (tCons (tLst (tCons (tC (.int 1)) (tCons (tC (.int 2)) (tCons (tVar 2) (tCons (tVar 2) tNil))))) tNil))) tNil))) (fun v σ H Q => gTup K 2 (gCons (gName 3) (gCons (gName 4) gNil)) v σ H Q ∨ gLst K 2 (gCons (gName 3) (gCons (gName 4) gNil)) v σ H Q)) (t__law_line_2 K))
theorem s__law_line (K : PySem.W.Frag) : SndS K (t__law_line K) 103 f__law_line := (snds_seq (snds_asg (vs := [3, 4]) (snd_tup (sndd_cons (snd_call (m__law_pick K) (snda_box (snda_cons (SndL.d (sndl_lst (sndd_cons snd_str (sndd_cons snd_str (sndd_cons snd_str sndd_nil))) (by decide))) snda_nil))) (sndd_cons (snd_call (m__law_pick K) (snda_box (snda_cons (SndL.d (sndl_lst (sndd_cons snd_int (sndd_cons snd_int (sndd_cons snd_var (sndd_cons snd_var sndd_nil)))) (by decide))) snda_nil))) sndd_nil)) (by decide)) (sndg_tup (sndgs_cons (sndg_name (by decide)) (sndgs_cons (sndg_name (by decide)) sndgs_nil)) (gs_lenS gN_some (gs_lenS gN_some gs_len0)))) (s__law_line_2 K))
theorem m__law_line (K : PySem.W.Frag) : MonoF F__law_line := by
  unfold F__law_line
  exact mkF_mono (s__law_line K)
def f__law_gates : FS := (sRet (eBin gAdd (eCB (g1 lenD) (dCons (eBin gIx (eVar 0) (eC (.int 1))) dNil)) (eCB (g1 intD) (dCons (eBin gEq (eBin gIx (eVar 0) (eC (.int 0))) (eC (.str "row"))) dNil))))
@[irreducible] def F__law_gates : FF := mkF 1 1 f__law_gates
def t__law_gates (K : PySem.W.Frag) : TS := (tRet (tOp (rAdd K) (tCB (fun xs H Q => ∃ x n, xs = [x] ∧ LenV K x H n ∧ Q (.int n) H) (tCons (tOp (rIx K) (tVar 0) (tC (.int 1))) tNil)) (tCB (fun xs H Q => (∃ i, xs = [.int i] ∧ Q (.int i) H) ∨ ∃ k, xs = [.bl k] ∧ Q (.int (if k then 1 else 0)) H) (tCons (tOp (rEqX K) (tOp (rIx K) (tVar 0) (tC (.int 0))) (tC (.str "row"))) tNil))))
theorem s__law_gates (K : PySem.W.Frag) : SndS K (t__law_gates K) 0 f__law_gates := (snds_ret (snd_op ops_add (snd_cb cs_len (sndd_cons (snd_op ops_ix snd_var snd_int) sndd_nil)) (snd_cb cs_int (sndd_cons (snd_op ops_eq (snd_op ops_ix snd_var snd_int) snd_str) sndd_nil))))
theorem m__law_gates (K : PySem.W.Frag) : MonoF F__law_gates := by
  unfold F__law_gates
  exact mkF_mono (s__law_gates K)
@[irreducible] def f__law_widths_0 : FS := (sApp 4 (eIf (fOr (fTest (eBin gIs (eVar 6) (eC .none))) (fTest (eBin (gC fun i j => decide (i < j)) (eVar 6) (eC (.int 3))))) (eVar 6) (eBin gAdd (eC (.int 1)) (eCall F_take (aBox 0 (aCons (eVar 6) aNil))))))
def t__law_widths_0 (K : PySem.W.Frag) : TS := (tDrop (tBM K "list" rAppend (tVar 4) (tCons (tIf (tOr (tTest (tOp (fun x y H Q => y = .non ∧ Q (.bl (decide (x = .non))) H) (tVar 6) (tC .non))) (tTest (tOp (rI0 fun i j => .bl (decide (i < j))) (tVar 6) (tC (.int 3))))) (tVar 6) (tOp (rAdd K) (tC (.int 1)) (tCallG (spD K 1 F_take) (tCons (tVar 0) (tCons (tVar 6) tNil))))) tNil)))
theorem s__law_widths_0 (K : PySem.W.Frag) : SndS K (t__law_widths_0 K) 1 f__law_widths_0 := by
  unfold f__law_widths_0
  exact (snds_app (snd_if (sndt_or (sndt_test (snd_op ops_is snd_var snd_non)) (sndt_test (snd_op ops_C snd_var snd_int))) snd_var (snd_op ops_add snd_int (snd_call m_take (snda_box (snda_cons snd_var snda_nil))))))
@[irreducible] def f__law_widths_1 : FS := (sRet (eUn tupD (eVarV 4)))
def t__law_widths_1 (K : PySem.W.Frag) : TS := (tRet (tThen (tVar 4) (kTup K)))
theorem s__law_widths_1 (K : PySem.W.Frag) : SndS K (t__law_widths_1 K) 0 f__law_widths_1 := by
  unfold f__law_widths_1
  exact (snds_ret (snd_tupOf sndV_var))
@[irreducible] def f__law_widths_2 : FS := (sSeq (sIf (fAnd (fTest (eBin gEq (eBin gIx (eVar 1) (eC (.int 0))) (eC (.str "row")))) (fTest (eBin gEq (eCall F_take (aBox 0 (aCons (eC (.int 4)) aNil))) (eC (.int 0))))) (sOwn (fCat (eBin gAdd (eLst (dCons (eC (.int 0)) dNil)) (eSl (eVarV 4) (oSome (eC (.int 1))) (oSome (eUn negD (eC (.int 1)))))) (eLst (dCons (eC (.int 0)) dNil))) 4) sSkip) f__law_widths_1)
def t__law_widths_2 (K : PySem.W.Frag) : TS := (tSeq (tIfS (tAnd (tTest (tOp (rEqX K) (tOp (rIx K) (tVar 1) (tC (.int 0))) (tC (.str "row")))) (tTest (tOp (rEqX K) (tCallG (spD K 1 F_take) (tCons (tVar 0) (tCons (tC (.int 4)) tNil))) (tC (.int 0))))) (tAsg (tOp rCat (tOp (rAdd K) (tLst (tCons (tC (.int 0)) tNil)) (tSl (rSlX K) (tVar 4) (tPart (tC (.int 1))) (tPart (tUn (rU fun i => .int (-i)) (tC (.int 1)))))) (tLst (tCons (tC (.int 0)) tNil))) (gName 4)) tNext) (t__law_widths_1 K))
theorem s__law_widths_2 (K : PySem.W.Frag) : SndS K (t__law_widths_2 K) 1 f__law_widths_2 := by
  unfold f__law_widths_2
  exact (snds_seq (snds_if (sndt_and (sndt_test (snd_op ops_eq (snd_op ops_ix snd_var snd_int) snd_str)) (sndt_test (snd_op ops_eq (snd_call m_take (snda_box (snda_cons snd_int snda_nil))) snd_int))) (snds_own (sndl_cat (snd_op ops_add (SndL.d (sndl_lst (sndd_cons snd_int sndd_nil) (by decide))) (snd_sl sndV_var (sndo_some snd_int) (sndo_some (snd_un us_neg snd_int)))) (SndL.d (sndl_lst (sndd_cons snd_int sndd_nil) (by decide))))) snds_nil) (s__law_widths_1 K))
@[irreducible] def f__law_widths_3 : FS := (sSeq (sFor 100 (fRange1 (eCall F__law_gates (aCons (eVar 1) aNil))) (gN 5) (sSeq (sAsg (eCall F__law_pick (aBox 0 (aCons (eVar 3) aNil))) (gN 6)) f__law_widths_0)) f__law_widths_2)
def t__law_widths_3 (K : PySem.W.Frag) : TS := (tSeq (tFor (iRng1 (tCons (tCallG (spD K 0 F__law_gates) (tCons (tVar 1) tNil)) tNil)) (gName 5) (tSeq (tAsg (tCallG (spD K 1 F__law_pick) (tCons (tVar 0) (tCons (tVar 3) tNil))) (gName 6)) (t__law_widths_0 K))) (t__law_widths_2 K))
theorem s__law_widths_3 (K : PySem.W.Frag) : SndS K (t__law_widths_3 K) 201 f__law_widths_3 := by
  unfold f__law_widths_3
  exact (snds_seq (snds_for (vs := [5]) (N := 100) (sndi_range1 (snd_call (m__law_gates K) (snda_cons snd_var snda_nil))) (sndg_name (by decide)) (snds_seq (snds_asg (vs := [6]) (snd_call (m__law_pick K) (snda_box (snda_cons snd_var snda_nil))) (sndg_name (by decide))) (s__law_widths_0 K))) (s__law_widths_2 K))
@[irreducible] def f__law_widths_4 : FS := (sSeq (sOwn dNil 4) f__law_widths_3)
def t__law_widths_4 (K : PySem.W.Frag) : TS := (tSeq (tAsg (tLst tNil) (gName 4)) (t__law_widths_3 K))
theorem s__law_widths_4 (K : PySem.W.Frag) : SndS K (t__law_widths_4 K) 201 f__law_widths_4 := by
  unfold f__law_widths_4
  exact (snds_seq (snds_own (sndl_lst sndd_nil (by decide))) (s__law_widths_3 K))
def f__law_widths : FS := (sSeq (sAsg (eCall F__law_pick (aBox 0 (aCons (eLst (dCons (eLst (dCons (eC .none) dNil)) (dCons (eLst (dCons (eC .none) (dCons (eC .none) (dCons (eVar 2) dNil)))) (dCons (eLst (dCons (eVar 2) dNil)) (dCons (eLst (dCons (eC (.int 0)) (dCons (eC (.int 1)) (dCons (eVar 2) (dCons (eC .none) dNil))))) (dCons (eLst (dCons (eC (.int 1)) (dCons (eC (.int 2)) (dCons (eVar 2) dNil)))) dNil)))))) aNil))) (gN 3)) f__law_widths_4)
@[irreducible] def F__law_widths : FF := mkF 3 7 f__law_widths
def t__law_widths (K : PySem.W.Frag) : TS := (tSeq (tAsg (tCallG (spD K 1 F__law_pick) (tCons (tVar 0) (tCons (tLst (tCons (tLst (tCons (tC .non) tNil)) (tCons (tLst (tCons (tC .non) (tCons (tC .non) (tCons (tVar 2) tNil)))) (tCons (tLst (tCons (tVar 2) tNil)) (tCons (tLst (tCons (tC (.int 0)) (tCons (tC (.int 1)) (tCons (tVar 2) (tCons (tC .non) tNil))))) (tCons (tLst (tCons (tC (.int 1)) (tCons (tC (.int 2)) (tCons (tVar 2) tNil)))) tNil)))))) tNil))) (gName 3)) (t__law_widths_4 K))
theorem s__law_widths (K : PySem.W.Frag) : SndS K (t__law_widths K) 202 f__law_widths := (snds_seq (snds_asg (vs := [3]) (snd_call (m__law_pick K) (snda_box (snda_cons (SndL.d (sndl_lst (sndd_cons (SndL.d (sndl_lst (sndd_cons snd_non sndd_nil) (by decide))) (sndd_cons (SndL.d (sndl_lst (sndd_cons snd_non (sndd_cons snd_non (sndd_cons snd_var sndd_nil))) (by decide))) (sndd_cons (SndL.d (sndl_lst (sndd_cons snd_var sndd_nil) (by decide))) (sndd_cons (SndL.d (sndl_lst (sndd_cons snd_int (sndd_cons snd_int (sndd_cons snd_var (sndd_cons snd_non sndd_nil)))) (by decide))) (sndd_cons (SndL.d (sndl_lst (sndd_cons snd_int (sndd_cons snd_int (sndd_cons snd_var sndd_nil))) (by decide))) sndd_nil))))) (by decide))) snda_nil))) (sndg_name (by decide))) (s__law_widths_4 K))
theorem m__law_widths (K : PySem.W.Frag) : MonoF F__law_widths := by
  unfold F__law_widths
  exact mkF_mono (s__law_widths K)
@[irreducible] def f__law_lot_0 : FS := (sApp 3 (eIf (fTest (eBin gEq (eVar 2) (eC (.int 0)))) (eBin gIx (eLst (dCons (eVar 5) (dCons (eC (.int 0)) (dCons (eVar 4) dNil)))) (eCall F_take (aBox 0 (aCons (eC (.int 3)) aNil)))) (eVar 5)))
def t__law_lot_0 (K : PySem.W.Frag) : TS := (tDrop (tBM K "list" rAppend (tVar 3) (tCons (tIf (tTest (tOp (rEqX K) (tVar 2) (tC (.int 0)))) (tOp (rIx K) (tLst (tCons (tVar 5) (tCons (tC (.int 0)) (tCons (tVar 4) tNil)))) (tCallG (spD K 1 F_take) (tCons (tVar 0) (tCons (tC (.int 3)) tNil)))) (tVar 5)) tNil)))
theorem s__law_lot_0 (K : PySem.W.Frag) : SndS K (t__law_lot_0 K) 1 f__law_lot_0 := by
  unfold f__law_lot_0
  exact (snds_app (snd_if (sndt_test (snd_op ops_eq snd_var snd_int)) (snd_op ops_ix (SndL.d (sndl_lst (sndd_cons snd_var (sndd_cons snd_int (sndd_cons snd_var sndd_nil))) (by decide))) (snd_call m_take (snda_box (snda_cons snd_int snda_nil)))) snd_var))
@[irreducible] def f__law_lot_1 : FS := (sRet (eUn tupD (eVarV 3)))
def t__law_lot_1 (K : PySem.W.Frag) : TS := (tRet (tThen (tVar 3) (kTup K)))
theorem s__law_lot_1 (K : PySem.W.Frag) : SndS K (t__law_lot_1 K) 0 f__law_lot_1 := by
  unfold f__law_lot_1
  exact (snds_ret (snd_tupOf sndV_var))
@[irreducible] def f__law_lot_2 : FS := (sSeq (sFor 100 (fIt (eBin gIx (eVar 1) (eC (.int 1)))) (gN 4) (sSeq (sAsg (eCall F_take (aBox 0 (aCons (eBin gAdd (eVar 4) (eC (.int 1))) aNil))) (gN 5)) f__law_lot_0)) f__law_lot_1)
def t__law_lot_2 (K : PySem.W.Frag) : TS := (tSeq (tFor (Pw.iSeq K (tOp (rIx K) (tVar 1) (tC (.int 1)))) (gName 4) (tSeq (tAsg (tCallG (spD K 1 F_take) (tCons (tVar 0) (tCons (tOp (rAdd K) (tVar 4) (tC (.int 1))) tNil))) (gName 5)) (t__law_lot_0 K))) (t__law_lot_1 K))
theorem s__law_lot_2 (K : PySem.W.Frag) : SndS K (t__law_lot_2 K) 200 f__law_lot_2 := by
  unfold f__law_lot_2
  exact (snds_seq (snds_for (vs := [4]) (N := 100) (sndi_seq (snd_op ops_ix snd_var snd_int)) (sndg_name (by decide)) (snds_seq (snds_asg (vs := [5]) (snd_call m_take (snda_box (snda_cons (snd_op ops_add snd_var snd_int) snda_nil))) (sndg_name (by decide))) (s__law_lot_0 K))) (s__law_lot_1 K))
@[irreducible] def f__law_lot_3 : FS := (sSeq (sOwn dNil 3) f__law_lot_2)
def t__law_lot_3 (K : PySem.W.Frag) : TS := (tSeq (tAsg (tLst tNil) (gName 3)) (t__law_lot_2 K))
theorem s__law_lot_3 (K : PySem.W.Frag) : SndS K (t__law_lot_3 K) 200 f__law_lot_3 := by
  unfold f__law_lot_3
  exact (snds_seq (snds_own (sndl_lst sndd_nil (by decide))) (s__law_lot_2 K))
def f__law_lot : FS := (sSeq (sAsg (eCall F_take (aBox 0 (aCons (eC (.int 4)) aNil))) (gN 2)) f__law_lot_3)
@[irreducible] def F__law_lot : FF := mkF 2 6 f__law_lot
def t__law_lot (K : PySem.W.Frag) : TS := (tSeq (tAsg (tCallG (spD K 1 F_take) (tCons (tVar 0) (tCons (tC (.int 4)) tNil))) (gName 2)) (t__law_lot_3 K))
theorem s__law_lot (K : PySem.W.Frag) : SndS K (t__law_lot K) 201 f__law_lot := (snds_seq (snds_asg (vs := [2]) (snd_call m_take (snda_box (snda_cons snd_int snda_nil))) (sndg_name (by decide))) (s__law_lot_3 K))
theorem m__law_lot (K : PySem.W.Frag) : MonoF F__law_lot := by
  unfold F__law_lot
  exact mkF_mono (s__law_lot K)
end Ke
namespace Dv
open PySem PySem.Spec PyProof.Rows L2 Xg
section
variable {K : PySem.W.Frag}
end
end Dv
namespace Dv
open PySem PySem.Spec PyProof.Rows L2 Xg
section
variable {K : PySem.W.Frag}
end
end Dv
namespace Dv
open PySem PySem.Spec PyProof.Rows L2 Xg
section
variable {K : PySem.W.Frag} {md : Bool} {ta tb : TE} {ca cb : Nat} {fa fb : FE}
end
end Dv
namespace Dv
open PySem PySem.Spec PyProof.Rows L2 Xg
section
variable {K : PySem.W.Frag} {md : Bool} {ta tb : TE} {ca cb : Nat} {fa fb : FE}
end
end Dv
namespace Zq
open PySem PySem.Spec PyProof.Rows L2
open PySem.Sem (wp)
section
variable {prog : Program} {w : World} {A : Around} {E : Value → Shared → Prop} {s : Shared}
end
end Zq
namespace Ez
open PySem PySem.Spec PyProof.Rows L2 Zq Xg
end Ez
namespace Dv
open PySem PySem.Spec PyProof.Rows L2 Xg
open Classical
section
variable {K : PySem.W.Frag} {md : Bool} {ta tb : TE} {ca cb : Nat} {fa fb : FE}
end
end Dv
namespace Dv
open PySem PySem.Spec PyProof.Rows L2 Xg
theorem DaL.at {K : PySem.W.Frag} {H : Hp} : ∀ {vs : List V} {ds : List PyData} {i : Nat} {v : V} {d : PyData}, DaL K H vs ds → vs[i]? = some v → ds[i]? = some d → Da K H v d
  | _, _, 0, _, _, .cons a _, h1, h2 => by
    cases h1
    cases h2
    exact a
  | _, _, i + 1, _, _, .cons _ b, h1, h2 => DaL.at (i := i) b h1 h2
  | _, _, _, _, _, .nil, h1, _ => by simp at h1
end Dv
namespace Kd
open PySem PySem.Spec PyProof.Rows L2 Xg Dv
def mnO : List Int → Option Int
  | [] => none
  | x :: r => some (mn (x :: r))
theorem mnO_iff {l : List Int} {z : Int} : mnO l = some z ↔ z ∈ l ∧ ∀ y ∈ l, z ≤ y := by
  cases l with
  | nil => simp [mnO]
  | cons x r =>
    show some (mn (x :: r)) = some z ↔ _
    rw [Option.some.injEq]
    constructor
    · rintro rfl
      exact ⟨mn_mem (by simp), fun y hy => mn_le hy⟩
    · intro h
      exact (mn_is h.1 h.2).symm
theorem mnO_ex {l : List Int} (h : l ≠ []) : ∃ z, mnO l = some z := by
  cases l with
  | nil => exact absurd rfl h
  | cons x r => exact ⟨_, rfl⟩
def opl : Option Int → Option Int → Option Int
  | some a, some b => some (a + b)
  | _, _ => none
theorem opl_iff {r c : Option Int} {z : Int} : opl r c = some z ↔ ∃ a b, r = some a ∧ c = some b ∧ z = a + b := by
  cases r <;> cases c <;> simp [opl, eq_comm]
def sums (n : Nat) (r c : Nat → Option Int) : List Int := (List.range n).filterMap fun j => opl (r j) (c j)
theorem mem_sums {n : Nat} {r c : Nat → Option Int} {z : Int} : z ∈ sums n r c ↔ ∃ j a b, j < n ∧ r j = some a ∧ c j = some b ∧ z = a + b := by
  unfold sums
  rw [List.mem_filterMap]
  constructor
  · rintro ⟨j, hj, e⟩
    obtain ⟨a, b, h1, h2, h3⟩ := opl_iff.mp e
    exact ⟨j, a, b, List.mem_range.mp hj, h1, h2, h3⟩
  · rintro ⟨j, a, b, hj, h1, h2, h3⟩
    exact ⟨j, List.mem_range.mpr hj, opl_iff.mpr ⟨a, b, h1, h2, h3⟩⟩
def lsm (n : Nat) (r c : Nat → Option Int) : Option Int := mnO (sums n r c)
theorem lsm_le {n : Nat} {r c : Nat → Option Int} {z m : Int} (h : lsm n r c = some z) : m ≤ z ↔ ∀ j a b, j < n → r j = some a → c j = some b → m ≤ a + b := by
  obtain ⟨h1, h2⟩ := mnO_iff.mp h
  obtain ⟨j, a, b, hj, ha, hb, hz⟩ := mem_sums.mp h1
  constructor
  · intro g j a b hj ha hb
    exact Int.le_trans g (h2 _ (mem_sums.mpr ⟨j, a, b, hj, ha, hb, rfl⟩))
  · intro g
    rw [hz]
    exact g j a b hj ha hb
theorem lsm_ex {n : Nat} {r c : Nat → Option Int} {j : Nat} {a b : Int} (hj : j < n) (ha : r j = some a) (hb : c j = some b) : ∃ z, lsm n r c = some z :=
  mnO_ex fun e => by
    have : a + b ∈ sums n r c := mem_sums.mpr ⟨j, a, b, hj, ha, hb, rfl⟩
    rw [e] at this
    cases this
abbrev Gr := Nat → Nat → Option Int
def nmb (x : List Int) : Nat → Option Int := fun j => some (x.getD j 0)
def ngb (x : List Int) : Nat → Option Int := fun j => some (-x.getD j 0)
def ledG (n : Nat) (G : Gr) (x : List Int) : List Int := vec n fun i => (lsm n (G i) (nmb x)).getD 0
def ledB (n : Nat) (G : Gr) (y : List Int) : List Int := vec n fun j => -(lsm n (fun i => G i j) (ngb y)).getD 0
def chG (n : Nat) (G H : Gr) : Gr := fun i m => lsm n (G i) (fun j => H j m)
section
variable {row : Bool} {rooms h0 x y : List Int} {ws : List (Option Int)} {G H : Gr} {k l : Nat}
abbrev nG (row : Bool) (rooms : List Int) : Nat := gts row rooms.length
abbrev bws (b : Bool) (ws : List (Option Int)) (k : Nat) : List (Bool × List (Option Int)) := List.replicate k (b, ws)
theorem bws_add {b : Bool} : bws b ws (k + l) = bws b ws k ++ bws b ws l := List.replicate_append_replicate.symm
theorem bws_tb {b : Bool} : tb (bws b ws k) = bws (!b) ws k := by
  unfold tb bws
  rw [List.reverse_replicate, List.map_replicate]
theorem bws_hr {b : Bool} {n : Nat} (h : ws.length = n) : ∀ s ∈ bws b ws k, s.1 = b ∧ s.2.length = n := fun s m => by
  obtain ⟨_, rfl⟩ := List.mem_replicate.mp m
  exact ⟨rfl, h⟩
theorem run_add {b : Bool} : runX row rooms h0 (bws b ws (k + l)) x = runX row rooms h0 (bws b ws l) (runX row rooms h0 (bws b ws k) x) := by
  rw [bws_add, runX_app]
structure Gk (row : Bool) (rooms h0 : List Int) (ws : List (Option Int)) (k : Nat) (G : Gr) : Prop where
  iff : ∀ x y : List Int, x.length = nG row rooms → y.length = nG row rooms → (Le (nG row rooms) y (runX row rooms h0 (bws true ws k) x) ↔ ∀ i j a, i < nG row rooms → j < nG row rooms → G i j = some a → y.getD i 0 ≤ a + x.getD j 0)
  rw : ∀ i, i < nG row rooms → ∃ j a, j < nG row rooms ∧ G i j = some a
  cl : ∀ j, j < nG row rooms → ∃ i a, i < nG row rooms ∧ G i j = some a
theorem Gk.ex (g : Gk row rooms h0 ws k G) {i : Nat} (hi : i < nG row rooms) : ∃ z, lsm (nG row rooms) (G i) (nmb x) = some z := by
  obtain ⟨j, a, hj, e⟩ := g.rw i hi
  exact lsm_ex hj e rfl
theorem Gk.exB (g : Gk row rooms h0 ws k G) {j : Nat} (hj : j < nG row rooms) : ∃ z, lsm (nG row rooms) (fun i => G i j) (ngb x) = some z := by
  obtain ⟨i, a, hi, e⟩ := g.cl j hj
  exact lsm_ex hi e rfl
theorem ledG_len {n : Nat} : (ledG n G x).length = n := vec_len
theorem ledB_len {n : Nat} : (ledB n G x).length = n := vec_len
theorem Gk.le (g : Gk row rooms h0 ws k G) {i : Nat} {m : Int} (hi : i < nG row rooms) : m ≤ (ledG (nG row rooms) G x).getD i 0 ↔ ∀ j a, j < nG row rooms → G i j = some a → m ≤ a + x.getD j 0 := by
  unfold ledG
  rw [vec_get hi]
  obtain ⟨z, e⟩ := g.ex (x := x) hi
  rw [e]
  show m ≤ z ↔ _
  rw [lsm_le e]
  constructor
  · intro h j a hj ha
    exact h j a _ hj ha rfl
  · intro h j a b hj ha hb
    cases hb
    exact h j a hj ha
theorem Gk.leB (g : Gk row rooms h0 ws k G) {j : Nat} {m : Int} (hj : j < nG row rooms) : (ledB (nG row rooms) G y).getD j 0 ≤ m ↔ ∀ i a, i < nG row rooms → G i j = some a → y.getD i 0 ≤ a + m := by
  unfold ledB
  rw [vec_get hj]
  obtain ⟨z, e⟩ := g.exB (x := y) hj
  rw [e]
  show -z ≤ m ↔ _
  rw [show -z ≤ m ↔ -m ≤ z by omega, lsm_le e]
  constructor
  · intro h i a hi ha
    have := h i a _ hi ha rfl
    omega
  · intro h i a b hi ha hb
    cases hb
    have := h i a hi ha
    omega
theorem Gk.led (g : Gk row rooms h0 ws k G) (lx : x.length = nG row rooms) : ledG (nG row rooms) G x = runX row rooms h0 (bws true ws k) x := by
  have l1 : (runX row rooms h0 (bws true ws k) x).length = nG row rooms := by rw [runX_len, lx]
  have key : ∀ y : List Int, y.length = nG row rooms → (Le (nG row rooms) y (ledG (nG row rooms) G x) ↔ Le (nG row rooms) y (runX row rooms h0 (bws true ws k) x)) := fun y ly => by
    rw [g.iff x y lx ly]
    constructor
    · intro h i j a hi hj e
      exact (g.le hi).mp (h i hi) j a hj e
    · intro h i hi
      exact (g.le hi).mpr fun j a hj e => h i j a hi hj e
  exact Le.anti ledG_len l1 ((key _ ledG_len).mp Le.refl) ((key _ l1).mpr Le.refl)
theorem Gk.back (n0 : 0 < rooms.length) (lh : h0.length = rooms.length) (lw : ws.length = nG row rooms) (g : Gk row rooms h0 ws k G) (ly : y.length = nG row rooms) : ledB (nG row rooms) G y = runX row rooms h0 (bws false ws k) y := by
  have l1 : (runX row rooms h0 (bws false ws k) y).length = nG row rooms := by rw [runX_len, ly]
  have key : ∀ x : List Int, x.length = nG row rooms → (Le (nG row rooms) (ledB (nG row rooms) G y) x ↔ Le (nG row rooms) (runX row rooms h0 (bws false ws k) y) x) := fun x lx => by
    have z := mates n0 lh (bws true ws k) x y (bws_hr lw) lx ly
    rw [bws_tb] at z
    rw [show (false = !true) from rfl, ← z, g.iff x y lx ly]
    constructor
    · intro h i j a hi hj e
      exact (g.leB hj).mp (h j hj) i a hi e
    · intro h j hj
      exact (g.leB hj).mpr fun i a hi e => h i j a hi hj e
  exact Le.anti ledB_len l1 ((key _ l1).mpr Le.refl) ((key _ ledB_len).mp Le.refl)
theorem Gk.ch (g : Gk row rooms h0 ws k G) (h : Gk row rooms h0 ws l H) : Gk row rooms h0 ws (l + k) (chG (nG row rooms) G H) := by
  refine ⟨fun x y lx ly => ?_, fun i hi => ?_, fun m hm => ?_⟩
  · have l1 : (runX row rooms h0 (bws true ws l) x).length = nG row rooms := by rw [runX_len, lx]
    rw [run_add, g.iff _ y l1 ly, ← h.led lx]
    constructor
    · intro q i m c hi hm e
      have e : lsm (nG row rooms) (G i) (fun j => H j m) = some c := e
      obtain ⟨f1, f2⟩ := mnO_iff.mp e
      obtain ⟨j, a, b, hj, ha, hb, hz⟩ := mem_sums.mp f1
      have z := q i j a hi hj ha
      have z : y.getD i 0 - a ≤ (ledG (nG row rooms) H x).getD j 0 := by omega
      have := (h.le hj).mp z m b hm hb
      omega
    · intro q i j a hi hj e
      have z : y.getD i 0 - a ≤ (ledG (nG row rooms) H x).getD j 0 := (h.le hj).mpr fun m b hm hb => by
        obtain ⟨c, hc⟩ := lsm_ex (r := G i) (c := fun j => H j m) hj e hb
        have z1 := q i m c hi hm hc
        have z2 := (lsm_le hc).mp (Int.le_refl c) j a b hj e hb
        omega
      omega
  · obtain ⟨j, a, hj, ha⟩ := g.rw i hi
    obtain ⟨m, b, hm, hb⟩ := h.rw j hj
    obtain ⟨c, hc⟩ := lsm_ex (r := G i) (c := fun j => H j m) hj ha hb
    exact ⟨m, c, hm, hc⟩
  · obtain ⟨j, b, hj, hb⟩ := h.cl m hm
    obtain ⟨i, a, hi, ha⟩ := g.cl j hj
    obtain ⟨c, hc⟩ := lsm_ex (r := G i) (c := fun j => H j m) hj ha hb
    exact ⟨i, c, hi, hc⟩
def gbI (row : Bool) (n i : Nat) : Int := if row = true then (i : Int) - 1 else ((i : Int) - 1) % (n : Int)
theorem gb_iff {n i j : Nat} (n0 : 0 < n) (hi : i < gts row n) (hj : j < gts row n) : (j : Int) = gbI row n i ↔ j < n ∧ (j + 1) % gts row n = i := by
  unfold gbI
  cases row with
  | true =>
    have hi : i < n + 1 := hi
    have hj : j < n + 1 := hj
    show (j : Int) = (i : Int) - 1 ↔ j < n ∧ (j + 1) % (n + 1) = i
    constructor
    · intro e
      refine ⟨by omega, ?_⟩
      rw [Nat.mod_eq_of_lt (by omega)]
      omega
    · rintro ⟨h, e⟩
      rw [Nat.mod_eq_of_lt (by omega)] at e
      omega
  | false =>
    have hi : i < n := hi
    have hj : j < n := hj
    show (j : Int) = ((i : Int) - 1) % (n : Int) ↔ j < n ∧ (j + 1) % n = i
    by_cases z : i = 0
    · subst z
      have e : (((0 : Nat) : Int) - 1) % (n : Int) = (n : Int) - 1 := by
        rw [show ((0 : Nat) : Int) - 1 = ((n : Int) - 1) - (n : Int) by omega, Int.sub_emod_right, Int.emod_eq_of_lt (by omega) (by omega)]
      rw [e]
      constructor
      · intro g
        refine ⟨hj, ?_⟩
        rw [show j + 1 = n by omega, Nat.mod_self]
      · rintro ⟨_, g⟩
        by_cases y : j + 1 = n
        · omega
        · rw [Nat.mod_eq_of_lt (by omega)] at g
          omega
    · rw [Int.emod_eq_of_lt (by omega) (by omega)]
      constructor
      · intro g
        refine ⟨hj, ?_⟩
        rw [Nat.mod_eq_of_lt (by omega)]
        omega
      · rintro ⟨_, g⟩
        by_cases y : j + 1 = n
        · rw [y, Nat.mod_self] at g
          omega
        · rw [Nat.mod_eq_of_lt (by omega)] at g
          omega
def cl1 (row : Bool) (rooms h0 : List Int) (ws : List (Option Int)) (i j : Nat) : List Int :=
  (if i = j then (ws.getD i none).toList else []) ++ (if (j : Int) = gbI row rooms.length i then [h0.getD j 0] else []) ++ (if (i : Int) = gbI row rooms.length j then [rooms.getD i 0 - h0.getD i 0] else [])
def c1 (row : Bool) (rooms h0 : List Int) (ws : List (Option Int)) : Gr := fun i j => mnO (cl1 row rooms h0 ws i j)
theorem mem_cl1 {i j : Nat} {z : Int} : z ∈ cl1 row rooms h0 ws i j ↔ (i = j ∧ ws.getD i none = some z) ∨ ((j : Int) = gbI row rooms.length i ∧ z = h0.getD j 0) ∨ ((i : Int) = gbI row rooms.length j ∧ z = rooms.getD i 0 - h0.getD i 0) := by
  unfold cl1
  rw [List.mem_append, List.mem_append, or_assoc]
  refine or_congr ?_ (or_congr ?_ ?_)
  · by_cases h : i = j
    · rw [if_pos h, Option.mem_toList]
      constructor
      · intro g; exact ⟨h, g⟩
      · intro g; exact g.2
    · rw [if_neg h]
      constructor
      · intro g; cases g
      · intro g; exact absurd g.1 h
  · split
    · rename_i h
      rw [List.mem_singleton]
      constructor
      · intro g; exact ⟨h, g⟩
      · intro g; exact g.2
    · rename_i h
      constructor
      · intro g; cases g
      · intro g; exact absurd g.1 h
  · split
    · rename_i h
      rw [List.mem_singleton]
      constructor
      · intro g; exact ⟨h, g⟩
      · intro g; exact g.2
    · rename_i h
      constructor
      · intro g; cases g
      · intro g; exact absurd g.1 h
theorem one_gk (n0 : 0 < rooms.length) (lh : h0.length = rooms.length) (lw : ws.length = nG row rooms) : Gk row rooms h0 ws 1 (c1 row rooms h0 ws) := by
  have nx : ∀ i, i < rooms.length → (i + 1) % nG row rooms < nG row rooms := fun i hi => Nat.mod_lt _ (by have : rooms.length ≤ gts row rooms.length := gts_le; show 0 < gts row rooms.length; omega)
  have cell : ∀ {i j : Nat} {z : Int}, z ∈ cl1 row rooms h0 ws i j → ∃ a, c1 row rooms h0 ws i j = some a ∧ a ≤ z := fun {i j z} h => by
    obtain ⟨a, e⟩ := mnO_ex (l := cl1 row rooms h0 ws i j) fun e => by rw [e] at h; cases h
    exact ⟨a, e, (mnO_iff.mp e).2 z h⟩
  have nb : ∀ i, i < nG row rooms → ∃ j z, j < nG row rooms ∧ (z ∈ cl1 row rooms h0 ws i j) := fun i hi => by
    by_cases c : i < rooms.length
    · exact ⟨(i + 1) % nG row rooms, _, nx i c, mem_cl1.mpr (.inr (.inr ⟨(gb_iff n0 (nx i c) hi).mpr ⟨c, rfl⟩, rfl⟩))⟩
    · obtain ⟨b, hb, e, _⟩ := bin_of (row := row) (be := h0) n0 lh hi (by cases row with | true => simp; omega | false => rfl)
      exact ⟨b, _, Nat.lt_of_lt_of_le hb gts_le, mem_cl1.mpr (.inr (.inl ⟨(gb_iff n0 hi (Nat.lt_of_lt_of_le hb gts_le)).mpr ⟨hb, e⟩, rfl⟩))⟩
  have nc : ∀ j, j < nG row rooms → ∃ i z, i < nG row rooms ∧ (z ∈ cl1 row rooms h0 ws i j) := fun j hj => by
    by_cases c : j < rooms.length
    · exact ⟨(j + 1) % nG row rooms, _, nx j c, mem_cl1.mpr (.inr (.inl ⟨(gb_iff n0 (nx j c) hj).mpr ⟨c, rfl⟩, rfl⟩))⟩
    · obtain ⟨b, hb, e, _⟩ := bin_of (row := row) (be := h0) n0 lh hj (by cases row with | true => simp; omega | false => rfl)
      exact ⟨b, _, Nat.lt_of_lt_of_le hb gts_le, mem_cl1.mpr (.inr (.inr ⟨(gb_iff n0 hj (Nat.lt_of_lt_of_le hb gts_le)).mpr ⟨hb, e⟩, rfl⟩))⟩
  refine ⟨fun x y lx ly => ?_, fun i hi => ?_, fun j hj => ?_⟩
  · show Le _ y (addL x (cnt row rooms ws (ledL h0 x) true)) ↔ _
    rw [add_le lx, forth_iff ⟨n0, lw, lh, lx⟩]
    constructor
    · intro f i j a hi hj e
      obtain ⟨e1, _⟩ := mnO_iff.mp e
      rcases mem_cl1.mp e1 with ⟨rfl, e2⟩ | ⟨e2, rfl⟩ | ⟨e2, rfl⟩
      · have := f.w i a hi e2
        omega
      · obtain ⟨h1, h2⟩ := (gb_iff n0 hi hj).mp e2
        have := f.b j h1
        rw [h2] at this
        omega
      · obtain ⟨h1, h2⟩ := (gb_iff n0 hj hi).mp e2
        have := f.a i h1
        rw [h2] at this
        omega
    · intro q
      refine ⟨fun j a hj e => ?_, fun i hi => ?_, fun i hi => ?_⟩
      · obtain ⟨b, e1, e2⟩ := cell (mem_cl1.mpr (.inl ⟨rfl, e⟩))
        have := q j j b hj hj e1
        omega
      · have g : i < nG row rooms := Nat.lt_of_lt_of_le hi gts_le
        obtain ⟨b, e1, e2⟩ := cell (mem_cl1.mpr (.inr (.inl ⟨(gb_iff n0 (nx i hi) g).mpr ⟨hi, rfl⟩, rfl⟩)))
        have z := q _ i b (nx i hi) g e1
        show y.getD ((i + 1) % nG row rooms) 0 ≤ _
        omega
      · have g : i < nG row rooms := Nat.lt_of_lt_of_le hi gts_le
        obtain ⟨b, e1, e2⟩ := cell (mem_cl1.mpr (.inr (.inr ⟨(gb_iff n0 (nx i hi) g).mpr ⟨hi, rfl⟩, rfl⟩)))
        have z := q i _ b g (nx i hi) e1
        show y.getD i 0 ≤ x.getD ((i + 1) % nG row rooms) 0 + _
        omega
  · obtain ⟨j, z, hj, hz⟩ := nb i hi
    obtain ⟨a, e, _⟩ := cell hz
    exact ⟨j, a, hj, e⟩
  · obtain ⟨i, z, hi, hz⟩ := nc j hj
    obtain ⟨a, e, _⟩ := cell hz
    exact ⟨i, a, hi, e⟩
def pw (row : Bool) (rooms h0 : List Int) (ws : List (Option Int)) : Nat → Gr
  | 0 => c1 row rooms h0 ws
  | t + 1 => chG (nG row rooms) (pw row rooms h0 ws t) (pw row rooms h0 ws t)
theorem pw_gk (n0 : 0 < rooms.length) (lh : h0.length = rooms.length) (lw : ws.length = nG row rooms) : ∀ t, Gk row rooms h0 ws (2 ^ t) (pw row rooms h0 ws t)
  | 0 => one_gk n0 lh lw
  | t + 1 => by
    have z := pw_gk n0 lh lw t
    have g := z.ch z
    rw [show 2 ^ t + 2 ^ t = 2 ^ (t + 1) by rw [Nat.pow_succ]; omega] at g
    exact g
end
end Kd
namespace Kd
open PySem PySem.Spec PyProof.Rows L2 Xg Dv
theorem comp_fm {g : FG} {tt : FT} {te : FE} {ρ : List Sl} {Q : List PyData → Prop} (h : PyData → Option PyData) : ∀ (ds acc : List PyData), (∀ d ∈ ds, ∀ (A : PyData → Prop) (B : Prop), (∀ y, h d = some y → A y) → (h d = none → B) → g d ρ fun ρ' => tt ρ' fun k => if k = true then te ρ' A else B) → Q (acc ++ ds.filterMap h) → compD g tt te ρ ds acc Q
  | [], acc, _, q => by
    rw [List.filterMap_nil, List.append_nil] at q
    exact q
  | d :: ds, acc, hs, q => hs d (List.mem_cons_self ..) (fun y => compD g tt te ρ ds (acc ++ [y]) Q) (compD g tt te ρ ds acc Q)
    (fun y e => comp_fm h ds _ (fun e he => hs e (List.mem_cons_of_mem _ he)) (by
      rw [List.filterMap_cons_some e] at q
      rw [List.append_assoc]
      exact q))
    (fun e => comp_fm h ds _ (fun e he => hs e (List.mem_cons_of_mem _ he)) (by
      rw [List.filterMap_cons_none e] at q
      exact q))
def rwd (n : Nat) (r : Nat → Option Int) : List PyData := (List.range n).map fun j => oI (r j)
def gd (n : Nat) (G : Gr) : PyData := .list ((List.range n).map fun i => .list (rwd n (G i)))
theorem rwd_len {n : Nat} {r : Nat → Option Int} : (rwd n r).length = n := by unfold rwd; rw [List.length_map, List.length_range]
theorem rwd_nmb {x : List Int} {n : Nat} (h : x.length = n) : x.map PyData.int = rwd n (nmb x) := by
  subst h
  unfold rwd nmb
  conv => lhs; rw [list_vec x]
  unfold vec
  rw [List.map_map]
  rfl
theorem ix_iq {k : Bool} {xs : List Int} {i : Nat} {P : PyData → Prop} (h : i < xs.length) (p : P (.int (xs.getD i 0))) : gIx (iq k xs) (.int (i : Nat)) P := by
  cases k with
  | true => show atQ (L2.atI _ _) P; rw [atI_i h]; exact p
  | false => show atQ (L2.atI _ _) P; rw [atI_i h]; exact p
theorem ix_ws {k : Bool} {ws : List (Option Int)} {i : Nat} {P : PyData → Prop} (h : i < ws.length) (p : P (oI (ws.getD i none))) : gIx (sqd k (ws.map oI)) (.int (i : Nat)) P := by
  have e : L2.atI (ws.map oI) ((i : Nat) : Int) = some (oI (ws.getD i none)) := atI_nat (by
    rw [List.getElem?_map, List.getElem?_eq_getElem h, List.getD_eq_getElem?_getD, List.getElem?_eq_getElem h]
    rfl)
  cases k with
  | true => show atQ (L2.atI _ _) P; rw [e]; exact p
  | false => show atQ (L2.atI _ _) P; rw [e]; exact p
theorem isN_oI {o : Option Int} : isN (oI o) = o.isNone := by cases o <;> rfl
section
variable {k kw ks row : Bool} {rooms h0 x y : List Int} {ws : List (Option Int)} {G H : Gr} {Q : PyData → Prop} {i j n : Nat}
theorem behind_of (n0 : 0 < rooms.length) (q : Q (.int (gbI row rooms.length i))) : F_gate_behind [.dt (ln k row rooms), .dt (.int (i : Nat))] Q := by
  have e : if decide (fm row = "ring") = true then ((0 : Int) < ((rooms.map PyData.int).length : Nat) ∧ Q (.int (((i : Nat) - 1 : Int) % ((rooms.map PyData.int).length : Nat)))) else Q (.int ((i : Nat) - 1 : Int)) := by
    rw [fm_ring, len_i]
    unfold gbI at q
    cases row with
    | true => exact q
    | false => exact ⟨by omega, q⟩
  unfold F_gate_behind
  cases k with
  | true => exact ⟨rfl, e⟩
  | false => exact ⟨rfl, e⟩
theorem isGate_of (h : i < nG row rooms) (q : Q (.bool true)) : F_is_gate [.dt (ln k row rooms), .dt (.int (i : Nat))] Q := by
  unfold F_is_gate
  refine ⟨rfl, num_of ?_⟩
  show if decide ((0 : Int) ≤ (i : Nat)) = true then _ else _
  rw [if_pos (decide_eq_true (by omega))]
  refine gates_of ?_
  show Q (.bool (decide ((i : Int) < (gts row rooms.length : Nat))))
  rw [decide_eq_true (by have : i < gts row rooms.length := h; omega)]
  exact q
theorem costs_fo (n0 : 0 < rooms.length) (lh : h0.length = rooms.length) (lw : ws.length = nG row rooms) (hi : i < nG row rooms) (hj : j < nG row rooms) (q : Q (.list ((cl1 row rooms h0 ws i j).map PyData.int))) :
    F_costs [.dt (ln k row rooms), .dt (sqd kw (ws.map oI)), .dt (iq ks h0), .dt (.int (i : Nat)), .dt (.int (j : Nat))] Q := by
  have s3 : ∀ (acc : List Int), acc.length < 1000 → Q (.list ((acc ++ if (i : Int) = gbI row rooms.length j then [rooms.getD i 0 - h0.getD i 0] else []).map PyData.int)) →
      sSeq (sIf (fTest (eBin gEq (eVar 3) (eCall F_gate_behind (aCons (eVar 0) (aCons (eVar 4) aNil))))) (sApp 7 (eBin (gI fun i j => i - j) (eBin gIx (eVar 6) (eVar 3)) (eBin gIx (eVar 2) (eVar 3)))) sSkip) (sRetO 7)
        [.dt (ln k row rooms), .dt (sqd kw (ws.map oI)), .dt (iq ks h0), .dt (.int (i : Nat)), .dt (.int (j : Nat)), .dt (.str (fm row)), .dt (iq k rooms), .own (acc.map PyData.int)] { nx := fun _ => Q .none, rt := Q, rl := fun ds => Q (.list ds) } := fun acc ha hq => by
    refine behind_of n0 ?_
    show if decide ((i : Int) = gbI row rooms.length j) = true then _ else _
    by_cases z : (i : Int) = gbI row rooms.length j
    · rw [if_pos z] at hq
      rw [if_pos (decide_eq_true z)]
      have hi2 := ((gb_iff n0 hj hi).mp z).1
      refine ix_iq hi2 (ix_iq (by omega) ?_)
      refine ⟨by rw [len_i]; omega, ?_⟩
      rw [List.map_append] at hq
      exact hq
    · rw [if_neg z, List.append_nil] at hq
      rw [if_neg (by rw [decide_eq_true_eq]; exact z)]
      exact hq
  have s2 : ∀ (acc : List Int), acc.length < 900 → Q (.list (((acc ++ if (j : Int) = gbI row rooms.length i then [h0.getD j 0] else []) ++ if (i : Int) = gbI row rooms.length j then [rooms.getD i 0 - h0.getD i 0] else []).map PyData.int)) →
      sSeq (sIf (fTest (eBin gEq (eVar 4) (eCall F_gate_behind (aCons (eVar 0) (aCons (eVar 3) aNil))))) (sApp 7 (eBin gIx (eVar 2) (eVar 4))) sSkip) (sSeq (sIf (fTest (eBin gEq (eVar 3) (eCall F_gate_behind (aCons (eVar 0) (aCons (eVar 4) aNil))))) (sApp 7 (eBin (gI fun i j => i - j) (eBin gIx (eVar 6) (eVar 3)) (eBin gIx (eVar 2) (eVar 3)))) sSkip) (sRetO 7))
        [.dt (ln k row rooms), .dt (sqd kw (ws.map oI)), .dt (iq ks h0), .dt (.int (i : Nat)), .dt (.int (j : Nat)), .dt (.str (fm row)), .dt (iq k rooms), .own (acc.map PyData.int)] { nx := fun _ => Q .none, rt := Q, rl := fun ds => Q (.list ds) } := fun acc ha hq => by
    refine behind_of n0 ?_
    show if decide ((j : Int) = gbI row rooms.length i) = true then _ else _
    by_cases z : (j : Int) = gbI row rooms.length i
    · rw [if_pos z] at hq
      rw [if_pos (decide_eq_true z)]
      have hj2 := ((gb_iff n0 hi hj).mp z).1
      refine ix_iq (by omega) ?_
      refine ⟨by rw [len_i]; omega, ?_⟩
      have h := s3 (acc ++ [h0.getD j 0]) (by rw [List.length_append]; simp; omega) hq
      rw [List.map_append] at h
      exact h
    · rw [if_neg z, List.append_nil] at hq
      rw [if_neg (by rw [decide_eq_true_eq]; exact z)]
      exact s3 acc (by omega) hq
  have s1 : sSeq (sIf (fAnd (fTest (eBin gEq (eVar 3) (eVar 4))) (fTest (eBin gIsNot (eBin gIx (eVar 1) (eVar 3)) (eC .none)))) (sApp 7 (eBin gIx (eVar 1) (eVar 3))) sSkip) (sSeq (sIf (fTest (eBin gEq (eVar 4) (eCall F_gate_behind (aCons (eVar 0) (aCons (eVar 3) aNil))))) (sApp 7 (eBin gIx (eVar 2) (eVar 4))) sSkip) (sSeq (sIf (fTest (eBin gEq (eVar 3) (eCall F_gate_behind (aCons (eVar 0) (aCons (eVar 4) aNil))))) (sApp 7 (eBin (gI fun i j => i - j) (eBin gIx (eVar 6) (eVar 3)) (eBin gIx (eVar 2) (eVar 3)))) sSkip) (sRetO 7)))
        [.dt (ln k row rooms), .dt (sqd kw (ws.map oI)), .dt (iq ks h0), .dt (.int (i : Nat)), .dt (.int (j : Nat)), .dt (.str (fm row)), .dt (iq k rooms), .own []] { nx := fun _ => Q .none, rt := Q, rl := fun ds => Q (.list ds) } := by
    unfold cl1 at q
    show if decide (((i : Nat) : Int) = ((j : Nat) : Int)) = true then _ else _
    by_cases z : i = j
    · rw [if_pos (decide_eq_true (by omega))]
      rw [if_pos z] at q
      refine ix_ws (by omega) ?_
      show if (!isN (oI (ws.getD i none))) = true then _ else _
      rw [isN_oI]
      cases e : ws.getD i none with
      | none =>
        rw [e] at q
        exact s2 [] (by decide) q
      | some w =>
        rw [e] at q
        show if (!false) = true then _ else _
        rw [if_pos (show (!false) = true from rfl)]
        refine ix_ws (by omega) ?_
        rw [e]
        exact ⟨by show 0 < 1000000; decide, s2 [w] (by show 1 < 900; decide) q⟩
    · rw [if_neg (by rw [decide_eq_true_eq]; omega)]
      rw [if_neg z] at q
      exact s2 [] (by decide) q
  unfold F_costs
  cases k with
  | true => exact ⟨rfl, s1⟩
  | false => exact ⟨rfl, s1⟩
theorem minQ_of {l : List Int} (q : Q (oI (mnO l))) : minQ Q .none (.list (l.map PyData.int)) := by
  refine ⟨l, rfl, ?_⟩
  cases l with
  | nil => exact .inl ⟨rfl, q⟩
  | cons a r =>
    refine .inr ⟨by simp, fun m h1 h2 => ?_⟩
    rw [mn_is h1 h2]
    exact q
theorem cost_of (n0 : 0 < rooms.length) (lh : h0.length = rooms.length) (lw : ws.length = nG row rooms) (hi : i < nG row rooms) (hj : j < nG row rooms) (q : Q (oI (c1 row rooms h0 ws i j))) :
    F_cost [.dt (ln k row rooms), .dt (sqd kw (ws.map oI)), .dt (iq ks h0), .dt (.int (i : Nat)), .dt (.int (j : Nat))] Q := by
  unfold F_cost
  refine ⟨rfl, isGate_of hi (isGate_of hj ?_)⟩
  exact costs_fo n0 lh lw hi hj (minQ_of q)
theorem rng_at {n i : Nat} {d : PyData} (h : (rangeD 0 n)[i]? = some d) : i < n ∧ d = .int (i : Nat) := by
  unfold rangeD at h
  rw [List.getElem?_map] at h
  by_cases z : i < n
  · rw [List.getElem?_range z] at h
    exact ⟨z, by have h : PyData.int (0 + (i : Nat)) = d := Option.some.inj h; rw [← h, Int.zero_add]⟩
  · rw [List.getElem?_eq_none (by rw [List.length_range]; omega)] at h
    cases h
theorem comp_row {g : FG} {te : FE} {ρ : List Sl} {R : List PyData → Prop} {ds : List PyData} {n : Nat} (f : Nat → PyData) (hn : ds.length = n) (hs : ∀ i d, i < n → ds[i]? = some d → ∀ P : PyData → Prop, P (f i) → g d ρ fun ρ' => te ρ' P) (q : R ((List.range n).map f)) : compD g fYes te ρ ds [] R := by
  refine comp_at f ds [] 0 (fun i d hd P hp => hs i d (by rw [← hn]; exact (List.getElem?_eq_some_iff.mp hd).1) hd P (by rw [Nat.zero_add] at hp; exact hp)) ?_
  rw [hn, List.nil_append, ← List.range_eq_range']
  exact q
theorem grid1_of (n0 : 0 < rooms.length) (nz : rooms.length ≤ 1000) (lh : h0.length = rooms.length) (lw : ws.length = nG row rooms) (q : Q (gd (nG row rooms) (c1 row rooms h0 ws))) :
    F_grid_of_one [.dt (ln k row rooms), .dt (sqd kw (ws.map oI)), .dt (iq ks h0)] Q := by
  have gb : gts row rooms.length ≤ 1001 := by unfold gts; split <;> omega
  unfold F_grid_of_one
  refine ⟨rfl, gates_of ?_⟩
  refine ⟨⟨by omega, by omega⟩, ?_⟩
  rw [Int.toNat_natCast]
  refine ⟨by rw [range_len]; omega, comp_row (fun i => .list (rwd (nG row rooms) (c1 row rooms h0 ws i))) range_len (fun i d hi hd P hp => ?_) q⟩
  obtain ⟨_, rfl⟩ := rng_at hd
  refine ⟨⟨by omega, by omega⟩, ?_⟩
  rw [Int.toNat_natCast]
  refine ⟨by rw [range_len]; omega, comp_row (fun j => oI (c1 row rooms h0 ws i j)) range_len (fun j d hj hd P hp => ?_) hp⟩
  obtain ⟨_, rfl⟩ := rng_at hd
  exact cost_of n0 lh lw hi hj hp
theorem gd_at {n i : Nat} {G : Gr} {d : PyData} (h : ((List.range n).map fun i => PyData.list (rwd n (G i)))[i]? = some d) : i < n ∧ d = .list (rwd n (G i)) := by
  rw [List.getElem?_map] at h
  by_cases z : i < n
  · rw [List.getElem?_range z] at h
    exact ⟨z, (Option.some.inj h).symm⟩
  · rw [List.getElem?_eq_none (by rw [List.length_range]; omega)] at h
    cases h
theorem rwd_get {n j : Nat} {r : Nat → Option Int} (h : j < n) : (rwd n r).getD j .none = oI (r j) := by
  unfold rwd
  rw [List.getD_eq_getElem?_getD, List.getElem?_map, List.getElem?_range h]
  rfl
theorem columns_fo (n0 : 0 < n) (n9 : n ≤ 25) (q : Q (gd n fun j i => G i j)) : F_columns_of [.dt (gd n G)] Q := by
  unfold F_columns_of
  refine ⟨rfl, (List.range n).map fun i => rwd n (G i), n, ?_, ?_, ?_, ?_, ?_⟩
  · rw [List.map_map]
    rfl
  · intro e
    have := congrArg List.length e
    rw [List.length_map, List.length_range] at this
    simp at this
    omega
  · rw [List.length_map, List.length_range]
    exact n9
  · intro r hr
    obtain ⟨i, _, rfl⟩ := List.mem_map.mp hr
    exact rwd_len
  · have lc : (colD ((List.range n).map fun i => rwd n (G i)) n).length = n := by unfold colD; rw [List.length_map, List.length_range]
    refine ⟨by omega, comp_row (fun j => .list (rwd n fun i => G i j)) lc (fun j d hj hd P hp => ?_) q⟩
    have e : d = .tuple (rwd n fun i => G i j) := by
      unfold colD at hd
      rw [List.getElem?_map, List.getElem?_range hj] at hd
      have hd := Option.some.inj hd
      rw [← hd]
      show PyData.tuple (((List.range n).map fun i => rwd n (G i)).map fun r => r.getD j .none) = _
      rw [List.map_map]
      congr 1
      unfold rwd
      refine List.map_congr_left fun i _ => ?_
      show ((List.range n).map fun j => oI (G i j)).getD j .none = oI (G i j)
      exact rwd_get (r := G i) hj
    rw [e]
    exact hp
theorem zip_rwd {n : Nat} {r c : Nat → Option Int} : zipD (rwd n r) (rwd n c) = (List.range n).map fun j => .tuple [oI (r j), oI (c j)] := by
  unfold zipD rwd
  rw [List.zipWith_map]
  induction List.range n with
  | nil => rfl
  | cons a l ih =>
    rw [List.zipWith_cons_cons, ih]
    rfl
def plD : PyData → Option PyData
  | .tuple [.int a, .int b] => some (.int (a + b))
  | _ => none
theorem pl_oI {a b : Option Int} : plD (.tuple [oI a, oI b]) = (opl a b).map PyData.int := by cases a <;> cases b <;> rfl
theorem least_fo {k2 : Bool} {r c : Nat → Option Int} (hz : n ≤ 1000) (q : Q (oI (lsm n r c))) : F_least_sum [.dt (.list (rwd n r)), .dt (.list (rwd n c))] Q := by
  have e : (zipD (rwd n r) (rwd n c)).filterMap plD = (sums n r c).map PyData.int := by
    rw [zip_rwd, List.filterMap_map]
    unfold sums
    rw [List.map_filterMap]
    refine congrArg (fun f => List.filterMap f (List.range n)) (funext fun j => ?_)
    exact pl_oI
  have lz : (zipD (rwd n r) (rwd n c)).length = n := zip_len rwd_len rwd_len
  unfold F_least_sum
  refine ⟨rfl, show (zipD (rwd n r) (rwd n c)).length ≤ 1000000 ∧ _ from ⟨by omega, comp_fm plD _ _ (fun d hd A B ya no => ?_) ?_⟩⟩
  · rw [zip_rwd] at hd
    obtain ⟨j, _, rfl⟩ := List.mem_map.mp hd
    cases ea : r j with
    | none =>
      rw [ea] at no
      exact no rfl
    | some a =>
      cases eb : c j with
      | none =>
        rw [ea, eb] at no
        exact no rfl
      | some b =>
        rw [ea, eb] at ya
        exact ya _ rfl
  · rw [List.nil_append, e]
    exact minQ_of q
end
end Kd
namespace Kd
open PySem PySem.Spec PyProof.Rows L2 Xg Dv
section
variable {k kw ks row : Bool} {rooms h0 x y : List Int} {ws : List (Option Int)} {G H : Gr} {Q : PyData → Prop} {i j n m : Nat}
theorem ledBy_of (g : Gk row rooms h0 ws m G) (nz : rooms.length ≤ 900) (lx : x.length = nG row rooms) (q : Q (iq false (ledG (nG row rooms) G x))) : F_led_by [.dt (gd (nG row rooms) G), .dt (iq false x)] Q := by
  have gb : nG row rooms ≤ 901 := by show gts row rooms.length ≤ 901; unfold gts; split <;> omega
  have lg : ((List.range (nG row rooms)).map fun i => PyData.list (rwd (nG row rooms) (G i))).length = nG row rooms := by rw [List.length_map, List.length_range]
  unfold F_led_by
  refine ⟨rfl, show _ ∧ _ from ⟨by rw [lg]; omega, comp_vec _ lg (fun i d hd P hp => ?_) q⟩⟩
  obtain ⟨hi, rfl⟩ := gd_at hd
  show F_least_sum [.dt (.list (rwd (nG row rooms) (G i))), .dt (.list (x.map PyData.int))] P
  rw [rwd_nmb lx]
  refine least_fo (k2 := true) (by omega) ?_
  obtain ⟨z, e⟩ := g.ex (x := x) hi
  rw [e] at hp ⊢
  exact hp
theorem neg_vec {x : List Int} (lx : x.length = n) : (vec n fun i => -x.getD i 0).map PyData.int = rwd n (ngb x) := by
  unfold rwd ngb vec
  rw [List.map_map]
  rfl
theorem chained_of (n0 : 0 < n) (n9 : n ≤ 25) (q : Q (gd n (chG n G H))) : F_chained [.dt (gd n G), .dt (gd n H)] Q := by
  have lg : ((List.range n).map fun i => PyData.list (rwd n (G i))).length = n := by rw [List.length_map, List.length_range]
  have lh : ((List.range n).map fun j => PyData.list (rwd n fun i => H i j)).length = n := by rw [List.length_map, List.length_range]
  unfold F_chained
  refine ⟨rfl, columns_fo n0 n9 ?_⟩
  refine show _ ∧ _ from ⟨by rw [lg]; omega, comp_row (fun i => .list (rwd n (chG n G H i))) lg (fun i d hi hd P hp => ?_) q⟩
  obtain ⟨_, rfl⟩ := gd_at hd
  refine show _ ∧ _ from ⟨by rw [lh]; omega, comp_row (fun m => oI (chG n G H i m)) lh (fun m d hm hd P hp => ?_) hp⟩
  obtain ⟨_, rfl⟩ := gd_at (G := fun j i => H i j) hd
  exact least_fo (k2 := true) (by omega) hp
def gds (row : Bool) (rooms h0 : List Int) (ws : List (Option Int)) (L : Nat) : List PyData := (List.range L).map fun t => gd (nG row rooms) (pw row rooms h0 ws t)
def bl1 (many : Nat) : Nat := max 1 (Builtin.Int.intBits (many : Int))
theorem bl1_lt {many t : Nat} (h : bl1 many ≤ t) : many < 2 ^ t := by
  have : Builtin.Int.intBits (many : Int) ≤ t := Nat.le_trans (Nat.le_max_right ..) h
  have z := PySem.intBits_le_iff.mp this
  rw [Int.natAbs_natCast] at z
  exact z
theorem doubled_of {many : Nat} (hm : many < 2 ^ 1000) (n0 : 0 < rooms.length) (nz : rooms.length ≤ 24) (lh : h0.length = rooms.length) (lw : ws.length = nG row rooms) (q : Q (.list (gds row rooms h0 ws (bl1 many)))) :
    F_doubled_grids [.dt (ln k row rooms), .dt (sqd kw (ws.map oI)), .dt (iq ks h0), .dt (.int (many : Nat))] Q := by
  have gb : 0 < nG row rooms ∧ nG row rooms ≤ 25 := by show 0 < gts row rooms.length ∧ gts row rooms.length ≤ 25; unfold gts; split <;> omega
  have bb : Builtin.Int.intBits (many : Int) ≤ 1000 := PySem.intBits_le_iff.mpr (by rw [Int.natAbs_natCast]; exact hm)
  unfold F_doubled_grids
  refine ⟨rfl, grid1_of n0 (by omega) lh lw ?_⟩
  refine ⟨fun w ρ => ∃ t, 1 ≤ t ∧ t ≤ bl1 many ∧ w = bl1 many - t ∧ ρ = [.dt (ln k row rooms), .dt (sqd kw (ws.map oI)), .dt (iq ks h0), .dt (.int (many : Nat)), .own (gds row rooms h0 ws t)], ⟨bl1 many - 1, 1, Nat.le_refl _, Nat.le_max_left .., rfl, rfl⟩, fun w ρ h => ?_⟩
  obtain ⟨t, t1, tb, rfl, rfl⟩ := h
  have ll : (gds row rooms h0 ws t).length = t := by
    unfold gds
    rw [List.length_map, List.length_range]
  obtain ⟨t', rfl⟩ : ∃ t', t = t' + 1 := ⟨t - 1, by omega⟩
  have la : gds row rooms h0 ws (t' + 1) = (List.range t').map (fun t => gd (nG row rooms) (pw row rooms h0 ws t)) ++ [gd (nG row rooms) (pw row rooms h0 ws t')] := by
    unfold gds
    rw [List.range_succ, List.map_append]
    rfl
  have bm : bl1 many ≤ 1000 := Nat.max_le.mpr ⟨by omega, bb⟩
  show if decide (((gds row rooms h0 ws (t' + 1)).length : Int) < (Builtin.Int.intBits (many : Int) : Nat)) = true then _ else _
  rw [ll]
  by_cases z : t' + 1 < Builtin.Int.intBits (many : Int)
  · rw [if_pos (decide_eq_true (by omega))]
    show atQ (L2.atI (gds row rooms h0 ws (t' + 1)) (-1)) _
    rw [la, atI_last]
    show atQ (L2.atI (_ ++ [gd (nG row rooms) (pw row rooms h0 ws t')]) (-1)) _
    rw [atI_last, ← la]
    refine chained_of gb.1 gb.2 ?_
    have zb : t' + 1 + 1 ≤ bl1 many := Nat.le_trans z (Nat.le_max_right ..)
    refine ⟨by omega, bl1 many - (t' + 1 + 1), by omega, t' + 1 + 1, by omega, zb, rfl, ?_⟩
    have nx : gds row rooms h0 ws (t' + 1) ++ [gd (nG row rooms) (chG (nG row rooms) (pw row rooms h0 ws t') (pw row rooms h0 ws t'))] = gds row rooms h0 ws (t' + 1 + 1) := by
      unfold gds
      rw [List.range_succ (n := t' + 1), List.map_append]
      rfl
    rw [nx]
    rfl
  · rw [if_neg (by rw [decide_eq_true_eq]; omega)]
    have e : t' + 1 = bl1 many := Nat.le_antisymm tb (Nat.max_le.mpr ⟨by omega, by omega⟩)
    rw [← e] at q
    exact q
def bit (many t : Nat) : Bool := decide (many / 2 ^ t % 2 = 1)
def gin (row : Bool) (rooms h0 : List Int) (ws : List (Option Int)) (many L : Nat) : List PyData := (List.range L).filterMap fun t => if bit many t = true then some (gd (nG row rooms) (pw row rooms h0 ws t)) else none
def inD (many : Nat) : PyData → Option PyData
  | .tuple [.int t, g] => if bit many t.toNat = true then some g else none
  | _ => none
theorem enum_range {f : Nat → PyData} : ∀ (L a : Nat), enumD a ((List.range' a L).map f) = (List.range' a L).map fun t => .tuple [.int (t : Nat), f t]
  | 0, a => rfl
  | L + 1, a => by
    rw [List.range'_succ, List.map_cons, List.map_cons]
    show _ :: enumD (a + 1) _ = _
    rw [enum_range L (a + 1)]
theorem enum_gds {L : Nat} : enumD 0 (gds row rooms h0 ws L) = (List.range L).map fun t => .tuple [.int (t : Nat), gd (nG row rooms) (pw row rooms h0 ws t)] := by
  unfold gds
  rw [List.range_eq_range']
  exact enum_range L 0
theorem bit_i {many t : Nat} : ((((many : Int) / 2 ^ t) % 2) != 0) = bit many t := by
  have e : ((many : Int) / 2 ^ t) % 2 = ((many / 2 ^ t % 2 : Nat) : Int) := by simp
  rw [e]
  unfold bit
  have : many / 2 ^ t % 2 < 2 := Nat.mod_lt _ (by omega)
  by_cases z : many / 2 ^ t % 2 = 1
  · rw [z]; rfl
  · rw [show many / 2 ^ t % 2 = 0 by omega]; rfl
theorem gridsIn_of {many L : Nat} (hL : L ≤ 10000) (q : Q (.list (gin row rooms h0 ws many L))) : F_grids_in [.dt (.list (gds row rooms h0 ws L)), .dt (.int (many : Nat))] Q := by
  have e : (enumD 0 (gds row rooms h0 ws L)).filterMap (inD many) = gin row rooms h0 ws many L := by
    rw [enum_gds, List.filterMap_map]
    rfl
  unfold F_grids_in
  refine ⟨rfl, show (enumD 0 (gds row rooms h0 ws L)).length ≤ 1000000 ∧ _ from ⟨?_, comp_fm (inD many) _ _ (fun d hd A B ya no => ?_) ?_⟩⟩
  · rw [enum_gds, List.length_map, List.length_range]
    omega
  · rw [enum_gds] at hd
    obtain ⟨t, _, rfl⟩ := List.mem_map.mp hd
    refine ⟨by omega, ?_⟩
    show (0 ≤ (many : Int) / 2 ^ ((t : Nat) : Int).toNat ∧ (1 : Int) = 1) ∧ (if (((many : Int) / 2 ^ ((t : Nat) : Int).toNat) % 2 != 0) = true then _ else _)
    rw [Int.toNat_natCast, bit_i]
    refine ⟨⟨Int.ediv_nonneg (by omega) (Int.pow_nonneg (by omega)), rfl⟩, ?_⟩
    have ed : inD many (.tuple [.int (t : Nat), gd (nG row rooms) (pw row rooms h0 ws t)]) = if bit many t = true then some (gd (nG row rooms) (pw row rooms h0 ws t)) else none := rfl
    rw [ed] at ya no
    by_cases z : bit many t = true
    · rw [if_pos z] at ya ⊢
      exact ya _ rfl
    · rw [if_neg z] at no ⊢
      exact no rfl
  · rw [List.nil_append, e]
    exact q
end
end Kd
namespace Kd
open PySem PySem.Spec PyProof.Rows L2 Xg Dv
section
variable {k kw ks row : Bool} {rooms h0 x y : List Int} {ws : List (Option Int)} {G H : Gr} {Q : PyData → Prop} {i j n m : Nat}
structure Fg8 (row : Bool) (rooms h0 : List Int) (ws : List (Option Int)) : Prop where
  n0 : 0 < rooms.length
  nz : rooms.length ≤ 24
  lh : h0.length = rooms.length
  lw : ws.length = nG row rooms
abbrev zr (n : Nat) : List Int := vec n fun _ => 0
end
end Kd
namespace Ke
open PySem PySem.Spec PyProof.Rows L2 Xg Dv Kd
theorem pick_of {ds : List PyData} {Q : PyData → Prop} (h0 : 0 < ds.length) (hz : ds.length < 1000) (q : ∀ d ∈ ds, Q d) : F__law_pick [.box, .dt (.list ds)] Q := by
  unfold F__law_pick
  refine ⟨rfl, ⟨⟨by omega, by omega⟩, fun r r0 r1 => ?_⟩⟩
  show atQ (L2.atI ds r) Q
  have e : r = ((r.toNat : Nat) : Int) := by omega
  have l : r.toNat < ds.length := by omega
  rw [e, atI_nat (List.getElem?_eq_getElem l)]
  exact q _ (List.getElem_mem l)
theorem cut_mid {x y : PyData} {m : List PyData} : Dv.cutD (x :: (m ++ [y])) (some 1) (some (-1)) = m := by
  have l : (x :: (m ++ [y])).length = m.length + 2 := by simp
  have e : HT.sIx (m.length + 2) 0 (some 1) = 1 := by
    unfold HT.sIx
    simp
  have e' : HT.sIx (m.length + 2) (m.length + 2) (some (-1)) = m.length + 1 := by
    unfold HT.sIx
    simp
    omega
  unfold Dv.cutD
  rw [l, e, e']
  show (m ++ [y]).take m.length = m
  rw [List.take_left]
theorem take_of {n : Int} {Q : PyData → Prop} (h0 : 0 < n) (h1 : n < 4611686018427387904) (q : ∀ r, 0 ≤ r → r < n → Q (.int r)) : F_take [.box, .dt (.int n)] Q := ⟨⟨h0, h1⟩, q⟩
theorem lineB_of {most : Nat} {high : Int} {Q : PyData → Prop} (h0 : 2 ≤ most) (hm : most ≤ 90) (hh : 1 ≤ high ∧ high ≤ 1000000000) (q : ∀ row rooms, Ln row rooms most → Q (ln true row rooms)) : F__law_line [.box, .dt (.int (most : Nat)), .dt (.int high)] Q := by
  unfold F__law_line
  refine ⟨rfl, pick_of (by show 0 < 3; decide) (by show 3 < 1000; decide) fun f hf => pick_of (by show 0 < 4; decide) (by show 4 < 1000; decide) fun tp ht => ?_⟩
  obtain ⟨row, rfl⟩ : ∃ row, f = .str (fm row) := by
    simp only [List.mem_cons, List.not_mem_nil, or_false] at hf
    rcases hf with rfl | rfl | rfl
    · exact ⟨true, rfl⟩
    · exact ⟨true, rfl⟩
    · exact ⟨false, rfl⟩
  obtain ⟨top, rfl, t0, t1⟩ : ∃ top : Int, tp = .int top ∧ 1 ≤ top ∧ top ≤ 1000000000 := by
    simp only [List.mem_cons, List.not_mem_nil, or_false] at ht
    rcases ht with rfl | rfl | rfl | rfl
    · exact ⟨1, rfl, by omega, by omega⟩
    · exact ⟨2, rfl, by omega, by omega⟩
    · exact ⟨high, rfl, hh.1, hh.2⟩
    · exact ⟨high, rfl, hh.1, hh.2⟩
  show f__law_line_2 [.box, .dt (.int (most : Nat)), .dt (.int high), .dt (.str (fm row)), .dt (.int top), .no, .no, .no] _
  unfold f__law_line_2
  have main : ∀ least : Int, least = 1 + (if decide (fm row = "ring") = true then 1 else 0) → f__law_line_1 [.box, .dt (.int (most : Nat)), .dt (.int high), .dt (.str (fm row)), .dt (.int top), .dt (.int least), .no, .no] { nx := fun _ => Q .none, rt := Q, rl := fun ds => Q (.list ds) } := fun least hl => by
    rw [fm_ring] at hl
    have l2 : 1 ≤ least ∧ least ≤ 2 ∧ (row = false → least = 2) := by
      cases row with
      | true => rw [if_neg (by decide)] at hl; exact ⟨by omega, by omega, fun e => by cases e⟩
      | false => rw [if_pos (by decide)] at hl; exact ⟨by omega, by omega, fun e => by omega⟩
    unfold f__law_line_1
    refine (show F_take [.box, .dt (.int ((most : Nat) + 1 - least))] _ from take_of (by omega) (by omega) fun r r0 r1 => ?_)
    show f__law_line_0 [.box, .dt (.int (most : Nat)), .dt (.int high), .dt (.str (fm row)), .dt (.int top), .dt (.int least), .dt (.int (least + r)), .no] _
    unfold f__law_line_0
    refine ⟨⟨by omega, by omega⟩, ⟨by rw [range_len]; omega, ?_⟩⟩
    unfold rangeD
    refine comp_any (fun k : Nat => .int (0 + (k : Nat))) (fun y => ∃ x : Int, y = .int x ∧ 1 ≤ x ∧ x ≤ 1000000000) _ [] (fun x hx P hp => ?_) (fun ys hl hr => ?_)
    · exact take_of (by omega) (by omega) fun s s0 s1 => hp _ ⟨1 + s, rfl, by omega, by omega⟩
    obtain ⟨rooms, rfl, hR⟩ := ints_ex hr
    rw [List.length_map, List.length_range] at hl
    exact q row rooms ⟨by omega, fun e => by have := l2.2.2 e; omega, by omega, hR⟩
  exact main _ rfl
theorem gatesB_of {row : Bool} {rooms : List Int} {Q : PyData → Prop} (q : Q (.int (gts row rooms.length : Nat))) : F__law_gates [.dt (ln true row rooms)] Q := by
  unfold F__law_gates
  exact ⟨rfl, size_of (Q := Q) q⟩
abbrev wdBody : FS := (sSeq (sAsg (eCall F__law_pick (aBox 0 (aCons (eVar 3) aNil))) (gN 6)) f__law_widths_0)
theorem widthsB_of {row : Bool} {rooms : List Int} {high : Int} {Q : PyData → Prop} (hz : rooms.length ≤ 90) (n0 : 0 < rooms.length) (hh : 1 ≤ high ∧ high ≤ 1000000000) (q : ∀ ws, ws.length = gts row rooms.length → Dw ws → Q (sqd true (ws.map oI))) :
    F__law_widths [.box, .dt (ln true row rooms), .dt (.int high)] Q := by
  have gb : gts row rooms.length ≤ 91 ∧ 1 ≤ gts row rooms.length := by
    unfold gts
    split <;> omega
  unfold F__law_widths
  refine ⟨rfl, pick_of (by show 0 < 5; decide) (by show 5 < 1000; decide) fun sm hs => ?_⟩
  obtain ⟨os, rfl, o0, o1, oD⟩ : ∃ os : List (Option Int), sm = .list (os.map oI) ∧ 0 < os.length ∧ os.length < 1000 ∧ Dw os := by
    have dh : Dr (some high) := dr_some ⟨by omega, hh.2⟩
    have d0 : Dr (some 0) := dr_some ⟨by decide, by decide⟩
    have d1 : Dr (some 1) := dr_some ⟨by decide, by decide⟩
    have d2 : Dr (some 2) := dr_some ⟨by decide, by decide⟩
    simp only [List.mem_cons, List.not_mem_nil, or_false] at hs
    rcases hs with rfl | rfl | rfl | rfl | rfl
    · exact ⟨[none], rfl, by decide, by decide, fun w hw => by simp at hw; rw [hw]; exact dr_none⟩
    · exact ⟨[none, none, some high], rfl, by show 0 < 3; decide, by show 3 < 1000; decide, fun w hw => by
        simp only [List.mem_cons, List.not_mem_nil, or_false] at hw
        rcases hw with rfl | rfl | rfl
        · exact dr_none
        · exact dr_none
        · exact dh⟩
    · exact ⟨[some high], rfl, by show 0 < 1; decide, by show 1 < 1000; decide, fun w hw => by simp at hw; rw [hw]; exact dh⟩
    · exact ⟨[some 0, some 1, some high, none], rfl, by show 0 < 4; decide, by show 4 < 1000; decide, fun w hw => by
        simp only [List.mem_cons, List.not_mem_nil, or_false] at hw
        rcases hw with rfl | rfl | rfl | rfl
        · exact d0
        · exact d1
        · exact dh
        · exact dr_none⟩
    · exact ⟨[some 1, some 2, some high], rfl, by show 0 < 3; decide, by show 3 < 1000; decide, fun w hw => by
        simp only [List.mem_cons, List.not_mem_nil, or_false] at hw
        rcases hw with rfl | rfl | rfl
        · exact d1
        · exact d2
        · exact dh⟩
  show f__law_widths_4 [.box, .dt (ln true row rooms), .dt (.int high), .dt (.list (os.map oI)), .no, .no, .no] _
  unfold f__law_widths_4
  show f__law_widths_3 [.box, .dt (ln true row rooms), .dt (.int high), .dt (.list (os.map oI)), .own [], .no, .no] _
  unfold f__law_widths_3
  refine gatesB_of ?_
  have last : ∀ (acc : List (Option Int)) (s5 s6 : Sl), Dw acc → acc.length = gts row rooms.length → f__law_widths_2 [.box, .dt (ln true row rooms), .dt (.int high), .dt (.list (os.map oI)), .own (acc.map oI), s5, s6] { nx := fun _ => Q .none, rt := Q, rl := fun ds => Q (.list ds) } := fun acc s5 s6 hA hl => by
    have l1 : ∀ (ac : List (Option Int)), Dw ac → ac.length = gts row rooms.length → f__law_widths_1 [.box, .dt (ln true row rooms), .dt (.int high), .dt (.list (os.map oI)), .own (ac.map oI), s5, s6] { nx := fun _ => Q .none, rt := Q, rl := fun ds => Q (.list ds) } := fun ac h1 h2 => by
      unfold f__law_widths_1
      exact q ac h2 h1
    unfold f__law_widths_2
    show if decide (fm row = "row") = true then _ else _
    rw [fm_row]
    cases row with
    | false => exact l1 acc hA hl
    | true =>
      rw [if_pos rfl]
      refine take_of (by decide) (by decide) fun t t0 t1 => ?_
      show if decide (t = 0) = true then _ else _
      by_cases z : t = 0
      · rw [if_pos (decide_eq_true z)]
        have hl' : acc.length = rooms.length + 1 := hl
        have l0 : ∃ a m b, acc = a :: (m ++ [b]) := by
          cases acc with
          | nil => simp at hl'
          | cons a r =>
            have : r ≠ [] := fun e => by rw [e] at hl'; have hl' : 1 = rooms.length + 1 := hl'; omega
            exact ⟨a, r.dropLast, r.getLast this, by rw [List.dropLast_concat_getLast]⟩
        obtain ⟨a, m, b, rfl⟩ := l0
        have ek : ∀ P : List PyData → Prop, P (([some 0] ++ m ++ [some 0]).map oI) → fCat (eBin gAdd (eLst (dCons (eC (.int 0)) dNil)) (eSl (eVarV 4) (oSome (eC (.int 1))) (oSome (eUn negD (eC (.int 1)))))) (eLst (dCons (eC (.int 0)) dNil)) [.box, .dt (ln true true rooms), .dt (.int high), .dt (.list (os.map oI)), .own ((a :: (m ++ [b])).map oI), s5, s6] P := fun P hp => by
          show [PyData.int 0].length + (Dv.cutD (oI a :: (m ++ [b]).map oI) (some 1) (some (-1))).length ≤ 1000000 ∧ (([PyData.int 0] ++ Dv.cutD (oI a :: (m ++ [b]).map oI) (some 1) (some (-1))).length + [PyData.int 0].length ≤ 1000000 ∧ P (([PyData.int 0] ++ Dv.cutD (oI a :: (m ++ [b]).map oI) (some 1) (some (-1))) ++ [PyData.int 0]))
          rw [List.map_append, List.map_cons, List.map_nil, cut_mid]
          have lm : (m.map oI).length ≤ 100 := by
            rw [List.length_map]
            simp at hl'
            omega
          refine ⟨by show 1 + _ ≤ _; omega, by rw [List.length_append]; show 1 + _ + 1 ≤ _; omega, ?_⟩
          rw [List.map_append, List.map_append] at hp
          exact hp
        refine ek _ ?_
        refine l1 ([some 0] ++ m ++ [some 0]) (fun w hw => ?_) (by simp at hl' ⊢; show m.length + 1 + 1 = rooms.length + 1; omega)
        simp only [List.mem_append, List.mem_singleton] at hw
        rcases hw with (rfl | hw) | rfl
        · exact dr_some ⟨by decide, by decide⟩
        · exact hA w (by simp [hw])
        · exact dr_some ⟨by decide, by decide⟩
      · rw [if_neg (by rw [decide_eq_true_eq]; exact z)]
        exact l1 acc hA hl
  have loop : ∀ (n : Nat) (ks : List PyData), ks.length = n → ∀ (acc : List (Option Int)) (s5 s6 : Sl), Dw acc → acc.length + n = gts row rooms.length →
      forD (gN 5) wdBody ks [.box, .dt (ln true row rooms), .dt (.int high), .dt (.list (os.map oI)), .own (acc.map oI), s5, s6] { nx := fun ρ' => f__law_widths_2 ρ' { nx := fun _ => Q .none, rt := Q, rl := fun ds => Q (.list ds) }, rt := Q, rl := fun ds => Q (.list ds) } := by
    intro n
    induction n with
    | zero =>
      intro ks hk acc s5 s6 hA hlA
      cases ks with
      | cons => cases hk
      | nil => exact last acc s5 s6 hA hlA
    | succ n ih =>
      intro ks hk acc s5 s6 hA hlA
      cases ks with
      | nil => cases hk
      | cons d ks =>
      rw [List.length_cons] at hk
      refine (show F__law_pick [.box, .dt (.list (os.map oI))] _ from pick_of (by rw [List.length_map]; exact o0) (by rw [List.length_map]; exact o1) fun wd hwd => ?_)
      obtain ⟨w, hw, rfl⟩ := List.mem_map.mp hwd
      have dw := oD w hw
      have add : ∀ v : Option Int, Dr v → (acc.map oI).length < 1000000 ∧ forD (gN 5) wdBody ks ([.box, .dt (ln true row rooms), .dt (.int high), .dt (.list (os.map oI)), .own (acc.map oI ++ [oI v]), .dt d, .dt (oI w)] : List Sl) { nx := fun ρ' => f__law_widths_2 ρ' { nx := fun _ => Q .none, rt := Q, rl := fun ds => Q (.list ds) }, rt := Q, rl := fun ds => Q (.list ds) } := fun v hv => by
        refine ⟨by rw [List.length_map]; omega, ?_⟩
        have z := ih ks (by omega) (acc ++ [v]) (.dt d) (.dt (oI w)) (fun x hx => by
          rcases List.mem_append.mp hx with hx | hx
          · exact hA x hx
          · rw [List.mem_singleton.mp hx]; exact hv) (by rw [List.length_append, List.length_singleton]; omega)
        rw [List.map_append] at z
        exact z
      show f__law_widths_0 [.box, .dt (ln true row rooms), .dt (.int high), .dt (.list (os.map oI)), .own (acc.map oI), .dt d, .dt (oI w)] _
      unfold f__law_widths_0
      cases w with
      | none => exact add none dr_none
      | some x =>
        have hx := dw x rfl
        show if decide (x < 3) = true then _ else _
        by_cases z : x < 3
        · rw [if_pos (decide_eq_true z)]
          exact add (some x) dw
        · rw [if_neg (by rw [decide_eq_true_eq]; exact z)]
          exact take_of (by omega) (by omega) fun s s0 s1 => add (some (1 + s)) (dr_some ⟨by omega, by omega⟩)
  refine ⟨⟨by omega, by omega⟩, by rw [range_len]; omega, loop (gts row rooms.length) _ (by rw [range_len]; omega) [] .no .no (fun w hw => nomatch hw) (by simp)⟩
end Ke
namespace Ke
open PySem PySem.Spec PyProof.Rows L2 Xg Dv Kd
abbrev ltBody : FS := (sSeq (sAsg (eCall F_take (aBox 0 (aCons (eBin gAdd (eVar 4) (eC (.int 1))) aNil))) (gN 5)) f__law_lot_0)
theorem lotB_of {row : Bool} {rooms : List Int} {Q : PyData → Prop} (hz : rooms.length ≤ 90) (R : Rm rooms) (q : ∀ hs, Vd rooms hs → Q (iq true hs)) : F__law_lot [.box, .dt (ln true row rooms)] Q := by
  unfold F__law_lot
  refine ⟨rfl, ⟨⟨by decide, by decide⟩, fun t t0 t1 => ?_⟩⟩
  show f__law_lot_3 [.box, .dt (ln true row rooms), .dt (.int t), .no, .no, .no] _
  unfold f__law_lot_3
  show f__law_lot_2 [.box, .dt (ln true row rooms), .dt (.int t), .own [], .no, .no] _
  unfold f__law_lot_2
  have loop : ∀ (rs acc : List Int) (s4 s5 : Sl), acc.length + rs.length ≤ 90 → (∀ x ∈ rs, 1 ≤ x ∧ x ≤ 1000000000) → (∀ ys, All2 (fun r h => 0 ≤ h ∧ h ≤ r) rs ys → Q (iq true (acc ++ ys))) →
      forD (gN 4) ltBody (rs.map PyData.int) [.box, .dt (ln true row rooms), .dt (.int t), .own (acc.map PyData.int), s4, s5] { nx := fun ρ' => f__law_lot_1 ρ' { nx := fun _ => Q .none, rt := Q, rl := fun ds => Q (.list ds) }, rt := Q, rl := fun ds => Q (.list ds) } := by
    intro rs
    induction rs with
    | nil =>
      intro acc s4 s5 _ _ hq
      show f__law_lot_1 _ _
      unfold f__law_lot_1
      have z := hq [] .nil
      rw [List.append_nil] at z
      exact z
    | cons r rs ih =>
      intro acc s4 s5 hl hR hq
      rw [List.length_cons] at hl
      have hr := hR r (List.mem_cons_self ..)
      refine (show (0 < r + 1 ∧ r + 1 < 4611686018427387904) ∧ _ from ⟨⟨by omega, by omega⟩, fun s s0 s1 => ?_⟩)
      show f__law_lot_0 [.box, .dt (ln true row rooms), .dt (.int t), .own (acc.map PyData.int), .dt (.int r), .dt (.int s)] _
      unfold f__law_lot_0
      have add : ∀ v : Int, 0 ≤ v ∧ v ≤ r → (acc.map PyData.int).length < 1000000 ∧ forD (gN 4) ltBody (rs.map PyData.int) ([.box, .dt (ln true row rooms), .dt (.int t), .own (acc.map PyData.int ++ [.int v]), .dt (.int r), .dt (.int s)] : List Sl) { nx := fun ρ' => f__law_lot_1 ρ' { nx := fun _ => Q .none, rt := Q, rl := fun ds => Q (.list ds) }, rt := Q, rl := fun ds => Q (.list ds) } := fun v hv => by
        refine ⟨by rw [len_i]; omega, ?_⟩
        have z := ih (acc ++ [v]) (.dt (.int r)) (.dt (.int s)) (by rw [List.length_append, List.length_singleton]; omega) (fun x hx => hR x (List.mem_cons_of_mem _ hx)) (fun ys hy => by
          have z := hq (v :: ys) (.cons hv hy)
          rw [List.append_assoc]
          exact z)
        rw [List.map_append] at z
        exact z
      show if decide (t = 0) = true then _ else _
      by_cases z : t = 0
      · rw [if_pos (decide_eq_true z)]
        refine (show F_take [.box, .dt (.int 3)] _ from take_of (by decide) (by decide) fun u u0 u1 => ?_)
        have c : u = 0 ∨ u = 1 ∨ u = 2 := by omega
        rcases c with rfl | rfl | rfl
        · exact add s ⟨s0, by omega⟩
        · exact add 0 ⟨by omega, by omega⟩
        · exact add r ⟨by omega, by omega⟩
      · rw [if_neg (by rw [decide_eq_true_eq]; exact z)]
        exact add s ⟨s0, by omega⟩
  refine (show (rooms.map PyData.int).length ≤ 100 ∧ _ from ⟨by rw [len_i]; omega, ?_⟩)
  exact loop rooms [] .no .no (by simp; omega) R fun ys hy => q ys (vd_all hy)
section
variable {row b : Bool} {rooms hs : List Int} {ws : List (Option Int)}
end
end Ke
namespace Ke
open PySem PySem.Spec PyProof.Rows L2 Xg Dv Kd
section
variable {row b : Bool} {rooms hs : List Int} {ws : List (Option Int)} {Q : PyData → Prop}
def sg (b : Bool) : Int := if b = true then 1 else -1
end
end Ke
namespace Kd
open PySem PySem.Spec PyProof.Rows L2 Xg Dv
structure Lf (d : PyData) : Prop where
  sh : d.showable = true
  di : d.hasDict = false
  dp : d.depth = 0
  lv : d.leavesShort 13 = true
  wt : d.weight ≤ 40
end Kd
namespace Ke
open PySem PySem.Spec PyProof.Rows L2 Xg Dv Kd
theorem lt_big {m : Nat} (h : m < 2 ^ 62) : m < 2 ^ 1000 := Nat.lt_of_lt_of_le h (Nat.pow_le_pow_right (by decide) (by decide))
theorem lawB {F : FF} {ns : List Int} {c : Int} {Q : PyData → Prop} (hc : 0 ≤ c ∧ c ≤ 60) (hF : ∀ Q : PyData → Prop, Q (.bool true) → F [.box] Q) (q : Q (.bool true)) :
    sRet (eCB allD (dCons (eL (fComp 100 (fRange1 (eBin gAdd (eC (.int 1)) (eCB (g2 (gI fun i j => if j < i then j else i)) (dCons (eC (.int c)) (dCons (eLenS 0) dNil))))) [1] (gN 1) fYes (eBoxC 0 (eVar 1) F))) dNil)) [.scr ns, .no] { nx := fun _ => Q .none, rt := Q, rl := fun ds => Q (.list ds) } := by
  have main : ∀ m : Int, 0 ≤ m → m ≤ 99 → (-(2 ^ 62) ≤ m ∧ m < 2 ^ 62) ∧ (rangeD 0 m.toNat).length ≤ 100 ∧ compD (gN 1) fYes (eBoxC 0 (eVar 1) F) [.scr ns, .no] (rangeD 0 m.toNat) [] fun ds => boolsQ (fun ns => Q (.bool (ns.all id))) (.list ds) := fun m h1 h2 => by
    refine ⟨⟨by omega, by omega⟩, by rw [range_len]; omega, ?_⟩
    refine comp_row (fun _ => .bool true) range_len (fun i d hi hd P hp => ?_) ?_
    · obtain ⟨_, rfl⟩ := rng_at hd
      exact ⟨⟨by omega, by omega⟩, hF _ ⟨rfl, hp⟩⟩
    · rw [bools_all, List.length_range]
      refine ⟨List.replicate m.toNat true, rfl, ?_⟩
      show Q (.bool ((List.replicate m.toNat true).all id))
      rw [all_true]
      exact q
  refine main (1 + (if ((ns.length : Nat) : Int) < c then ((ns.length : Nat) : Int) else c)) ?_ ?_
  · split <;> omega
  · split <;> omega
end Ke
namespace Dv
open PySem PySem.Spec PyProof.Rows L2 Xg NdefX
open Classical
noncomputable def offC (cs : List Addr) (H : Hp) : Hp := fun a => if a ∈ cs then none else H a
theorem offC_in {cs : List Addr} {H : Hp} {a : Addr} (h : a ∈ cs) : offC cs H a = none := if_pos h
theorem offC_out {cs : List Addr} {H : Hp} {a : Addr} (h : a ∉ cs) : offC cs H a = H a := if_neg h
theorem offC_some {cs : List Addr} {H : Hp} {a : Addr} {o : HO} (h : offC cs H a = some o) : a ∉ cs ∧ H a = some o := by
  unfold offC at h
  split at h
  · cases h
  · exact ⟨by assumption, h⟩
theorem offC_none {cs : List Addr} {H : Hp} {a : Addr} (h : H a = none) : offC cs H a = none := by
  unfold offC
  split
  · rfl
  · exact h
def Cells (cs : List Addr) (H : Hp) : Prop := ∀ c ∈ cs, ∃ (o : Obj) (u : Value), H c = some (CelO o) ∧ o.data = .cell (some u)
theorem Cells.out {cs : List Addr} {H : Hp} (h : Cells cs H) {a : Addr} {u : HO} (e : H a = some u) (n : ∀ o, u ≠ CelO o) : a ∉ cs := fun m => by
  obtain ⟨o, _, z, _⟩ := h a m
  rw [e] at z
  exact n o (Option.some.inj z)
section
variable {cl : List (Str × Addr)} {H : Hp}
theorem Cap.len : ∀ {fr : List Str} {cs : List Addr} {vs : List V}, Cap H cl fr cs vs → cs.length = fr.length ∧ vs.length = fr.length
  | _, _, _, .nil => ⟨rfl, rfl⟩
  | _, _, _, .cons _ _ _ _ _ r => by
    obtain ⟨a, b⟩ := r.len
    exact ⟨by rw [List.length_cons, List.length_cons, a], by rw [List.length_cons, List.length_cons, b]⟩
theorem Cap.at_ : ∀ {fr : List Str} {cs : List Addr} {vs : List V} {i : Nat} {y : Str}, Cap H cl fr cs vs → fr[i]? = some y → ∃ (c : Addr) (v : V) (o : Obj) (u : Value), c ∈ cs ∧ vs[i]? = some v ∧ cl.lookup y = some c ∧ H c = some (CelO o) ∧ o.data = .cell (some u) ∧ L2.RelV v u
  | _, _, _, _, _, .nil, e => by simp at e
  | _, _, _, 0, _, .cons a b c d n r, e => by
    simp at e
    subst e
    exact ⟨_, _, _, _, List.mem_cons_self, rfl, a, b, c, d⟩
  | _, _, _, i + 1, _, .cons a b c d n r, e => by
    obtain ⟨c', v', o', u', m, e1, r1⟩ := r.at_ (i := i) (by simpa using e)
    exact ⟨c', v', o', u', List.mem_cons_of_mem _ m, by simpa using e1, r1⟩
theorem Cap.all : ∀ {fr : List Str} {cs : List Addr} {vs : List V}, Cap H cl fr cs vs → Cells cs H
  | _, _, _, .nil => fun c m => nomatch m
  | _, _, _, .cons a b c d n r => fun x m => by
    rcases List.mem_cons.mp m with rfl | m
    · exact ⟨_, _, b, c⟩
    · exact r.all x m
theorem Cap.inj : ∀ {fr : List Str} {cs : List Addr} {vs : List V} {x y : Str} {c : Addr}, Cap H cl fr cs vs → x ∈ fr → y ∈ fr → cl.lookup x = some c → cl.lookup y = some c → x = y
  | _, _, _, _, _, _, .nil, h, _, _, _ => nomatch h
  | _, _, _, x, y, c, .cons (fr := fr) (cs := cs) (c := c0) a b _ _ n r, hx, hy, ex, ey => by
    have im : ∀ z, z ∈ fr → cl.lookup z = some c0 → c0 ∈ cs := fun z hz ez => by
      obtain ⟨i, hi⟩ := List.mem_iff_getElem?.mp hz
      obtain ⟨c', _, _, _, m, _, e, _⟩ := r.at_ hi
      rw [ez] at e
      cases e
      exact m
    rcases List.mem_cons.mp hx with x1 | x1 <;> rcases List.mem_cons.mp hy with y1 | y1
    · rw [x1, y1]
    · rw [x1, a] at ex
      cases ex
      exact absurd (im _ y1 ey) n
    · rw [y1, a] at ey
      cases ey
      exact absurd (im _ x1 ex) n
    · exact r.inj x1 y1 ex ey
theorem hok_cel {P : Program} {w : World} {h : Heap} {c : Addr} {o : Obj} (ok : HOk P w H h) (e : H c = some (CelO o)) : h.get? c = some o := (ok c _ e).1
theorem Cap.cells {P : Program} {w : World} {h : Heap} {fr : List Str} {cs : List Addr} {vs : List V} (C : Cap H cl fr cs vs) (all : ∀ y c, cl.lookup y = some c → y ∈ fr) (ok : HOk P w H h) : CellsAt cl fr (vs.map some) h (offC cs H) := by
  refine ⟨by rw [List.length_map]; exact C.len.2, fun y c e => ?_, fun x y c e1 e2 => C.inj (all x c e1) (all y c e2) e1 e2, fun i y e => ?_⟩
  · obtain ⟨i, hi⟩ := List.mem_iff_getElem?.mp (all y c e)
    obtain ⟨c', v, o, u, m, _, e1, e2, e3, _⟩ := C.at_ hi
    rw [e] at e1
    cases e1
    exact ⟨offC_in m, some u, o, hok_cel ok e2, e3⟩
  · obtain ⟨c, v, o, u, m, ev, e1, e2, e3, r⟩ := C.at_ e
    refine ⟨c, e1, fun v' ev' => ⟨u, ?_, o, hok_cel ok e2, e3⟩⟩
    rw [List.getElem?_map, ev] at ev'
    cases ev'
    exact r
end
section
variable {P : Program} {w : World} {K : PySem.W.Frag} {mg : Str → Option Value} {base : Heap} {H H' : Hp} {h h' : Heap} {cs : List Addr}
theorem hok_off (ok : HOk P w H h) (hc : Cells cs H) : HOk P w (offC cs H) h := fun a o e => by
  obtain ⟨_, e1⟩ := offC_some e
  refine (ok a o e1).stay (fun _ _ _ q => q) (fun b q => ?_) fun b xs q => ?_
  · rw [offC_out (hc.out q fun o z => by cases z)]
    exact q
  · rw [offC_out (hc.out q fun o z => by cases z)]
    exact q
mutual
theorem Da.sub (e1 : ∀ a xs, H a = some (.lst xs) → H' a = some (.lst xs)) (e2 : ∀ a xs, H a = some (.tup xs) → H' a = some (.tup xs)) : ∀ {v : V} {d : PyData}, Da K H v d → Da K H' v d
  | _, _, .non => .non
  | _, _, .bl b => .bl b
  | _, _, .int i => .int i
  | _, _, .str x => .str x
  | _, _, .lst h g => .lst (e1 _ _ h) (DaL.sub e1 e2 g)
  | _, _, .tup h g => .tup (e2 _ _ h) (DaL.sub e1 e2 g)
theorem DaL.sub (e1 : ∀ a xs, H a = some (.lst xs) → H' a = some (.lst xs)) (e2 : ∀ a xs, H a = some (.tup xs) → H' a = some (.tup xs)) : ∀ {vs : List V} {ds : List PyData}, DaL K H vs ds → DaL K H' vs ds
  | _, _, .nil => .nil
  | _, _, .cons h g => .cons (Da.sub e1 e2 h) (DaL.sub e1 e2 g)
end
def lamV : Nat → List PyData → PyData → Option PyData
  | 0, [.int g, .int m], .list xs => match L2.atI xs g with
    | some (.int x) => some (.bool (decide (m ≤ x)))
    | _ => none
  | 1, [.list ys], .list xs => if SeqAt.shaped (.list xs) = true ∧ SeqAt.shaped (.list ys) = true then some (.bool (PyData.eqv (.list xs) (.list ys))) else none
  | 2, [.int p], .tuple [.int c, .list ws] => if (2 ≤ ws.length ∧ ws.length ≤ 1000000) ∧ 0 ≤ p ∧ p < 2 ^ 60 then some (.int (c * (p / ((ws.length : Int) - 1)))) else none
  | _, _, _ => none
end
end Dv
namespace Dv
open PySem PySem.Spec PyProof.Rows L2 Xg NdefX
open Classical
section
variable {X : Cx} {pins : List (Addr × Obj)} {σ : L2.St} {H : Hp} {s : Shared}
end
inductive CapH (h : Heap) (cl : List (Str × Addr)) : List Str → List Addr → List V → Prop
  | nil : CapH h cl [] [] []
  | cons {y : Str} {c : Addr} {o : Obj} {u : Value} {v : V} {fr : List Str} {cs : List Addr} {vs : List V} : cl.lookup y = some c → h.get? c = some o → o.data = .cell (some u) → L2.RelV v u → c ∉ cs → CapH h cl fr cs vs → CapH h cl (y :: fr) (c :: cs) (v :: vs)
noncomputable def onC (cs : List Addr) (h : Heap) (H : Hp) : Hp := fun a => if a ∈ cs then (h.get? a).map CelO else H a
theorem onC_out {cs : List Addr} {h : Heap} {H : Hp} {a : Addr} (n : a ∉ cs) : onC cs h H a = H a := if_neg n
theorem onC_in {cs : List Addr} {h : Heap} {H : Hp} {a : Addr} {o : Obj} (m : a ∈ cs) (e : h.get? a = some o) : onC cs h H a = some (CelO o) := by
  unfold onC
  rw [if_pos m, e]
  rfl
section
variable {X : Cx} {pins : List (Addr × Obj)} {σ : L2.St} {H : Hp} {s : Shared}
structure Mine (X : Cx) (cs : List Addr) (s : Shared) : Prop where
  cell : ∀ c ∈ cs, ∃ y, X.env.cells.lookup y = some c ∧ X.fn y = true
  at_ : ∀ c ∈ cs, ∃ (o : Obj) (u : Value), s.heap.get? c = some o ∧ o.data = .cell (some u)
theorem CapH.at_ {h : Heap} {cl : List (Str × Addr)} : ∀ {fr : List Str} {cs : List Addr} {vs : List V}, CapH h cl fr cs vs → ∀ c ∈ cs, ∃ (o : Obj) (u : Value), h.get? c = some o ∧ o.data = .cell (some u)
  | _, _, _, .nil => fun c m => nomatch m
  | _, _, _, .cons a b c d n r => fun x m => by
    rcases List.mem_cons.mp m with rfl | m
    · exact ⟨_, _, b, c⟩
    · exact r.at_ x m
variable {cs : List Addr}
theorem Mine.free (M : Mine X cs s) (I : Inv X pins σ H s) : ∀ c ∈ cs, H c = none := fun c m => let ⟨y, e, _⟩ := M.cell c m; I.freeC y c e
theorem Mine.cells (M : Mine X cs s) : Cells cs (onC cs s.heap H) := fun c m => let ⟨o, u, e, d⟩ := M.at_ c m; ⟨o, u, onC_in m e, d⟩
theorem Mine.ex (M : Mine X cs s) (I : Inv X pins σ H s) : Evl.Ex H (onC cs s.heap H) := fun a o e => by
  rw [onC_out fun m => by rw [M.free I a m] at e; cases e]
  exact e
theorem Mine.nofr (M : Mine X cs s) (I : Inv X pins σ H s) : ∀ c ∈ cs, c ∉ frs X.stack := fun c m hb => by
  obtain ⟨y, e, f⟩ := M.cell c m
  rcases List.mem_cons.mp (I.stkSub c hb) with z | z
  · exact I.cne y c e z
  · obtain ⟨_, o, ho, _⟩ := I.ok.funs.mem z
    exact absurd (Nat.lt_of_lt_of_le (Heap.lt_size ho) (I.ok.cab y c f e)) (Nat.lt_irrefl _)
theorem Mine.env (M : Mine X cs s) (I : Inv X pins σ H s) : Env0 X.prog X.w X.K X.mg X.base X.A X.stack s (onC cs s.heap H) := by
  have e0 := I.env0
  refine ⟨e0.frames, e0.mod, fun b o e => ⟨(e0.bs b o e).1, ?_⟩, e0.bsz, e0.funs, fun b hb => ?_, fun a o e => ?_, e0.bare⟩
  · rw [onC_out fun m => ?_]
    · exact (e0.bs b o e).2
    · obtain ⟨y, e1, f⟩ := M.cell b m
      exact absurd (Nat.lt_of_lt_of_le (Heap.lt_size e) (Nat.le_trans I.ok.bsz (I.ok.cab y b f e1))) (Nat.lt_irrefl _)
  · rw [onC_out fun m => M.nofr I b m hb]
    exact e0.frf b hb
  · by_cases m : a ∈ cs
    · obtain ⟨o1, u, e1, d⟩ := M.at_ a m
      rw [onC_in m e1] at e
      cases e
      exact ⟨e1, trivial, ⟨_, e1⟩, fun _ _ _ _ => trivial⟩
    · rw [onC_out m] at e
      exact (e0.hok a o e).stay (fun _ _ _ q => q) (fun b q => M.ex I _ _ q) fun b xs q => M.ex I _ _ q
theorem Mine.back (M : Mine X cs s) (I : Inv X pins σ H s) {Q : VK} {u : Value} {s' : Shared} (h : CE X.stack X.prog X.w (onC cs s.heap H) s (fun v H5 => (∀ c ∈ cs, H5 c = onC cs s.heap H c) ∧ Q v (offC cs H5)) u s') : CE X.stack X.prog X.w H s Q u s' := by
  obtain ⟨v, H5, os, bare, un, ok, rv, kp, q⟩ := h
  have cel : Cells cs H5 := fun c m => let ⟨o, u, e, d⟩ := M.cells (H := H) c m; ⟨o, u, (kp c m).trans e, d⟩
  have ex := M.ex I
  have nc : ∀ {a : Addr} {o : HO}, H a = some o → a ∉ cs := fun {a o} e m => by
    rw [M.free I a m] at e
    cases e
  refine ⟨v, offC cs H5, os, bare, ⟨fun b o e n hb hx => ?_, fun b o e n hb hx => un.slot b o e (by rw [onC_out fun m => M.nofr I b m hb]; exact n) hb hx, fun b o e n hx => ?_, un.there, fun b xs q => ?_, fun b o x q => ?_, fun b ps q => ?_⟩, hok_off ok cel, rv, q⟩
  · by_cases m : b ∈ cs
    · obtain ⟨o1, u, e1, d⟩ := M.at_ b m
      rw [e] at e1
      cases e1
      exact hok_cel ok ((kp b m).trans (onC_in m e))
    · exact un.keep b o e (by rw [onC_out m]; exact n) hb hx
  · by_cases m : b ∈ cs
    · exact offC_in m
    · exact offC_none (un.free b o e (by rw [onC_out m]; exact n) hx)
  · rw [offC_out (nc q)]
    exact un.tups b xs (ex _ _ q)
  · rw [offC_out (nc q)]
    exact un.frzs b o x (ex _ _ q)
  · obtain ⟨more, z⟩ := un.tbls b ps (ex _ _ q)
    exact ⟨more, by rw [offC_out (nc q)]; exact z⟩
end
end Dv
namespace Dv
open PySem PySem.Spec PyProof.Rows L2 Xg NdefX
open Classical
structure LamHere (X : Cx) (k : Nat) (params : Arguments) (body : Expr) (scope : Scope) (js : List Nat) : Prop where
  tab : ∃ c P, LamX.TabB X.base X.mg c P ∧ X.env.code = .ref c ∧ (P, X.env.qual ++ "<lambda>") ∈ Tof X.K ∧ ∀ p ∈ Tof X.K, p.1 = P → p.2 = X.env.qual ++ "<lambda>"
  bod : LamB k body
  par : ∃ p, params = par1 (lamPar k) p
  sc : NScope (lamN k) [lamPar k] (lamFr k) scope
  gl : k = 2 → scope.names.lookup ("len" : Str) = some NameKind.globalImplicit
  nd : (lamFr k).Nodup
  kin : ∀ y ∈ lamFr k, X.env.scope.names.lookup y = some .cell
  fn : ∀ y, X.fn y = true
  at_ : js.map (fun j => X.N[j]?) = (lamFr k).map some
section
variable {X : Cx} {pins : List (Addr × Obj)} {σ : L2.St} {H : Hp} {s : Shared}
end
section
variable {X : Cx}
end
section
variable {K : PySem.W.Frag} {ta t1 t2 t3 : TE} {ca c1 c2 c3 c : Nat} {fa f1 f2 f3 : FE} {md : Bool}
abbrev lamW (k : Nat) (ds : List PyData) (d : PyData) (Q : PyData → Prop) : Prop := match lamV k ds d with
  | some r => Q r
  | none => False
end
end Dv
namespace Dv
open PySem PySem.Spec PyProof.Rows L2 Xg NdefX
open Classical
section
variable {X : Cx} {pins : List (Addr × Obj)} {σ : L2.St} {H : Hp} {s : Shared}
structure MinJ (X : Cx) (cs : List Addr) (H : Hp) (s4 z : Shared) : Prop where
  os : z.os = s4.os
  bare : AllBare z.gens
  un : Un (frs X.stack) [] H H s4.heap z.heap
  hok : HOk X.prog X.w H z.heap
  cel : ∀ c ∈ cs, z.heap.get? c = s4.heap.get? c
end
section
variable {X : Cx}
end
section
variable {K : PySem.W.Frag} {te : TE} {c k : Nat} {js : List Nat} {fe : FE}
end
end Dv
namespace Dv
open PySem PySem.Spec PyProof.Rows L2 Xg
open Classical
section
variable {K : PySem.W.Frag} {ta : TE} {ca : Nat} {fa : FE}
end
end Dv
namespace Dv
open PySem PySem.Spec PyProof.Rows L2 Xg
variable {K : PySem.W.Frag}
end Dv
namespace Dv
open PySem PySem.Spec PyProof.Rows L2 Xg
section
variable {K : PySem.W.Frag}
variable {ta tb : TE} {ca cb : Nat} {fa fb : FE} {md md2 : Bool}
end
end Dv
namespace Dv
open PySem PySem.Spec PyProof.Rows L2 Xg
open Classical
mutual
def nol : PyData → Bool
  | .list _ => false
  | .dict _ => false
  | .tuple ds => nolL ds
  | _ => true
def nolL : List PyData → Bool
  | [] => true
  | d :: ds => nol d && nolL ds
end
theorem nolL_cons {d : PyData} {ds : List PyData} (h : nolL (d :: ds) = true) : nol d = true ∧ nolL ds = true := by
  unfold nolL at h
  exact Bool.and_eq_true_iff.mp h
theorem nolL_ints : ∀ {ns : List Int}, nolL (ns.map PyData.int) = true
  | [] => by unfold List.map nolL; rfl
  | n :: r => by
    rw [List.map_cons]
    unfold nolL
    rw [nolL_ints]
    unfold nol
    rfl
section
variable {K : PySem.W.Frag} {H : Hp} {S T : Addr → Prop}
theorem sqT_move {a : Addr} {xs : List V} (sub : ∀ a, T a → S a ∨ ∃ xs, H a = some (.lst xs)) (h : rm H S a = some (.tup xs)) : rm H T a = some (.tup xs) := by
  obtain ⟨n, g⟩ := rm_some h
  exact rm_in (fun t => (sub a t).elim n fun ⟨ys, e⟩ => by rw [g] at e; cases e) g (rm_nt h)
mutual
theorem Da.nolM (sub : ∀ a, T a → S a ∨ ∃ xs, H a = some (.lst xs)) : ∀ {v : V} {d : PyData}, Da K (rm H S) v d → nol d = true → Da K (rm H T) v d
  | _, _, .non, _ => .non
  | _, _, .bl b, _ => .bl b
  | _, _, .int i, _ => .int i
  | _, _, .str x, _ => .str x
  | _, _, .lst _ _, n => by unfold nol at n; cases n
  | _, _, .tup h g, n => .tup (sqT_move sub h) (DaL.nolM sub g (by unfold nol at n; exact n))
theorem DaL.nolM (sub : ∀ a, T a → S a ∨ ∃ xs, H a = some (.lst xs)) : ∀ {vs : List V} {ds : List PyData}, DaL K (rm H S) vs ds → nolL ds = true → DaL K (rm H T) vs ds
  | _, _, .nil, _ => .nil
  | _, _, .cons h g, n => .cons (Da.nolM sub h (nolL_cons n).1) (DaL.nolM sub g (nolL_cons n).2)
end
end
def nolA : List Sl → Prop
  | [] => True
  | .dt d :: r => nol d = true ∧ nolA r
  | .box :: r => nolA r
  | _ :: _ => False
section
variable {K : PySem.W.Frag} {b : Option Addr} {H H' : Hp} {S T : Addr → Prop} {m n c cr : Nat} {md : Bool} {tr : TA} {fr : FA} {t : TE} {tt : TT} {f : FE} {ft : FT} {σ : L2.St} {ρ : List Sl}
theorem ArgL.nolM (sub : ∀ a, T a → S a ∨ ∃ xs, H a = some (.lst xs)) : ∀ {vs : List V} {as : List Sl}, ArgL K b S H vs as → nolA as → ArgL K b T H vs as
  | _, _, .nil, _ => .nil
  | _, _, .cons (s := .dt d) h g, n => .cons (Da.nolM sub h n.1) (ArgL.nolM sub g n.2)
  | _, _, .cons (s := .box) h g, n => .cons h (ArgL.nolM sub g n)
  | _, _, .cons (s := .no) h g, n => n.elim
  | _, _, .cons (s := .own _) h g, n => n.elim
  | _, _, .cons (s := .scr _) h g, n => n.elim
  | _, _, .cons (s := .op _) h g, n => n.elim
  | _, _, .cons (s := .fn _ _) h g, n => n.elim
  | _, _, .cons (s := .exc _ _) h g, n => n.elim
  | _, _, .cons (s := .dct _) h g, n => n.elim
  | _, _, .cons (s := .dck _) h g, n => n.elim
  | _, _, .cons (s := .frt _) h g, n => n.elim
def HL (H : Hp) (S : Addr → Prop) : Addr → Prop := fun a => S a ∨ ∃ xs, H a = some (.lst xs)
theorem HL.al (al : Al S H) : Al (HL H S) H := fun a h => by
  rcases h with h | ⟨xs, e⟩
  · exact al a h
  · exact ⟨_, e, rfl⟩
theorem HL.new {a : Addr} {xs : List V} (st : Stp K b H H') (bs : ∀ p, b = some p → S p) (n : ¬ HL H S a) (e : H' a = some (.lst xs)) : H a = none := by
  cases z : H a with
  | none => rfl
  | some o =>
    exfalso
    have g := st a o (fun w => n (.inl (bs a w))) z
    cases t : isT o with
    | false =>
      have := g.eq t
      rw [e] at this
      cases this
      exact n (.inr ⟨_, z⟩)
    | true =>
      cases o with
      | tbl ps =>
        obtain ⟨⟨qs, e2⟩, _⟩ := g
        rw [e] at e2
        cases e2
      | _ => cases t
end
end Dv
namespace Dv
open PySem PySem.Spec PyProof.Rows L2 Xg
open Classical
section
variable {K : PySem.W.Frag} {H : Hp}
theorem DaK.len : ∀ {ws : List (List L2.Key × V)} {kvs : List (List L2.Key × PyData)}, DaK K H ws kvs → ws.length = kvs.length
  | _, _, .nil => rfl
  | _, _, .cons _ g => by rw [List.length_cons, List.length_cons, DaK.len g]
end
section
variable {K : PySem.W.Frag} {b : Option Addr} {S G : Addr → Prop} {m n c ca cb : Nat} {H H0 H' : Hp} {b0 : Option Addr} {os : Nat → Option Addr} {σ : L2.St} {ρ : List Sl} {ty ta tx : TE} {fk fa fx : FE} {i : Nat}
theorem Tbs.dct {p : Addr} {o : HO} {ws : List (List L2.Key × V)} (h : Tbs K H) (e : H p = some (.dT ws)) : Tbs K (upd H p o) := h.chg (fun ps z => by rw [e] at z; cases z) fun q z => by rw [e] at z; unfold LamX.CodeO at z; cases z
theorem HoLe.dct {c p : Addr} {u o : HO} {ws : List (List L2.Key × V)} (ne : c ≠ p) (h : H c = some u) (e : H p = some (.dT ws)) : HoLe K H (upd H p o) c u := .chg ne h (fun ps z => by rw [e] at z; cases z) fun q z => by rw [e] at z; unfold LamX.CodeO at z; cases z
end
end Dv
namespace Dv
open PySem PySem.Spec PyProof.Rows L2 Xg
open Classical
section
variable {P : Program} {w : World} {K : PySem.W.Frag} {mg : Str → Option Value} {base : Heap}
end
section
variable {K : PySem.W.Frag} {c cr i : Nat} {tr : TA} {fr : FA}
end
end Dv
namespace Dv
open PySem PySem.Spec PyProof.Rows L2 Xg
end Dv
namespace Dv
open PySem PySem.Spec PyProof.Rows L2 Xg
open Classical
section
variable {X : Cx}
theorem TbF.uniq {K : PySem.W.Frag} {C D : Addr} (a : TbF K C) (b : TbF K D) : C = D := by
  have e := a.at_.symm.trans b.at_
  cases e
  rfl
def tMethT (K : PySem.W.Frag) (m : Str) (sp : Sp) (ta : TE) (t : TA) : TE := fun σ H Q => ta σ H fun x H1 => ∃ (a C dx : Addr) (fs : List (Str × V)), x = .ref a ∧ TbF K C ∧ H1 a = some (.ins C dx fs) ∧ fs.lookup m = none ∧ t σ H1 fun vs H2 => sp (x :: vs) H2 Q E0
theorem run_dfG {k : Nat} {f : Addr} {fd : FuncData} {ps : List Str} {sp : Sp} {pins : List (Addr × Obj)} {σ : L2.St} {H : Hp} {s : Shared} {us : List Value} {vs : List V} {Q : VK} (F : FnG X.prog X.w X.K X.mg X.base k f fd ps sp) (hG : X.A.guards = some []) (hr : Room k X.A) (hb : L2.Binds X.K fd ps []) (I : Inv X pins σ H s) (r : Vals vs us) (q : sp vs H Q E0) :
    wpAny (model X.prog X.w) X.A (call (.ref f) us) (EP X pins σ Q) X.xe s := by
  have hb1 := hb s us I.kIn (by rw [List.append_nil, ← r.length]; exact F.len _ _ _ q)
  rw [List.append_nil] at hb1
  refine wpAny_call (codeAny_mono (F.run X.A X.stack s H ⟨us, []⟩ us vs Q hG hr I.env0 hb1 r q) fun res s' hq => ?_)
  cases res with
  | error er => exact hq.elim
  | ok fl =>
    cases fl with
    | ret u => exact I.after hq
    | next => exact False.elim hq
    | brk => exact False.elim hq
    | cont => exact False.elim hq
structure Mf (P : Program) (w : World) (K : PySem.W.Frag) (mg : Str → Option Value) (base : Heap) (m : Str) (ps : List Str) (k : Nat) (sp : Sp) : Prop where
  ex : ∃ (C f : Addr) (fd : FuncData), TbF K C ∧ Meth K C m f ∧ FnG P w K mg base k f fd ps sp ∧ L2.Binds K fd ps []
theorem pe_methT {o e : Expr} {es : List Expr} {ta : TE} {t : TA} {m : Str} {ps : List Str} {k : Nat} {sp : Sp} {apos pos : Pos} {pl : Sem Bool} (M : Mf X.prog X.w X.K X.mg X.base m ps k sp) (he : PE X o ta) (hG : X.A.guards = some []) (hr : Room k X.A) (ha : PA X (e :: es) t)
    (hst : starEach (e :: es) X.env = (false, eval e X.env) :: starEach es X.env := by rfl) (hpl : (backTo pos (starEach es X.env)).any (·.1) = false := by rfl)
    (ht : eval (.Call (.Attribute o m apos) (e :: es) [] pos) X.env = (eval o X.env >>= fun ov => standAt apos.atName >>= fun _ => holding [ov] (getMethod ov m pl) >>= fun z => callWith pos z.1 z.2 (backTo pos (starEach (e :: es) X.env)) (backToKw pos (keywordEach [] X.env))) := by rfl) :
    PE X (.Call (.Attribute o m apos) (e :: es) [] pos) (tMethT X.K m sp ta t) := by
  obtain ⟨C, f, fd, T, hm, F, hb⟩ := M.ex
  refine ⟨fun pins s σ H Q I h => PySem.W.methodCall_KW (pl := pl) (thn (he.run pins s σ H _ I h) fun u s1 ⟨x, H1, I1, rx, a, C', dx, fs, ex, T', ea, l, q⟩ => ?_) ht⟩
  cases T.uniq T'
  subst ex
  obtain rfl : u = Value.ref a := rx
  refine getmeth_ok I1 ea T.cl hm l (PySem.W.callWith_K (first := [.ref a]) (h₀ := X.base) I.ok.mod.kin hm.kp (thn (ha.run pos pins s1 σ H1 _ I1 q) fun us s2 ⟨vs, H2, I2, r, q2⟩ => ⟨I2.kIn, ?_⟩) hst hpl)
  exact run_dfG F hG hr hb I2 (us := .ref a :: us) (vs := .ref a :: vs) (.cons rfl r) q2
theorem pe_methT0 {o : Expr} {ta : TE} {m : Str} {ps : List Str} {k : Nat} {sp : Sp} {apos pos : Pos} {pl : Sem Bool} (M : Mf X.prog X.w X.K X.mg X.base m ps k sp) (he : PE X o ta) (hG : X.A.guards = some []) (hr : Room k X.A)
    (ht : eval (.Call (.Attribute o m apos) [] [] pos) X.env = (eval o X.env >>= fun ov => standAt apos.atName >>= fun _ => holding [ov] (getMethod ov m pl) >>= fun z => callWith pos z.1 z.2 (backTo pos (starEach [] X.env)) (backToKw pos (keywordEach [] X.env))) := by rfl) :
    PE X (.Call (.Attribute o m apos) [] [] pos) (tMethT X.K m sp ta tNil) := by
  obtain ⟨C, f, fd, T, hm, F, hb⟩ := M.ex
  refine ⟨fun pins s σ H Q I h => PySem.W.methodCall_KW (pl := pl) (thn (he.run pins s σ H _ I h) fun u s1 ⟨x, H1, I1, rx, a, C', dx, fs, ex, T', ea, l, q⟩ => ?_) ht⟩
  cases T.uniq T'
  subst ex
  obtain rfl : u = Value.ref a := rx
  exact getmeth_ok I1 ea T.cl hm l (PySem.W.callWith_K0 (first := [.ref a]) I1.kIn hm.kp (run_dfG F hG hr hb I1 (us := [.ref a]) (vs := [.ref a]) (.cons rfl .nil) q))
def tMakeT (K : PySem.W.Frag) (sp : Sp) (t : TA) : TE := fun σ H Q => t σ H fun vs H1 => ∀ (C x dx : Addr), TbF K C → H1 x = none → H1 dx = none → dx ≠ x → sp (.ref x :: vs) (upd (upd H1 dx (.own x)) x (.ins C dx [])) (fun v H2 => v = .non ∧ Q (.ref x) H2) E0
structure Mi (P : Program) (w : World) (K : PySem.W.Frag) (mg : Str → Option Value) (base : Heap) (ps : List Str) (k : Nat) (sp : Sp) : Prop where
  ex : ∃ (C f : Addr) (fd : FuncData), TbF K C ∧ L2.Mk K C f ∧ mg "Table" = some (.ref C) ∧ FnG P w K mg base k f fd ps sp ∧ L2.Binds K fd ps []
theorem guards_make {A : Around} {C : Addr} {us : List Value} (h : A.guards = some []) : (A.under (.builtin "type.__call__" ⟨.ref C :: us, []⟩)).guards = some [] := by
  show pushGuards (Code.guards (.builtin "type.__call__" ⟨.ref C :: us, []⟩)) A.guards = some []
  rw [h]
  have e : Code.guards (.builtin "type.__call__" ⟨.ref C :: us, []⟩) = [] := by
    unfold Code.guards
    rw [if_neg (by show ¬ guardIds.contains "type.__call__" = true; decide +kernel)]
  rw [e]
  rfl
theorem pe_makeT {e : Expr} {es : List Expr} {t : TA} {ps : List Str} {k : Nat} {sp : Sp} {p pos : Pos} (M : Mi X.prog X.w X.K X.mg X.base ps k sp) (hG : X.A.guards = some []) (hr : Room (k + 1) X.A) (hg : Gl X "Table") (ha : PA X (e :: es) t)
    (hdb : (("Table" : Str) == ("__debug__" : Str)) = false := by decide) (he : starEach (e :: es) X.env = (false, eval e X.env) :: starEach es X.env := by rfl) (hpl : (backTo pos (starEach es X.env)).any (·.1) = false := by rfl) :
    PE X (.Call (.Name "Table" p) (e :: es) [] pos) (tMakeT X.K sp t) := by
  obtain ⟨C, f, fd, T, M, gm, F, hb⟩ := M.ex
  refine ⟨fun pins s σ H Q I h => wpAny_Call_Name_kw (ld_glob I hg gm (PySem.W.callWith_K (h₀ := X.base) I.ok.mod.kin M.kp (thn (ha.run pos pins s σ H _ I h) fun us s1 ⟨vs, H1, I1, r, q⟩ => ⟨I1.kIn, ?_⟩) he hpl) hdb)⟩
  have z := q C (s1.heap.objs.size + 1) s1.heap.objs.size T (I1.hok.fresh (Nat.le_succ _)) (I1.hok.fresh (Nat.le_refl _)) (Nat.ne_of_lt (Nat.lt_succ_self _))
  have I2 := Inv.made (C := C) I1
  have r2 : Vals (V.ref (s1.heap.objs.size + 1) :: vs) (Value.ref (s1.heap.objs.size + 1) :: us) := .cons rfl r
  have hl : (Value.ref (s1.heap.objs.size + 1) :: us ++ []).length = ps.length := by
    rw [List.append_nil, ← r2.length]
    exact F.len _ _ _ z
  have hb2 := hb _ (Value.ref (s1.heap.objs.size + 1) :: us) I2.kIn hl
  rw [List.append_nil] at hb2
  refine wpAny_call (make_map (f := f) I1.kIn M.makes M.init (beq_iff_eq.mp M.fn) (codeAny_mono (F.run _ X.stack _ _ ⟨Value.ref (s1.heap.objs.size + 1) :: us, []⟩ (Value.ref (s1.heap.objs.size + 1) :: us) _ _ (guards_make hG) (hr.make C us []) (I2.env0.make C us []) hb2 r2 z) fun res s' hq => ?_))
  cases res with
  | error er => exact hq.elim
  | ok fl =>
    cases fl with
    | ret u =>
      obtain ⟨v, H', I3, rv, ev, q3⟩ := I2.after hq
      subst ev
      exact ⟨rv, ⟨V.ref (s1.heap.objs.size + 1), H', I3, rfl, q3⟩⟩
    | next => exact False.elim hq
    | brk => exact False.elim hq
    | cont => exact False.elim hq
end
section
variable {K : PySem.W.Frag} {md : Bool} {ta tb te : TE} {ca cb c : Nat} {fa fb fe : FE} {tr : TA} {cr : Nat} {fr : FA}
abbrev eFldN (i : Nat) : FE := fun ρ Q => match ρ[i]? with
  | some (.op (.tuple [_, n, _])) => Q n
  | _ => False
abbrev eFldG (i : Nat) : FE := fun ρ Q => match ρ[i]? with
  | some (.op (.tuple [_, _, g])) => Q g
  | _ => False
theorem snd_fldN {i : Nat} : Snd true K (tFld K (tVar i) "many") 0 (eFldN i) := mk_snd
  (fun ρ P P' h q => by
    unfold eFldN at q ⊢
    split at q
    · exact h _ q
    · exact q.elim)
  (fun {B S m σ H ρ Q P} E hm hf k => by
    unfold eFldN at hf
    split at hf
    · rename_i a1 a2 a3 e
      obtain ⟨v, e1, p, C, dx, vM, vG, dM, n, dG, rfl, T, e2, d1, d2, e3⟩ := E.sl i _ e
      cases e3
      exact ⟨_, e1, p, C, dx, _, .int n, rfl, rm_le _ _ e2, T.cl, T.n2, rfl, k _ _ _ hf Stp.refl E.bx (.int n)⟩
    · exact hf.elim)
theorem snd_fldG {i : Nat} : Snd true K (tFld K (tVar i) "grid") 0 (eFldG i) := mk_snd
  (fun ρ P P' h q => by
    unfold eFldG at q ⊢
    split at q
    · exact h _ q
    · exact q.elim)
  (fun {B S m σ H ρ Q P} E hm hf k => by
    unfold eFldG at hf
    split at hf
    · rename_i a1 a2 a3 e
      obtain ⟨v, e1, p, C, dx, vM, vG, dM, n, dG, rfl, T, e2, d1, d2, e3⟩ := E.sl i _ e
      cases e3
      exact ⟨_, e1, p, C, dx, _, vG, rfl, rm_le _ _ e2, T.cl, T.n3, rfl, k _ _ _ hf Stp.refl E.bx d2⟩
    · exact hf.elim)
abbrev eMeth (i : Nat) (F : FF) (fr : FA) : FE := fun ρ Q => match ρ[i]? with
  | some (.op g) => fr ρ fun as => F (.op g :: as) Q
  | _ => False
theorem snd_meth {i : Nat} {m : Str} {F : FF} (hl : ∀ x y z : V, List.lookup m [(("made_of" : Str), x), ("many", y), ("grid", z)] = none) (mF : MonoF F) (r : SndA K tr cr fr) : Snd true K (tMethT K m (spD K c F) (tVar i) tr) (cr + c) (eMeth i F fr) := mk_snd
  (fun ρ P P' h q => by
    unfold eMeth at q ⊢
    split at q
    · exact r.mono _ _ _ (fun as => mF _ _ _ h) q
    · exact q.elim)
  (fun {B S n σ H ρ Q P} E hm hf k => by
    unfold eMeth at hf
    split at hf
    · rename_i g e
      obtain ⟨v, e1, tb⟩ := E.sl i _ e
      obtain ⟨p, C, dx, vM, vG, dM, j, dG, rfl, T, e2, d1, d2, e3⟩ := id tb
      refine ⟨_, e1, p, C, dx, _, rfl, T, rm_le _ _ e2, hl _ _ _, r.go E (by omega) hf fun as vs H1 h1 s1 b1 a1 => ?_⟩
      exact ⟨B, S, n + cr, .op g :: as, .cons (TbO.mono (s1.rm E.bs) tb) a1, b1, E.bs, (E.step s1 b1).both, by omega, mF _ _ _ (fun d p v H' s2 b2 d2 => k _ _ _ p (s1.trans s2) (b2.le (by omega)) d2) h1⟩
    · exact hf.elim)
def spI (K : PySem.W.Frag) (c : Nat) (F : FF) : Sp := fun vs H Q _ => ∃ (x dx C : Addr) (rest : List V) (b : Option Addr) (S : Addr → Prop) (m : Nat) (as : List Sl), vs = .ref x :: rest ∧ TbF K C ∧ H x = some (.ins C dx []) ∧ S x ∧ b ≠ some x ∧ ArgL K b S H rest as ∧ BxO b H m ∧ (∀ p, b = some p → S p) ∧ (Al S H ∧ Tbs K H) ∧ m + c ≤ LIM ∧ as.length = 4 ∧
  F as (fun d => ∀ (vM vG : V) (dM : PyData) (n : Int) (dG : PyData) (H' : Hp), d = .tuple [dM, .int n, dG] → (∀ a o, b ≠ some a → a ≠ x → H a = some o → HoLe K H H' a o) → BxO b H' (m + c) → H' x = some (.ins C dx [("made_of", vM), ("many", .int n), ("grid", vG)]) → Da K (rm H' S) vM dM → Da K (rm H' S) vG dG → Q .non H')
theorem kpt_op {vs : List Nat} {σ : L2.St} {ρ : List Sl} {i : Nat} {v : V} {d : PyData} (hi : i ∈ vs) : Kpt vs σ (σ.set i (some v)) ρ (ρ.set i (.op d)) :=
  ⟨wipe_set hi, fun j ds e o => by
    rw [List.getElem?_set] at e
    by_cases z : i = j
    · rw [if_pos z] at e
      split at e
      · cases e
        exact absurd o Bool.false_ne_true
      · cases e
    · rw [if_neg z] at e
      exact ⟨e, by rw [List.getElem?_set, if_neg z]⟩⟩
theorem ArgL.ex {b : Option Addr} {S T : Addr → Prop} {H H' : Hp} (e : Evl.Ex (rm H S) (rm H' T)) : ∀ {vs : List V} {as : List Sl}, ArgL K b S H vs as → ArgL K b T H' vs as
  | _, _, .nil => .nil
  | _, _, .cons (s := s) a r => .cons (by
      cases s with
      | dt d => exact Da.mono e a
      | box => exact a
      | scr ns => exact let ⟨p, e1, g⟩ := a; ⟨p, e1, Evl.ex_l e g⟩
      | op g => exact TbO.mono e a
      | fn k ds => exact LamV.mono e a
      | exc k ds => exact a.elim
      | dct k => exact a.elim
      | dck k => exact DcO.mono e a
      | frt k => exact a.elim
      | no => exact a.elim
      | own _ => exact a.elim) (ArgL.ex e r)
end
end Dv
namespace Dv
open PySem PySem.Spec PyProof.Rows L2 Xg
open Classical
section
variable {K : PySem.W.Frag}
abbrev pairQ (P : PyData → PyData → Prop) : PyData → Prop
  | .tuple [a, r] => P a r
  | .list [a, r] => P a r
  | _ => False
theorem pairQ_mono {P P' : PyData → PyData → Prop} (h : ∀ a r, P a r → P' a r) : ∀ d, pairQ P d → pairQ P' d := fun d q => by
  unfold pairQ at q ⊢
  split at q
  · exact h _ _ q
  · exact h _ _ q
  · exact q.elim
abbrev iSl (l w s : PyData) (n : Int) (a r : PyData) : List Sl := [.no, .dt l, .dt w, .dt s, .dt (.int n), .dt a, .dt r]
abbrev fInit (fM fG : FE) : FF := fun as Q => match as with
  | [.dt l, .dt w, .dt s, .dt (.int n)] => pairQ (fun a r => fM (iSl l w s n a r) fun dM => fG (iSl l w s n a r) fun dG => Q (.tuple [dM, .int n, dG])) l
  | _ => False
theorem m_init {tM tG : TE} {fM fG : FE} (a : Snd true K tM 0 fM) (g : Snd true K tG 0 fG) : MonoF (fInit fM fG) := fun as P P' h q => by
  unfold fInit at q ⊢
  split at q
  · exact pairQ_mono (fun _ _ => a.mono _ _ _ fun dM => g.mono _ _ _ fun dG => h _) _ q
  · exact q.elim
abbrev tLR (K : PySem.W.Frag) : TG := fun v σ H Q => gTup K 2 (gCons (gName 5) (gCons (gName 6) gNil)) v σ H Q ∨ gLst K 2 (gCons (gName 5) (gCons (gName 6) gNil)) v σ H Q
abbrev tInit (K : PySem.W.Frag) (tM tG : TE) : TS := tSeq (tAsg (tVar 1) (tLR K)) (tSeq (sFld K (tVar 0) tM "made_of") (tSeq (sFld K (tVar 0) (tVar 4) "many") (sFld K (tVar 0) tG "grid")))
theorem BxO.chg {b : Option Addr} {H : Hp} {m : Nat} {x : Addr} {o : HO} (h : BxO b H m) (n : b ≠ some x) : BxO b (upd H x o) m := by
  cases b with
  | none => trivial
  | some p =>
    obtain ⟨i, y, z, h1, h2, h3, h4, h5, h6⟩ := h
    exact ⟨i, y, z, h1, h2, h3, h4, h5, (upd_ne fun e => n (by rw [e])).trans h6⟩
theorem rm_chg {H : Hp} {S : Addr → Prop} {x : Addr} {o : HO} (s : S x) : Evl.Ex (rm H S) (rm (upd H x o) S) := rm_mono fun a u n _ e => (upd_ne fun z => n (by rw [z]; exact s)).trans e
theorem fs2 (a b : V) : putF "many" b [(("made_of" : Str), a)] = [(("made_of" : Str), a), ("many", b)] := by
  show (if ("made_of" : Str) = "many" then _ else _) = _
  rw [if_neg (by decide +kernel)]
  rfl
theorem fs3 (a b c : V) : putF "grid" c [(("made_of" : Str), a), ("many", b)] = [(("made_of" : Str), a), ("many", b), ("grid", c)] := by
  show (if ("made_of" : Str) = "grid" then _ else _) = _
  rw [if_neg (by decide +kernel)]
  show _ :: (if ("many" : Str) = "grid" then _ else _) = _
  rw [if_neg (by decide +kernel)]
  rfl
theorem init_go {tM tG : TE} {fM fG : FE} (a : Snd true K tM 0 fM) (g : Snd true K tG 0 fG) {N : List Str} (hN : N = (["self", "line", "widths", "standing", "many", "form", "rooms"] : List Str)) {vs : List V} {H : Hp} {Q : VK} (h : spI K 0 (fInit fM fG) vs H Q E0) :
    tInit K tM tG { nx := fun _ H' => Q .non H', rt := Q } (L2.start N vs) H := by
  subst hN
  obtain ⟨x, dx, C, rest, b, S, m, as, rfl, T, hx, sx, nb, hA, bx, bs, al, hm, l4, hf⟩ := h
  clear l4
  unfold fInit at hf
  split at hf
  · rename_i l w s n
    cases hA with
    | @cons v1 _ _ _ a1 r1 =>
    cases r1 with
    | @cons v2 _ _ _ a2 r2 =>
    cases r2 with
    | @cons v3 _ _ _ a3 r3 =>
    cases r3 with
    | @cons v4 _ _ _ a4 r4 =>
    cases r4
    have a1 : Da K (rm H S) v1 l := a1
    have a2 : Da K (rm H S) v2 w := a2
    have a3 : Da K (rm H S) v3 s := a3
    have a4 : Da K (rm H S) v4 (.int n) := a4
    have e4 : v4 = .int n := by cases a4; rfl
    subst e4
    have main : ∀ (da dr : PyData) (va vr : V), Da K (rm H S) va da → Da K (rm H S) vr dr → fM (iSl l w s n da dr) (fun dM => fG (iSl l w s n da dr) fun dG => ∀ (vM vG : V) (dM' : PyData) (n' : Int) (dG' : PyData) (H' : Hp), (.tuple [dM, .int n, dG] : PyData) = .tuple [dM', .int n', dG'] → (∀ a o, b ≠ some a → a ≠ x → H a = some o → HoLe K H H' a o) → BxO b H' (m + 0) → H' x = some (.ins C dx [("made_of", vM), ("many", .int n'), ("grid", vG)]) → Da K (rm H' S) vM dM' → Da K (rm H' S) vG dG' → Q .non H') →
        tSeq (sFld K (tVar 0) tM "made_of") (tSeq (sFld K (tVar 0) (tVar 4) "many") (sFld K (tVar 0) tG "grid")) { nx := fun _ H' => Q .non H', rt := Q } [some (.ref x), some v1, some v2, some v3, some (.int n), some va, some vr] H := fun da dr va vr ha hr' hq => by
      have env : ∀ {H' : Hp}, Evl.Ex (rm H S) (rm H' S) → BxO b H' m → (Al S H' ∧ Tbs K H') → DEnv K b S m H' [some (.ref x), some v1, some v2, some v3, some (.int n), some va, some vr] (iSl l w s n da dr) := fun {H'} e bx' al' => ⟨rfl, fun i t z => by
        match i, z with
        | 0, z => cases z; trivial
        | 1, z => cases z; exact ⟨_, rfl, Da.mono e a1⟩
        | 2, z => cases z; exact ⟨_, rfl, Da.mono e a2⟩
        | 3, z => cases z; exact ⟨_, rfl, Da.mono e a3⟩
        | 4, z => cases z; exact ⟨_, rfl, Da.mono e a4⟩
        | 5, z => cases z; exact ⟨_, rfl, Da.mono e ha⟩
        | 6, z => cases z; exact ⟨_, rfl, Da.mono e hr'⟩
        | i + 7, z => simp at z, bx', bs, al'.1, al'.2⟩
      have E1 := env (fun _ _ h => h) bx al
      refine a.go E1 hm hq fun dM vM H1 pM st1 bx1 vd1 => ?_
      have hx1 : H1 x = some (.ins C dx []) := st1 x _ nb hx
      refine ⟨_, rfl, x, C, dx, [], rfl, hx1, T.cl, T.n1, by show 0 < 1000; decide, ?_⟩
      show sFld K (tVar 0) (tVar 4) "many" _ _ (upd H1 x (.ins C dx [("made_of", vM)]))
      refine ⟨_, rfl, _, rfl, x, C, dx, _, rfl, upd_same, T.cl, T.n2, by show 1 < 1000; decide, ?_⟩
      rw [upd_upd, fs2]
      let H3 := upd H1 x (.ins C dx [("made_of", vM), ("many", .int n)])
      have e13 : Evl.Ex (rm H1 S) (rm H3 S) := rm_chg sx
      have al3 : Al S H3 := fun c sc => by
        by_cases z : c = x
        · rw [z]; exact ⟨_, (show H3 x = _ from upd_same), rfl⟩
        · show ∃ o, H3 c = some o ∧ isTp o = false
          rw [show H3 c = H1 c from upd_ne z]
          exact (E1.step st1 bx1).al c sc
      have tb3 : Tbs K H3 := (E1.step st1 bx1).tb.ins hx1
      have E3 := env (fun c o h => e13 c o (st1.rm bs c o h)) (BxO.chg (o := .ins C dx [("made_of", vM), ("many", .int n)]) bx1 nb) ⟨al3, tb3⟩
      show sFld K (tVar 0) tG "grid" _ _ H3
      refine g.go E3 hm pM fun dG vG H4 pG st4 bx4 vd4 => ?_
      have hx4 : H4 x = some (.ins C dx [("made_of", vM), ("many", .int n)]) := st4 x _ nb upd_same
      refine ⟨_, rfl, x, C, dx, _, rfl, hx4, T.cl, T.n3, by show 2 < 1000; decide, ?_⟩
      rw [fs3]
      have e45 : Evl.Ex (rm H4 S) (rm (upd H4 x (.ins C dx [("made_of", vM), ("many", .int n), ("grid", vG)])) S) := rm_chg sx
      refine pG vM vG dM n dG _ rfl (fun c o nbc ncx e => ?_) (BxO.chg bx4 nb) upd_same ?_ (Da.mono e45 vd4)
      · refine (st1 c o nbc e).trans fun o1 h1 => (HoLe.ins ncx h1 hx1).trans fun o2 h2 => (st4 c o2 nbc h2).trans fun o3 h3 => .ins ncx h3 hx4
      · exact Da.mono (fun c o h => e45 c o (st4.rm bs c o (e13 c o h))) vd1
    unfold pairQ at hf
    split at hf
    · rename_i da dr
      obtain ⟨p, us, rfl, e, gg⟩ := (Vw.st (b := b) a1).tuple
      cases gg with
      | cons ga gg =>
      cases gg with
      | cons gr gg =>
      cases gg
      exact ⟨_, rfl, .inl ⟨p, _, rfl, e, rfl, _, _, rfl, _, _, rfl, rfl, main _ _ _ _ ga gr hf⟩⟩
    · rename_i da dr
      obtain ⟨p, us, rfl, e, gg⟩ := (Vw.st (b := b) a1).list
      cases gg with
      | cons ga gg =>
      cases gg with
      | cons gr gg =>
      cases gg
      exact ⟨_, rfl, .inr ⟨p, _, rfl, .inl (.inl e), rfl, _, _, rfl, _, _, rfl, rfl, main _ _ _ _ ga gr hf⟩⟩
    · exact hf.elim
  · exact hf.elim
section
variable {P : Program} {w : World} {mg : Str → Option Value} {base : Heap}
theorem okI {st : Stmt} {f : Addr} {fd : FuncData} {N ps : List Str} {k : Nat} {tM tG : TE} {fM fG : FE} (F : Fun K "__init__" "Table.__init__" st f fd) (sc : FnScope N ps (defScope st)) (hN : N = (["self", "line", "widths", "standing", "many", "form", "rooms"] : List Str)) (hp : ps.length = 5) (a : Snd true K tM 0 fM) (g : Snd true K tG 0 fG)
    (hbody : ∀ (cdv : Value) (A : Around) (outer : List Env) (s : Shared) (H : Hp), (A.deeper (envOfC "Table.__init__" (defScope st) s.heap.objs.size f cdv)).guards = some [] → Room k (A.deeper (envOfC "Table.__init__" (defScope st) s.heap.objs.size f cdv)) →
      PSs (cxOf CX0 P w K mg base N "Table.__init__" (defScope st) f cdv A outer s H E0).nox (defBody st) (tInit K tM tG)) : FnG P w K mg base (k + 1) f fd ps (spI K 0 (fInit fM fG)) := by
  refine okG F sc (fun vs H Q h => ?_) fun cdv A outer s H vs Q hG hr h => ⟨_, hbody cdv A outer s H hG hr, init_go a g hN h⟩
  obtain ⟨x, dx, C, rest, b, S, m, as, rfl, T, hx, sx, nb, hA, bx, bs, al, hm, l4, hf⟩ := h
  rw [List.length_cons, hA.len, l4, hp]
end
end
end Dv
namespace Dv
open PySem PySem.Spec PyProof.Rows L2 Xg
open Classical
section
variable {K : PySem.W.Frag} {c : Nat} {tr : TA} {cr : Nat} {fr : FA}
end
end Dv
namespace Dv
open PySem PySem.Spec PyProof.Rows L2 Xg
open Classical
section
variable {K : PySem.W.Frag} {tr tr2 : TA} {cr cr2 : Nat} {fr fr2 : FA}
theorem mk_run {F : FF} (mF : MonoF F) (r : SndA K tr cr fr) {b : Option Addr} {S : Addr → Prop} {m : Nat} {σ : L2.St} {H : Hp} {ρ : List Sl} {P : PyData → Prop} {Q : VK} (E : DEnv K b S m H σ ρ) (hm : m + cr ≤ LIM)
    (hf : fr ρ fun as => as.length = 4 ∧ F as P) (k : ∀ d x H', P d → Stp K b H H' → BxO b H' (m + cr) → TbO K (rm H' S) (.ref x) d → Q (.ref x) H') : tMakeT K (spI K 0 F) tr σ H Q := r.go E (by omega) hf fun as vs H1 h1 s1 b1 a1 => by
  intro C x dx T nx ndx ne
  have E1 := E.step s1 b1
  have al1 := E1.al
  let S' : Addr → Prop := fun a => S a ∨ a = x ∨ a = dx
  have nS : ¬ S x := fun z => al1.no x z nx
  let H2 := upd (upd H1 dx (.own x)) x (.ins C dx [])
  have keep : ∀ a o, H1 a = some o → H2 a = some o := fun a o e => by
    show upd (upd H1 dx (.own x)) x (.ins C dx []) a = some o
    rw [upd_ne (ne_of_none e nx), upd_ne (ne_of_none e ndx)]
    exact e
  have ex1 : Evl.Ex (rm H1 S) (rm H2 S') := fun a o e => by
    obtain ⟨n1, e1⟩ := rm_some e
    exact rm_in (fun z => z.elim n1 fun z => z.elim (fun z => by rw [z, nx] at e1; cases e1) fun z => by rw [z, ndx] at e1; cases e1) (keep a o e1) (rm_nt e)
  refine ⟨x, dx, C, vs, b, S', m + cr, as, rfl, T, upd_same, .inr (.inl rfl), fun z => nS (E.bs x z), a1.ex ex1, b1.ex keep, fun p z => .inl (E.bs p z), ⟨fun a s => ?_, (E.step s1 b1).tb.ex keep⟩, by omega, h1.1, mF _ _ _ (fun d p vM vG dM n dG H' e kp bx ins dm dg => ⟨rfl, ?_⟩) h1.2⟩
  · rcases s with s | rfl | rfl
    · obtain ⟨o, z, t⟩ := al1 a s
      exact ⟨o, keep a o z, t⟩
    · exact ⟨_, (show H2 a = _ from upd_same), rfl⟩
    · exact ⟨_, (show H2 a = some (.own x) from (upd_ne ne).trans upd_same), rfl⟩
  · have st : Stp K b H1 H' := fun a o nb e => (HoLe.of keep e).trans fun o' e' => kp a o' nb (ne_of_none e nx) e'
    have sub : Evl.Ex (rm H' S') (rm H' S) := rm_sub fun a z => .inl z
    have tb : TbO K (rm H' S) (.ref x) d := ⟨x, C, dx, vM, vG, dM, n, dG, rfl, T, rm_in nS ins, Da.mono sub dm, Da.mono sub dg, e⟩
    exact k d x H' p (s1.trans st) (bx.le (by omega)) tb
end
end Dv
namespace Dv
open PySem PySem.Spec PyProof.Rows L2 Xg
open Classical
section
variable {P : Program} {w : World} {K : PySem.W.Frag} {mg : Str → Option Value} {base : Heap}
end
section
variable {K : PySem.W.Frag} {c cr ca cb i j l : Nat} {ta tb : TE} {tr : TA} {fr : FA} {fa fb : FE}
end
end Dv
namespace Dv
open PySem PySem.Spec PyProof.Rows L2 Xg
open Classical
structure SndB (K : PySem.W.Frag) (t : TE) (c : Nat) (f : FE) : Prop where
  mono : ∀ (ρ : List Sl) (P P' : PyData → Prop), (∀ d, P d → P' d) → f ρ P → f ρ P'
  go : ∀ {b : Option Addr} {S : Addr → Prop} {m : Nat} {σ : L2.St} {H : Hp} {ρ : List Sl} {Q : VK} {P : PyData → Prop}, DEnv K b S m H σ ρ → m + c ≤ LIM → f ρ P →
    (∀ d v H', P d → Stp K b H H' → BxO b H' (m + c) → TbO K (rm H' S) v d → Q v H') → t σ H Q
inductive TbL (K : PySem.W.Frag) (H : Hp) : List V → List PyData → Prop
  | nil : TbL K H [] []
  | cons {v : V} {d : PyData} {vs : List V} {ds : List PyData} : TbO K H v d → TbL K H vs ds → TbL K H (v :: vs) (d :: ds)
structure SndBs (K : PySem.W.Frag) (t : TA) (n c : Nat) (f : List Sl → (List PyData → Prop) → Prop) : Prop where
  mono : ∀ (ρ : List Sl) (P P' : List PyData → Prop), (∀ d, P d → P' d) → f ρ P → f ρ P'
  go : ∀ {b : Option Addr} {S : Addr → Prop} {m : Nat} {σ : L2.St} {H : Hp} {ρ : List Sl} {Q : List V → Hp → Prop} {P : List PyData → Prop}, DEnv K b S m H σ ρ → m + c ≤ LIM → f ρ P →
    (∀ ds vs H', P ds → vs.length = n → Stp K b H H' → BxO b H' (m + c) → TbL K (rm H' S) vs ds → Q vs H') → t σ H Q
section
variable {K : PySem.W.Frag} {c ca cb cr n i : Nat} {ta tb t : TE} {tr : TA} {fa fb f : FE} {fr : FA}
theorem TbL.mono {H H' : Hp} (e : Evl.Ex H H') : ∀ {vs : List V} {ds : List PyData}, TbL K H vs ds → TbL K H' vs ds
  | _, _, .nil => .nil
  | _, _, .cons a g => .cons (TbO.mono e a) (TbL.mono e g)
theorem TbL.len {H : Hp} : ∀ {vs : List V} {ds : List PyData}, TbL K H vs ds → vs.length = ds.length
  | _, _, .nil => rfl
  | _, _, .cons _ g => by rw [List.length_cons, List.length_cons, TbL.len g]
theorem TbL.at {H : Hp} : ∀ {vs : List V} {ds : List PyData} {i : Nat} {v : V}, TbL K H vs ds → vs[i]? = some v → ∃ d, ds[i]? = some d ∧ TbO K H v d
  | _, _, 0, _, .cons a _, h => by
    cases h
    exact ⟨_, rfl, a⟩
  | _, _, i + 1, _, .cons _ g, h => TbL.at (i := i) g h
  | _, _, _, _, .nil, h => by simp at h
def forB (i : Nat) (f : FS) : List PyData → List Sl → DEnds → Prop
  | [], ρ, E => E.nx ρ
  | d :: ds, ρ, E => f (ρ.set i (.op d)) { E with nx := fun ρ2 => forB i f ds ρ2 E, ct := fun ρ2 => forB i f ds ρ2 E, bk := E.nx }
theorem forB_mono {f : FS} (hf : ∀ (ρ : List Sl) (E E' : DEnds), DLe E E' → f ρ E → f ρ E') {E E' : DEnds} (h : DLe E E') : ∀ (ds : List PyData) (ρ : List Sl), forB i f ds ρ E → forB i f ds ρ E'
  | [], ρ, q => h.nx _ q
  | d :: ds, ρ, q => hf _ { E with nx := fun ρ2 => forB i f ds ρ2 E, ct := fun ρ2 => forB i f ds ρ2 E, bk := E.nx } { E' with nx := fun ρ2 => forB i f ds ρ2 E', ct := fun ρ2 => forB i f ds ρ2 E', bk := E'.nx } ⟨fun ρ2 => forB_mono hf h ds ρ2, h.rt, h.rl, h.nx, fun ρ2 => forB_mono hf h ds ρ2⟩ q
end
end Dv
namespace Dv
open PySem PySem.Spec PyProof.Rows L2 Xg
open Classical
section
variable {K : PySem.W.Frag} {wi : TI} {ci ce i j l : Nat} {fi : FD} {g : TG} {vs : List Nat} {fg : FG} {te : TE} {fe : FE}
theorem TbL.app {H : Hp} : ∀ {vs : List V} {ds : List PyData} {v : V} {d : PyData}, TbL K H vs ds → TbO K H v d → TbL K H (vs ++ [v]) (ds ++ [d])
  | _, _, _, _, .nil, h => .cons h .nil
  | _, _, _, _, .cons a g, h => .cons a (TbL.app g h)
end
end Dv
namespace Dv
open PySem PySem.Spec PyProof.Rows L2 Xg
open Classical
section
variable {X : Cx}
structure Ti (K : PySem.W.Frag) (mg : Str → Option Value) : Prop where
  ex : ∃ C, TbF K C ∧ C8.InsC K C ∧ mg "Table" = some (.ref C)
end
section
variable {K : PySem.W.Frag} {c ca cb i : Nat} {ta tb t : TE} {fa fb f : FE}
end
section
variable {X : Cx} {z : Str} {t : TE} {p p0 p2 pos : Pos}
end
section
variable {K : PySem.W.Frag}
end
end Dv
namespace Sl
open PySem PySem.Spec PyProof.Rows L2
section
variable {P : Program} {w : World} {A : Around} {E : Value → Shared → Prop} {s : Shared}
abbrev bare (w : World) : Obj := { cls := .type "set", dict := none, data := .set #[] 0 (.fresh 0 0 (!w.params.followText "set-order")) }
theorem made {l : Addr} {items : Array Value} (ns : List Int) {Q : Value → Shared → Prop} (hh : A.handled = none) (hl : s.heap.IsList l items) (hit : IntsAre items.toList ns) (hb : ns.length + 1 < scanBound)
    (q : ∀ (g : Heap) (tk c : Nat), SetR w g s.heap.objs.size (fun j => decide (j ∈ ns)) c → c ≤ ns.length → (∀ b o, s.heap.get? b = some o → g.get? b = some o) → Q (.ref s.heap.objs.size) { s with heap := g, toks := tk }) :
    wpAny (model P w) A (call (.type "set") [.ref l]) Q E s := by
  have size : items.size = ns.length := (Array.length_toList (xs := items)).symm.trans (IntsAre.length hit)
  obtain ⟨c, tl, hmro⟩ := F.called_set.mro
  have m1 := F.called_set.made
  have m2 := F.called_set.sub
  have m3 := F.called_set.notType
  have m4 := F.called_set.canCreate
  have m5 := F.typeCall_set_1 (.ref l)
  refine wpAny_call (codeAny_of_tree ?_)
  show wpAny _ _ (callAny (.type "set") _) _ _ _
  refine wpAny_pure ⟨Code.quiet_builtin _ (by decide +kernel), codeAny_builtin F.entry_type_call ?_⟩
  rw [Around.under_plain (weight_type_call_type "set" [.ref l] []) rfl]
  repeat (any_goals (first | assumption | wp_step))
  refine codeAny_mono (code_set_led1 (.ref l) (E := E) (Q₁ := fun obj t => obj = .ref s.heap.objs.size ∧ t = { s with heap := s.heap.push (bare w) }) ⟨rfl, rfl⟩) fun r t hr => ?_
  cases r with
  | error e => exact hr
  | ok fl =>
    cases fl with
    | ret obj =>
      obtain ⟨rfl, rfl⟩ := hr
      have z0 : (s.heap.push (bare w)).get? s.heap.objs.size = some (bare w) := Heap.get?_push_size _ rfl
      have T : Shared.TypeIs { s with heap := s.heap.push (bare w) } (.ref s.heap.objs.size) "set" := ⟨_, z0, rfl⟩
      have i1 := F.called_set.init.lookup
      have i2 := F.called_set.init.bind (.ref s.heap.objs.size)
      repeat (any_goals (first | assumption | wp_step))
      refine codeAny_mono (codeAny_call_builtin (R := wants (fun r t => r = .none ∧ ∃ g tk c, t = { s with heap := g, toks := tk } ∧ SetR w g s.heap.objs.size (fun j => decide (j ∈ ns)) c ∧ c ≤ ns.length ∧ ∀ b o, s.heap.get? b = some o → g.get? b = some o) E) F.called_set.init.plain F.entry_set_init (check_set_init_1 T ?_)) fun r2 t2 h2 => ?_
      · obtain ⟨⟨k, d, dt, so⟩, ol, ek, nl, ed⟩ := hl
        simp only at ek ed
        subst ek ed
        have l1 : (s.heap.push (bare w)).get? l = some { cls := .type "list", dict := d, data := .seq items nl, slots := so } := Heap.get?_push_of_some _ ol
        have L1 : (s.heap.push (bare w)).IsList l items := ⟨_, l1, rfl, nl, rfl⟩
        have n1 := F.sub_list_set
        have n2 := F.sub_list_frozenset
        have n3 : (Value.type "list" == Value.type "dict") = false := by decide
        unfold Builtin.«set.__init__» noKeywords Builtin.Frozenset.updateFrom
        generalize gi : pyIter = it
        wp_walk
        subst gi
        refine wpAny_pyIter_list L1 ?_
        refine wpAny_bind (wpAny_runValue ?_)
        have lt : l < s.heap.objs.size := Heap.lt_size ol
        have sz : (s.heap.push (bare w)).objs.size = s.heap.objs.size + 1 := Heap.size_push ..
        have hv : ∀ (i : Nat) (v : Value), items[i]? = some v → ∃ k t, ns[i]? = some k ∧ v = .int k t := fun i v e => by
          have hi : i < ns.length := by rw [← size]; exact (Array.getElem?_eq_some_iff.mp e).1
          obtain ⟨t, e⟩ := IntsAre.int_at hit i v (by rw [Array.getElem?_toList]; exact e)
          rw [List.getD_eq_getElem?_getD, List.getElem?_eq_getElem hi] at e
          exact ⟨ns[i], t, List.getElem?_eq_getElem hi, e⟩
        refine set_update_ints ((Walks.list (by simp [hh]) _ l (by rw [sz]; exact Nat.ne_of_lt (Nat.lt_succ_of_lt lt)) items).toS) s.heap.objs.size (by
          rw [sz]
          simp only [List.mem_cons, List.not_mem_nil, or_false, not_or]
          exact ⟨Nat.ne_of_lt (Nat.lt_succ_self _), Nat.ne_of_gt lt⟩) ns size hb hv (items.size - 0) 0 _ (by omega) (Nat.zero_le _)
          ⟨⟨_, Heap.get?_push_size _ rfl, rfl, rfl⟩, L1.push _⟩ ⟨0, Nat.le_refl 0, setR_new_at (Heap.get?_push_of_some _ z0)⟩ fun t c mv hc R => ?_
        obtain ⟨g, g2, d2, tk, os⟩ := t
        have eg : g2 = s.gens := mv.gens
        have ed : d2 = s.drawn := mv.drawn
        have eo : os = s.os := mv.os
        subst eg ed eo
        show wpAny _ _ _ _ _ _
        refine wpAny_pure ?_
        show wpAny _ _ (ret Value.none) _ _ _
        refine wpAny_pure ⟨rfl, g, tk, c, rfl, R, by omega, fun b o e => ?_⟩
        have bl := Heap.lt_size e
        exact mv.heap b o (by
          rw [sz]
          simp only [List.mem_cons, List.not_mem_nil, or_false, not_or]
          exact ⟨Nat.ne_of_lt bl, Nat.ne_of_lt (Nat.lt_succ_of_lt bl)⟩) (Heap.get?_push_of_some _ (Heap.get?_push_of_some _ e))
      · cases r2 with
        | error e => exact h2
        | ok fl2 =>
          cases fl2 with
          | ret r =>
            obtain ⟨rfl, g, tk, c, rfl, R, hc, kp⟩ := h2
            repeat (any_goals (first | assumption | wp_step))
            exact q _ _ _ R hc kp
          | _ => exact h2.elim
    | _ => exact hr.elim
end
end Sl
namespace Dv
open PySem PySem.Spec PyProof.Rows L2 Xg
section
variable {K : PySem.W.Frag}
end
end Dv
namespace Ex
open PySem PySem.Spec PyProof.Rows L2 Xv
section
variable {X : Cx} {cls : Value} {b : Bool}
end
section
def spInit (C : Addr) (f : Str) : Sp := fun vs H Q _ => ∃ (a : Addr) (v : V), vs = [.ref a, v] ∧ H a = some (exo a C none) ∧
  ∀ dx, H dx = none → dx ≠ a → Q .non (upd (upd H dx (exd dx [(f, v)])) a (exo a C (some dx)))
structure Mk1 (P : Program) (w : World) (K : PySem.W.Frag) (mg : Str → Option Value) (base : Heap) (x f : Str) (C : Addr) : Prop where
  ex : ∃ (newId initId Bs : String) (bmB : List Value) (fI : Addr) (fd : FuncData), XC K C newId bmB ∧ BF Bs newId initId bmB ∧
    PySem.W.findIn K (.ref C) "__init__" = some (some (.ref fI)) ∧ PySem.W.typeIn K (.ref fI) = some (.type "function") ∧
    FnOk P w K mg base CX0 1 fI fd ["self", f] (spInit C f) ∧ L2.Binds K fd ["self", f] []
  g : mg x = some (.ref C)
  no : PySem.W.findIn K (.ref C) f = some none
  is : ExcC K C
  ty : PySem.W.typeIn K (.ref C) = some (.type "type")
structure Mk0 (K : PySem.W.Frag) (mg : Str → Option Value) (x : Str) (C : Addr) : Prop where
  ex : ∃ (newId initId Bs : String) (bmB : List Value), BF Bs newId initId bmB ∧ PySem.W.excIn K C bmB newId = true
  g : mg x = some (.ref C)
  kp : PySem.W.keepIn K (.ref C) = true
  is : ExcC K C
  ty : PySem.W.typeIn K (.ref C) = some (.type "type")
end
end Ex
namespace Ex
open PySem PySem.Spec PyProof.Rows L2 Xg Dv
structure FnX (P : Program) (w : World) (K : PySem.W.Frag) (mg : Str → Option Value) (base : Heap) (k : Nat) (f : Addr) (fd : FuncData) (ps : List Str) (sp : Sp) : Prop where
  len : ∀ vs H Q E, sp vs H Q E → vs.length = ps.length
  run : ∀ (A : Around) (outer : List Env) (s : Shared) (H : Hp) (args : Args) (us : List Value) (vs : List V) (Q : VK) (E : XK), A.guards = some [] → Room k A → Env0 P w K mg base A outer s H →
    BindsTo s fd args (ps.zip us) → Vals vs us → sp vs H Q E → codeAny (model P w) A (.call (.ref f) args) (CR (L2.CX P w) outer P w H s Q E) s
section
variable {P : Program} {w : World} {K : PySem.W.Frag} {mg : Str → Option Value} {base : Heap}
end
structure DfX (P : Program) (w : World) (K : PySem.W.Frag) (mg : Str → Option Value) (base : Heap) (x : Str) (ps : List Str) (k : Nat) (sp : Sp) : Prop where
  ex : ∃ (f : Addr) (fd : FuncData), FnX P w K mg base k f fd ps sp ∧ mg x = some (.ref f) ∧ PySem.W.keepIn K (.ref f) = true ∧ L2.Binds K fd ps []
structure DfB (P : Program) (w : World) (K : PySem.W.Frag) (mg : Str → Option Value) (base : Heap) (x : Str) (ps : List Str) (j k : Nat) (sp spx : Sp) : Prop where
  ex : ∃ (f : Addr) (fd : FuncData), FnG P w K mg base j f fd ps sp ∧ FnX P w K mg base k f fd ps spx ∧ mg x = some (.ref f) ∧ PySem.W.keepIn K (.ref f) = true ∧ L2.Binds K fd ps []
abbrev XW := Str → Option (Str × PyData) → Prop
def XdR (K : PySem.W.Frag) (S : Addr → Prop) (H : Hp) (d : Option Addr) : Option (Str × PyData) → Prop
  | none => d = none
  | some (f, u) => ∃ dx v, d = some dx ∧ H dx = some (.xd [(f, v)]) ∧ ¬ S dx ∧ Da K (rm H S) v u
abbrev FR := List Sl → XW → Prop
structure SndRE (K : PySem.W.Frag) (t : WX → TE) (c : Nat) (f : FR) : Prop where
  mono : ∀ (ρ : List Sl) (P P' : XW), (∀ x d, P x d → P' x d) → f ρ P → f ρ P'
  go : ∀ {b : Option Addr} {S : Addr → Prop} {m : Nat} {σ : L2.St} {H : Hp} {ρ : List Sl} {W : WX} {P : XW}, DEnv K b S m H σ ρ → m + c ≤ LIM → f ρ P →
    (∀ x d dd H', P x d → Stp K b H H' → BxO b H' (m + c) → XdR K S H' dd d → W (.ref (ca K x)) dd σ H') → ∀ Q, t W σ H Q
structure SndR (K : PySem.W.Frag) (t : WX → TS) (c : Nat) (f : FR) : Prop where
  mono : ∀ (ρ : List Sl) (P P' : XW), (∀ x d, P x d → P' x d) → f ρ P → f ρ P'
  go : ∀ {G : Addr → Prop} {H0 : Hp} {b0 b : Option Addr} {os : Nat → Option Addr} {m : Nat} {H : Hp} {σ : L2.St} {ρ : List Sl} {W : WX} {P : XW}, Ok K G H0 b0 b os m H σ ρ → m + c ≤ LIM → f ρ P →
    (∀ x d dd H' σ', P x d → Out K G H0 b0 (m + c) H' → XdR K G H' dd d → W (.ref (ca K x)) dd σ' H') → ∀ D, t W D σ H
section
variable {K : PySem.W.Frag} {md : Bool} {ta tb : TE} {te : WX → TE} {ca' cb c cu cr ct : Nat} {fa fb : FE} {fe f g : FR} {t u : WX → TS} {tr : TA} {fr : FA}
theorem XdR.sub {S T : Addr → Prop} {H : Hp} {d : Option Addr} {fs : Option (Str × PyData)} (h : XdR K S H d fs) (hs : ∀ a, T a → S a) : XdR K T H d fs := by
  cases fs with
  | none => exact h
  | some p =>
    obtain ⟨dx, v, e1, e2, n, e3⟩ := h
    exact ⟨dx, v, e1, e2, fun z => n (hs _ z), Da.mono (rm_sub hs) e3⟩
end
section
variable {P : Program} {w : World} {K : PySem.W.Frag} {mg : Str → Option Value} {base : Heap}
end
end Ex
namespace Ex
open PySem PySem.Spec PyProof.Rows L2 Xg Dv
open Classical
section
variable {K : PySem.W.Frag} {b : Option Addr} {S : Addr → Prop} {m n : Nat} {H H' : Hp} {σ : L2.St} {ρ : List Sl}
end
abbrev FB := List Sl → DEnds → XW → Prop
structure SndB (K : PySem.W.Frag) (t : WX → TS) (c : Nat) (f : FB) : Prop where
  mono : ∀ (ρ : List Sl) (E E' : DEnds) (P P' : XW), DLe E E' → (∀ x d, P x d → P' x d) → f ρ E P → f ρ E' P'
  go : ∀ {G : Addr → Prop} {H0 : Hp} {b0 b : Option Addr} {os : Nat → Option Addr} {m : Nat} {H : Hp} {σ : L2.St} {ρ : List Sl} {D : Ends} {E : DEnds} {W : WX} {P : XW}, Ok K G H0 b0 b os m H σ ρ → m + c ≤ LIM → f ρ E P →
    Goes K G H0 b0 (m + c) (SO G b os) H E D → (∀ x d dd H', P x d → Stp K b H H' → BxO b H' (m + c) → XdR K (SO G b os) H' dd d → W (.ref (ca K x)) dd σ H') → t W D σ H
section
variable {K : PySem.W.Frag} {md : Bool} {ta : TE} {ca' c cu cr ct : Nat} {fa : FE} {f g : FB} {t u : WX → TS} {tr : TA} {fr : FA}
end
end Ex
namespace Ex
open PySem PySem.Spec PyProof.Rows L2 Xg Dv
open Classical
structure SndRA (K : PySem.W.Frag) (t : WX → TA) (c : Nat) (f : FR) : Prop where
  mono : ∀ (ρ : List Sl) (P P' : XW), (∀ x d, P x d → P' x d) → f ρ P → f ρ P'
  go : ∀ {b : Option Addr} {S : Addr → Prop} {m : Nat} {σ : L2.St} {H : Hp} {ρ : List Sl} {W : WX} {P : XW}, DEnv K b S m H σ ρ → m + c ≤ LIM → f ρ P →
    (∀ x d dd H', P x d → Stp K b H H' → BxO b H' (m + c) → XdR K S H' dd d → W (.ref (ca K x)) dd σ H') → ∀ Q, t W σ H Q
section
variable {K : PySem.W.Frag} {md : Bool} {ta : TE} {te : WX → TE} {ca' c cu cr ct : Nat} {fa : FE} {f g : FR} {t u : WX → TS} {tr : TA} {tw : WX → TA}
abbrev FQ := List Sl → (List Sl → Prop) → XW → Prop
structure SndQ (K : PySem.W.Frag) (t : WX → TS) (c : Nat) (f : FQ) : Prop where
  mono : ∀ (ρ : List Sl) (N N' : List Sl → Prop) (P P' : XW), (∀ r, N r → N' r) → (∀ x d, P x d → P' x d) → f ρ N P → f ρ N' P'
  go : ∀ {G : Addr → Prop} {H0 : Hp} {b0 b : Option Addr} {os : Nat → Option Addr} {m : Nat} {H : Hp} {σ : L2.St} {ρ : List Sl} {D : Ends} {N : List Sl → Prop} {W : WX} {P : XW}, Ok K G H0 b0 b os m H σ ρ → m + c ≤ LIM → f ρ N P →
    (∀ b1 os1 σ' H' ρ', N ρ' → Ok K G H0 b0 b1 os1 (m + c) H' σ' ρ' → Lk (SO G b os) H (SO G b1 os1) H' → D.nx σ' H') →
    (∀ x d dd H' σ', P x d → Out K G H0 b0 (m + c) H' → XdR K G H' dd d → W (.ref (ca K x)) dd σ' H') → t W D σ H
variable {fq gq : FQ}
end
end Ex
namespace Ex
open PySem PySem.Spec PyProof.Rows L2 Xg Dv
open Classical
section
variable {K : PySem.W.Frag} {c cu ct : Nat} {f g : FR} {t u : WX → TS}
end
section
variable {X : Cx} {n m : Str} {i j : Nat} {body : List Stmt} {ty : Expr} {mp np ap pos pos' : Pos} {tb : WX → TS} {xs : List Str}
end
section
variable {K : PySem.W.Frag}
end
section
variable {P : Program} {w : World} {K : PySem.W.Frag} {mg : Str → Option Value} {base : Heap}
theorem btL : bootBuiltins "LookupError" = some (.type "LookupError") := by decide +kernel
end
end Ex
namespace Ex
open PySem PySem.Spec PyProof.Rows L2 Xg Dv
open Classical
structure AtB (P : Program) (w : World) (K : PySem.W.Frag) (mg : Str → Option Value) (base : Heap) (A : Around) (f : Addr) (sp spx : Sp) : Prop where
  ex : ∃ (fd : FuncData) (ps : List Str) (j k : Nat), FnG P w K mg base j f fd ps sp ∧ FnX P w K mg base k f fd ps spx ∧ Room j A ∧ Room k A ∧ PySem.W.keepIn K (.ref f) = true ∧ L2.Binds K fd ps []
theorem DfB.at_ {P : Program} {w : World} {K : PySem.W.Frag} {mg : Str → Option Value} {base : Heap} {A : Around} {x : Str} {ps : List Str} {j k : Nat} {sp spx : Sp} (D : DfB P w K mg base x ps j k sp spx) (g : mg x = some (.ref (ca K x))) (r1 : Room j A) (r2 : Room k A) : AtB P w K mg base A (ca K x) sp spx := by
  obtain ⟨f, fd, a, b, c, d, e⟩ := D.ex
  rw [c] at g
  cases Option.some.inj g
  exact ⟨fd, ps, j, k, a, b, r1, r2, d, e⟩
structure Ent where
  x : Str
  c : Nat
  cR : Nat
  F : FF
  R : FR
section
variable {K : PySem.W.Frag} {c cr : Nat} {tr : TA} {fr : FA}
end
end Ex
namespace Ex
open PySem PySem.Spec PyProof.Rows L2 Xg Dv
open Classical
section
variable {P : Program} {w : World} {K : PySem.W.Frag} {mg : Str → Option Value} {base : Heap}
end
section
variable {K : PySem.W.Frag} {c1 c2 cr1 cr2 : Nat} {tr1 tr2 : TA} {fr1 fr2 : FA}
end
end Ex
namespace Ex
open PySem PySem.W PySem.Spec PyProof.Rows L2 Xv
section
variable {M : Model} {K : Frag} {A : Around} {E : Value → Shared → Prop} {s : Shared}
end
section
variable {X : Cx} {cls : Value} {b : Bool}
end
end Ex
namespace Dv
open PySem PySem.Spec PyProof.Rows L2 Xg
section
variable {X : Cx}
end
section
variable {K : PySem.W.Frag} {md : Bool} {ta tb : TE} {ca cb : Nat} {fa fb : FE}
end
end Dv
namespace Ex
open PySem PySem.Spec PyProof.Rows L2 Xg Dv
open Classical
section
variable {K : PySem.W.Frag} {md md2 : Bool} {ta tb : TE} {ca' cb c cu cr cw u cu' : Nat} {fa fb : FE} {tr : TA} {fr : FA} {t v : WX → TS} {fq : FQ} {g : FR}
end
end Ex
namespace Dv
open PySem PySem.Spec PyProof.Rows L2 Xg
open Classical
structure MfK (P : Program) (w : World) (K : PySem.W.Frag) (mg : Str → Option Value) (base : Heap) (m : Str) (ps ks : List Str) (k : Nat) (sp : Sp) : Prop where
  ex : ∃ (C f : Addr) (fd : FuncData), TbF K C ∧ Meth K C m f ∧ FnG P w K mg base k f fd ps sp ∧ ∀ (s : Shared) (self : Value) (ws : List Value), K.In s.heap → ws.length = ks.length → BindsTo s fd ⟨[self], ks.zip ws⟩ (ps.zip (self :: ws))
section
variable {X : Cx}
def oKinds : List String := ["int", "str", "tuple"]
structure Tn (K : PySem.W.Frag) (mg : Str → Option Value) : Prop where
  ex : ∃ C, TbF K C ∧ mg "Table" = some (.ref C) ∧ ∀ T ∈ oKinds, PySem.W.kitOne K (.type T) (.ref C) = some false ∧ PySem.W.subIn K (.type T) (.ref C) = some false
end
section
variable {K : PySem.W.Frag} {md : Bool} {c ca cb cr i j : Nat} {ta tb t : TE} {tr : TA} {fr : FA} {fa fb f : FE}
end
end Dv
namespace Ex
open PySem PySem.Spec PyProof.Rows L2 Xg Dv
open Classical
structure MfX (P : Program) (w : World) (K : PySem.W.Frag) (mg : Str → Option Value) (base : Heap) (m : Str) (ps : List Str) (k : Nat) (sp : Sp) : Prop where
  ex : ∃ (C f : Addr) (fd : FuncData), TbF K C ∧ Meth K C m f ∧ FnX P w K mg base k f fd ps sp ∧ L2.Binds K fd ps []
def tMethTR (K : PySem.W.Frag) (m : Str) (spx : Sp) (E : L2.St → XK) (ta : TE) (t : TA) : TE := fun σ H Q => ta σ H fun x H1 => ∃ (a C dx : Addr) (fs : List (Str × V)), x = .ref a ∧ TbF K C ∧ H1 a = some (.ins C dx fs) ∧ fs.lookup m = none ∧ t σ H1 fun vs H2 => spx (x :: vs) H2 Q (E σ)
theorem pe_methTR {X : Cx} {o e : Expr} {es : List Expr} {ta : TE} {t : TA} {m : Str} {ps : List Str} {k : Nat} {sp : Sp} {apos pos : Pos} {pl : Sem Bool} {W : WX} (M : MfX X.prog X.w X.K X.mg X.base m ps k sp) (he : PE X o ta) (hG : X.A.guards = some []) (hr : Room k X.A) (tk : Takes X W) (ha : PA X (e :: es) t)
    (hst : starEach (e :: es) X.env = (false, eval e X.env) :: starEach es X.env := by rfl) (hpl : (backTo pos (starEach es X.env)).any (·.1) = false := by rfl)
    (ht : eval (.Call (.Attribute o m apos) (e :: es) [] pos) X.env = (eval o X.env >>= fun ov => standAt apos.atName >>= fun _ => holding [ov] (getMethod ov m pl) >>= fun z => callWith pos z.1 z.2 (backTo pos (starEach (e :: es) X.env)) (backToKw pos (keywordEach [] X.env))) := by rfl) :
    PE X (.Call (.Attribute o m apos) (e :: es) [] pos) (tMethTR X.K m sp (WE W) ta t) := by
  obtain ⟨C, f, fd, T, hm, F, hb⟩ := M.ex
  refine ⟨fun pins s σ H Q I h => PySem.W.methodCall_KW (pl := pl) (thn (he.run pins s σ H _ I h) fun u s1 ⟨x, H1, I1, rx, a, C', dx, fs, ex, T', ea, l, q⟩ => ?_) ht⟩
  cases T.uniq T'
  subst ex
  obtain rfl : u = Value.ref a := rx
  refine getmeth_ok I1 ea T.cl hm l (PySem.W.callWith_K (first := [.ref a]) (h₀ := X.base) I.ok.mod.kin hm.kp (thn (ha.run pos pins s1 σ H1 _ I1 q) fun us s2 ⟨vs, H2, I2, r, q2⟩ => ⟨I2.kIn, ?_⟩) hst hpl)
  have hb1 := hb s2 (.ref a :: us) I2.kIn (by rw [List.append_nil, List.length_cons, ← r.length, ← F.len _ _ _ _ q2, List.length_cons])
  rw [List.append_nil] at hb1
  refine wpAny_call (codeAny_mono (F.run X.A X.stack s2 H2 ⟨.ref a :: us, []⟩ (.ref a :: us) (.ref a :: vs) Q (WE W σ) hG hr I2.env0 hb1 (.cons rfl r) q2) fun res s' hq => ?_)
  cases res with
  | error er => exact passAt tk σ pins H2 s2 er s' I2 hq
  | ok fl =>
    cases fl with
    | ret u => exact I2.after hq
    | next => exact False.elim hq
    | brk => exact False.elim hq
    | cont => exact False.elim hq
section
variable {K : PySem.W.Frag} {ta : TE} {ca' c cr : Nat} {fa : FE} {tr : TA} {fr : FA} {te : WX → TE} {f : FR}
end
end Ex
namespace Dv
open PySem PySem.Spec PyProof.Rows L2 Xg
open Classical
def compN (g : FG) (e : FD) (ρ : List Sl) : List PyData → List (List PyData) → (List (List PyData) → Prop) → Prop
  | [], acc, Q => Q acc
  | d :: ds, acc, Q => g d ρ fun ρ' => e ρ' fun y => compN g e ρ ds (acc ++ [y]) Q
structure SndLN (K : PySem.W.Frag) (t : TE) (c : Nat) (f : FN) : Prop where
  mono : ∀ (ρ : List Sl) (P P' : List (List PyData) → Prop), (∀ d, P d → P' d) → f ρ P → f ρ P'
  go : ∀ {b : Option Addr} {S : Addr → Prop} {m : Nat} {σ : L2.St} {H : Hp} {ρ : List Sl} {Q : VK} {P : List (List PyData) → Prop}, DEnv K b S m H σ ρ → m + c ≤ LIM → f ρ P →
    (∀ (dss : List (List PyData)) (ps : List Addr) (D : Addr) (H' : Hp), P dss → H D = none → Stp K b H H' → BxO b H' (m + c) → (∀ q ∈ ps, H q = none) → ps.Nodup → D ∉ ps → H' D = some (.lst (ps.map V.ref)) → DaL K (rm H' fun a => S a ∨ a = D) (ps.map V.ref) (dss.map PyData.list) → Q (.ref D) H') → t σ H Q
section
variable {K : PySem.W.Frag} {wi : TI} {ci ce : Nat} {fi : FD} {g : TG} {vs : List Nat} {fg : FG} {te : TE} {fe : FD}
theorem compN_mono {ρ : List Sl} (hg : ∀ d (ρ : List Sl) (P P' : List Sl → Prop), (∀ d, P d → P' d) → fg d ρ P → fg d ρ P') (he : ∀ (ρ : List Sl) (P P' : List PyData → Prop), (∀ d, P d → P' d) → fe ρ P → fe ρ P') {P P' : List (List PyData) → Prop} (h : ∀ d, P d → P' d) : ∀ (ds : List PyData) (acc : List (List PyData)), compN fg fe ρ ds acc P → compN fg fe ρ ds acc P'
  | [], acc, q => h _ q
  | d :: ds, acc, q => hg _ _ _ _ (fun ρ' => he _ _ _ fun y => compN_mono hg he h ds _) q
abbrev nComp (N : Nat) (fi : FD) (vs : List Nat) (fg : FG) (fe : FD) : FN := fun ρ Q => fi ρ fun ds => ds.length ≤ N ∧ compN fg fe (wipeD ρ vs) ds [] Q
theorem sndln_comp {N : Nat} (hN : N ≤ 1000000) (w : SndI false K wi ci fi) (hg : SndG K g vs fg) (e : SndL K te ce fe) : SndLN K (tLc wi g tYes te vs) (ci + N * ce) (nComp N fi vs fg fe) := by
  refine ⟨fun ρ P P' h q => w.mono _ _ _ (fun ds z => ⟨z.1, compN_mono hg.mono e.mono h _ _ z.2⟩) q, fun {b S m σ H ρ Q P} E hm hf k => w.go E (by omega) hf fun ds J H1 p st bx wk => ?_⟩
  obtain ⟨hn, hc⟩ := p
  intro D nD
  have E1 := E.step st bx
  have nD0 : H D = none := back st bx nD
  have bD : b ≠ some D := fun z => by
    rw [z] at bx
    obtain ⟨_, _, _, _, _, _, _, _, e2⟩ := bx
    rw [nD] at e2
    cases e2
  refine lc_it (w := wk) (fun y H2 => ∃ (acc : List (List PyData)) (ps : List Addr), Stp K b H1 H2 ∧ BxO b H2 (m + ci + y * ce) ∧ H2 D = some (.lst (ps.map V.ref)) ∧ ps.length ≤ y ∧ ps.Nodup ∧ (∀ q ∈ ps, H1 q = none ∧ q ≠ D) ∧ DaL K (rm H2 fun a => S a ∨ a = D) (ps.map V.ref) (acc.map PyData.list) ∧ compN fg fe (wipeD ρ vs) (ds.drop y) acc P)
    ⟨[], [], Stp.ex (Evl.Ex.new nD), (bx.ex (Evl.Ex.new nD)).le (by omega), upd_same, Nat.le_refl _, .nil, fun q h => (nomatch h), .nil, hc⟩ (fun u H2 hj pe => ?_) (fun u x H2 H3 hj pe y => ?_) (fun H2 pe => ?_)
  · obtain ⟨acc, ps, s2, _⟩ := pe
    exact s2
  · obtain ⟨acc, ps, s2, b2, hD, hl, nd, nw, hx, hc⟩ := pe
    have al2 : Al (fun a => S a ∨ a = D) H2 := (E1.hold nD s2 b2 ⟨_, hD, rfl⟩).al
    have exT : Evl.Ex (rm H1 S) (rm H2 fun a => S a ∨ a = D) := fun a o h => by
      obtain ⟨n1, h1⟩ := rm_some h
      exact rm_in (fun z => z.elim n1 fun w => by rw [w, nD] at h1; cases h1) ((s2 a o (fun z => n1 (E.bs a z)) h1).eq (rm_nt h)) (rm_nt h)
    obtain ⟨e23, d, ed, hd3⟩ := y _ exT al2
    have nj : (u + 1) * ce = u * ce + ce := by rw [Nat.add_mul, Nat.one_mul]
    have le : (u + 1) * ce ≤ N * ce := Nat.mul_le_mul_right _ (by omega)
    have ej := List.getElem?_eq_some_iff.mp ed
    rw [List.drop_eq_getElem_cons ej.1, ej.2] at hc
    have s3 : Stp K b H1 H3 := s2.trans (Stp.ex e23)
    have b3 := b2.ex e23
    have hD3 := e23 _ _ hD
    have E3 := E1.hold nD s3 b3 ⟨_, hD3, rfl⟩
    refine hg.go (DEnv.wipe (vs := vs) E3) hd3 hc fun ρ4 σ4 h4 E4 k4 => ⟨?_, ?_⟩
    · rw [k4.sg, wipe_wipe]
    unfold L2.tYes
    refine (if_pos (c := true = true) rfl).mpr ?_
    refine e.go E4 (by omega) h4 fun z zs q H6 h6 nq s6 b6 eq6 d6 => ?_
    have hD6 : H6 D = some (.lst (ps.map V.ref)) := s6 _ _ bD hD3
    have s16 := s3.trans s6
    have hx3 : DaL K (rm H3 fun a => S a ∨ a = D) (ps.map V.ref) (acc.map PyData.list) := hx.mono (rm_ex e23)
    have hx6 : DaL K (rm H6 fun a => S a ∨ a = D) (ps.map V.ref) (acc.map PyData.list) := hx3.mono (s6.rm E4.bs)
    have qD : q ≠ D := fun z => by rw [z, hD3] at nq; cases nq
    have nS : ¬ S q := fun z => by
      obtain ⟨o, ho, _⟩ := E4.al q (.inl z)
      rw [nq] at ho
      cases ho
    have stands : ∀ (ps : List Addr) (acc : List (List PyData)), DaL K (rm H3 fun a => S a ∨ a = D) (ps.map V.ref) (acc.map PyData.list) → ∀ r ∈ ps, ∃ o, H3 r = some o := by
      intro ps
      induction ps with
      | nil => intro acc _ r h; cases h
      | cons p ps ih =>
        intro acc h r hr
        cases acc with
        | nil => cases h
        | cons a acc =>
          cases h with
          | cons h1 h2 =>
            rcases List.mem_cons.mp hr with rfl | hr
            · cases h1 with
              | lst e1 _ => exact ⟨_, rm_le _ _ e1⟩
            · exact ih acc h2 r hr
    have qn : q ∉ ps := fun z => by
      obtain ⟨o, ho⟩ := stands ps acc hx3 q z
      rw [nq] at ho
      cases ho
    have out : Evl.Ex (rm H6 fun a => S a ∨ a = D) (rm (upd H6 D (.lst (ps.map V.ref ++ [.ref q]))) fun a => S a ∨ a = D) := rm_mono fun a o n _ h => by
      rw [upd_ne fun z => n (.inr z)]
      exact h
    have dq : Da K (rm H6 fun a => S a ∨ a = D) (.ref q) (.list z) := .lst (rm_in (fun z => z.elim nS qD) eq6) (d6.mono (rm_sub fun a h => .inl h))
    have em : (ps ++ [q]).map V.ref = ps.map V.ref ++ [.ref q] := by rw [List.map_append]; rfl
    have ea : (acc ++ [z]).map PyData.list = acc.map PyData.list ++ [.list z] := by rw [List.map_append]; rfl
    refine ⟨_, hD6, Nat.lt_of_le_of_lt (Nat.le_trans (by rw [List.length_map]; exact hl) (by omega)) (show 1000000 < sizeLine by decide), acc ++ [z], ps ++ [q], stp_new s16 nD hD6, ?_, by rw [em]; exact upd_same, ?_, ?_, fun r hr => ?_, by rw [em, ea]; exact (hx6.app (.cons dq .nil)).mono out, h6⟩
    · have b7 : BxO b H6 (m + ci + (u + 1) * ce) := b6.le (by omega)
      cases b with
      | none => trivial
      | some p =>
        obtain ⟨x1, y1, z1, g1, g2, g3, g4, g5, g6⟩ := b7
        exact ⟨x1, y1, z1, g1, g2, g3, g4, g5, by rw [upd_ne fun z => bD (by rw [z])]; exact g6⟩
    · rw [List.length_append]
      exact Nat.succ_le_succ hl
    · exact List.nodup_append.mpr ⟨nd, List.nodup_cons.mpr ⟨List.not_mem_nil, .nil⟩, fun a ha b' hb' => by
        rw [List.mem_singleton.mp hb']
        exact fun z => qn (z ▸ ha)⟩
    · rcases List.mem_append.mp hr with hr | hr
      · exact nw r hr
      · rw [List.mem_singleton.mp hr]
        exact ⟨back s3 b3 nq, qD⟩
  · obtain ⟨acc, ps, s2, b2, hD, hl, nd, nw, hx, hc⟩ := pe
    rw [List.drop_length] at hc
    have le : ds.length * ce ≤ N * ce := Nat.mul_le_mul_right _ hn
    exact k acc ps D H2 hc nD0 (st.trans s2) (b2.le (by omega)) (fun q h => back st bx (nw q h).1) nd (fun z => (nw D z).2 rfl) hD hx
end
end Dv
namespace Dv
open PySem PySem.Spec PyProof.Rows L2 Xg
open Classical
abbrev FNF := List Sl → (List (List PyData) → Prop) → Prop
def MonoN (F : FNF) : Prop := ∀ as (P P' : List (List PyData) → Prop), (∀ d, P d → P' d) → F as P → F as P'
def spN (K : PySem.W.Frag) (c : Nat) (F : FNF) : Sp := fun vs H Q _ => ∃ (b : Option Addr) (S : Addr → Prop) (m : Nat) (as : List Sl), ArgL K b S H vs as ∧ BxO b H m ∧ (∀ p, b = some p → S p) ∧ (Al S H ∧ Tbs K H) ∧ m + c ≤ LIM ∧
  F as (fun dss => ∀ (ps : List Addr) (D : Addr) (H' : Hp), H D = none → Stp K b H H' → BxO b H' (m + c) → (∀ q ∈ ps, H q = none) → ps.Nodup → D ∉ ps → H' D = some (.lst (ps.map V.ref)) → DaL K (rm H' fun a => S a ∨ a = D) (ps.map V.ref) (dss.map PyData.list) → Q (.ref D) H')
abbrev mkNE (fl : FN) (P : List (List PyData) → Prop) : DEnds := { nx := fun ρ => fl ρ P, rt := fun _ => False, rl := fun _ => False }
abbrev mkN (np n : Nat) (f : FS) (fl : FN) : FNF := fun as P => as.length = np ∧ f (pad n as) (mkNE fl P)
theorem mkN_mono {K : PySem.W.Frag} {t : TS} {tl : TE} {c cl np n : Nat} {f : FS} {fl : FN} (h : SndS K t c f) (r : SndLN K tl cl fl) : MonoN (mkN np n f fl) := fun as P P' hp q => ⟨q.1, h.mono _ (mkNE fl P) (mkNE fl P') ⟨fun ρ z => r.mono _ _ _ hp z, fun _ h => h, fun _ h => h, fun _ h => h, fun _ h => h⟩ q.2⟩
section
variable {P : Program} {w : World} {K : PySem.W.Frag} {mg : Str → Option Value} {base : Heap}
theorem okN {x qual : Str} {st : Stmt} {f : Addr} {fd : FuncData} {N ps : List Str} {k c cl : Nat} {t : TS} {tl : TE} {g : FS} {fl : FN} (F : Fun K x qual st f fd) (S : FnScope N ps (defScope st)) (sn : SndS K t c g) (r : SndLN K tl cl fl)
    (hbody : ∀ (cdv : Value) (A : Around) (outer : List Env) (s : Shared) (H : Hp), (A.deeper (envOfC qual (defScope st) s.heap.objs.size f cdv)).guards = some [] → Room k (A.deeper (envOfC qual (defScope st) s.heap.objs.size f cdv)) →
      PSs (cxOf CX0 P w K mg base N qual (defScope st) f cdv A outer s H E0).nox (defBody st) (tSeq t (tRet tl))) : FnG P w K mg base (k + 1) f fd ps (spN K (c + cl) (mkN ps.length N.length g fl)) := by
  refine okG F S (fun vs H Q h => ?_) fun cdv A outer s H vs Q hG hr h => ⟨tSeq t (tRet tl), hbody cdv A outer s H hG hr, ?_⟩
  · obtain ⟨b, S, m, as, hA, _, _, _, _, l, _⟩ := h
    rw [hA.len, l]
  · obtain ⟨b, S, m, as, hA, bx, bs, al, hm, l, hf⟩ := h
    refine sn.go (ok_start (N := N) hA bx bs al) (by omega) hf ⟨fun b' os σ' H' ρ' q o _ => ?_, fun _ _ _ q => q.elim, fun _ _ _ _ q => q.elim, fun _ _ _ _ _ q => q.elim, fun _ _ _ _ _ q => q.elim⟩
    refine r.go o.env (by omega) q fun dss ps D H2 p nD st bx2 nw nd np hD hx => ?_
    have o2 := o.step st bx2 (Nat.le_add_right _ _)
    exact p ps D H2 (back o.old o.obx nD) o2.old (o2.obx.le (by omega)) (fun q h => back o.old o.obx (nw q h)) nd np hD (hx.mono (rm_sub fun a z => z.elim (fun z => .inl (.inl z)) .inr))
end
end Dv
namespace Dv
open PySem PySem.Spec PyProof.Rows L2 Xg
open Classical
section
variable {K : PySem.W.Frag} {b : Option Addr} {S G : Addr → Prop} {m n c cr ct : Nat} {H H0 H' : Hp} {b0 : Option Addr} {os : Nat → Option Addr} {σ : L2.St} {ρ : List Sl} {tr : TA} {fr : FA} {tt : TT} {ft : FT} {i : Nat}
end
end Dv
namespace Dv
open PySem PySem.Spec PyProof.Rows L2 Xg
open Classical
section
variable {K : PySem.W.Frag} {b : Option Addr} {S G : Addr → Prop} {m n c cr ct cu : Nat} {H H0 H' : Hp} {b0 : Option Addr} {os : Nat → Option Addr} {σ : L2.St} {ρ : List Sl} {tr : TA} {fr : FA} {tt tu : TT} {ft fu : FT} {i : Nat}
theorem DaL.flat {H H' : Hp} : ∀ {vs : List V} {ds : List PyData}, DaL K H vs ds → ds.all Dv.flat = true → DaL K H' vs ds
  | _, _, .nil, _ => .nil
  | _, _, .cons h g, f => by
    rw [List.all_cons, Bool.and_eq_true] at f
    exact .cons (Da.flat h f.1) (DaL.flat g f.2)
theorem DaL.flats {H H' : Hp} : ∀ {ps : List Addr} {dss : List (List PyData)}, DaL K H (ps.map V.ref) (dss.map PyData.list) → (∀ ds ∈ dss, ds.all Dv.flat = true) → (∀ p ∈ ps, ∀ us, H p = some (.lst us) → H' p = some (.lst us)) → DaL K H' (ps.map V.ref) (dss.map PyData.list)
  | [], [], _, _, _ => .nil
  | [], _ :: _, h, _, _ => by cases h
  | _ :: _, [], h, _, _ => by cases h
  | p :: ps, ds :: dss, .cons h g, f, e => by
    refine .cons ?_ (DaL.flats g (fun x hx => f x (List.mem_cons_of_mem _ hx)) fun q hq => e q (List.mem_cons_of_mem _ hq))
    cases h with
    | lst e1 d => exact .lst (e p List.mem_cons_self _ e1) (d.flat (f ds List.mem_cons_self))
end
end Dv
namespace Dv
open PySem PySem.Spec PyProof.Rows L2 Xg
open Classical
section
variable {K : PySem.W.Frag} {tr : TA} {cr c : Nat} {fr : FA}
abbrev lCallN (F : FNF) (fr : FA) : FN := fun ρ Q => fr ρ fun as => F as Q
theorem sndln_call {F : FNF} (mF : MonoN F) (r : SndA K tr cr fr) : SndLN K (tCallG (spN K c F) tr) (cr + c) (lCallN F fr) := ⟨
  fun ρ P P' h g => r.mono _ _ _ (fun as => mF as _ _ h) g,
  fun {b S m σ H ρ Q P} E hm hf k => r.go E (by omega) hf fun as vs H1 h1 s1 b1 d1 => ⟨b, S, m + cr, as, d1, b1, E.bs, (E.step s1 b1).both, by omega,
    mF _ _ _ (fun dss p ps D H' nD s2 b2 nw nd np hD hx => k dss ps D H' p (back s1 b1 nD) (s1.trans s2) (b2.le (by omega)) (fun q h => back s1 b1 (nw q h)) nd np hD hx) h1⟩⟩
def forNL (g : FG) (fl : FN) (i : Nat) : List PyData → List (List PyData) → List Sl → (List (List PyData) → Prop) → Prop
  | [], dss, _, P => P dss
  | d :: ds, _, ρ, P => g d ρ fun ρ1 => fl ρ1 fun dss' => forNL g fl i ds dss' (ρ1.set i (.dt (.list (dss'.map PyData.list)))) P
theorem forNL_mono {g : FG} {fl : FN} {i : Nat} (hg : ∀ d (ρ : List Sl) (P P' : List Sl → Prop), (∀ d, P d → P' d) → g d ρ P → g d ρ P') (hl : ∀ (ρ : List Sl) (P P' : List (List PyData) → Prop), (∀ d, P d → P' d) → fl ρ P → fl ρ P') {P P' : List (List PyData) → Prop} (h : ∀ d, P d → P' d) : ∀ (ds : List PyData) (dss : List (List PyData)) (ρ : List Sl), forNL g fl i ds dss ρ P → forNL g fl i ds dss ρ P'
  | [], _, _, q => h _ q
  | d :: ds, _, ρ, q => hg _ _ _ _ (fun ρ1 => hl _ _ _ fun dss' => forNL_mono hg hl h ds dss' _) q
abbrev nlE (fl0 : FN) (i N : Nat) (fi : FD) (fg : FG) (fl1 : FN) (P : List (List PyData) → Prop) : DEnds := { nx := fun ρ => i < ρ.length ∧ fl0 ρ fun dss => fi (ρ.set i (.dt (.list (dss.map PyData.list)))) fun ds => ds.length ≤ N ∧ forNL fg fl1 i ds dss (ρ.set i (.dt (.list (dss.map PyData.list)))) P, rt := fun _ => False, rl := fun _ => False }
abbrev mkNL (np n : Nat) (f : FS) (fl0 : FN) (i N : Nat) (fi : FD) (fg : FG) (fl1 : FN) : FNF := fun as P => as.length = np ∧ f (pad n as) (nlE fl0 i N fi fg fl1 P)
variable {t : TS} {f : FS} {tl0 tl1 : TE} {c0 c1 ci i N : Nat} {fl0 fl1 : FN} {wi : TI} {fi : FD} {tg : TG} {vs : List Nat} {fg : FG}
theorem mkNL_mono {np n : Nat} (h : SndS K t c f) (r0 : SndLN K tl0 c0 fl0) (w : SndI true K wi ci fi) (hg : SndG K tg vs fg) (r1 : SndLN K tl1 c1 fl1) : MonoN (mkNL np n f fl0 i N fi fg fl1) := fun as P P' hp q =>
  ⟨q.1, h.mono _ (nlE fl0 i N fi fg fl1 P) (nlE fl0 i N fi fg fl1 P') ⟨fun ρ z => ⟨z.1, r0.mono _ _ _ (fun dss => w.mono _ _ _ fun ds y => ⟨y.1, forNL_mono hg.mono r1.mono hp _ _ _ y.2⟩) z.2⟩, fun _ h => h, fun _ h => h, fun _ h => h, fun _ h => h⟩ q.2⟩
structure NwV (H1 H : Hp) (K : PySem.W.Frag) (S : Addr → Prop) (v : V) (dss : List (List PyData)) (ps : List Addr) (D : Addr) : Prop where
  v : v = .ref D
  nD : H1 D = none
  nw : ∀ q ∈ ps, H1 q = none
  nd : ps.Nodup
  np : D ∉ ps
  hD : H D = some (.lst (ps.map V.ref))
  hx : DaL K (rm H fun a => S a ∨ a = D) (ps.map V.ref) (dss.map PyData.list)
  nS : ¬ S D
theorem NwV.da {H1 H : Hp} {S : Addr → Prop} {v : V} {dss : List (List PyData)} {ps : List Addr} {D : Addr} (h : NwV H1 H K S v dss ps D) : Da K (rm H S) v (.list (dss.map PyData.list)) := by
  rw [h.v]
  exact .lst (rm_in h.nS h.hD) (h.hx.mono (rm_sub fun a z => .inl z))
theorem NwV.step {H1 H H' : Hp} {b : Option Addr} {S : Addr → Prop} {v : V} {dss : List (List PyData)} {ps : List Addr} {D : Addr} (h : NwV H1 H K S v dss ps D) (st : Stp K b H H') (bs : ∀ p, b = some p → S p) : NwV H1 H' K S v dss ps D :=
  ⟨h.v, h.nD, h.nw, h.nd, h.np, st _ _ (fun z => h.nS (bs _ z)) h.hD, h.hx.mono (rm_mono fun a o n t e => (st a o (fun z => n (.inl (bs a z))) e).eq t), h.nS⟩
theorem loop_nl (w : SndI true K wi ci fi) (hg : SndG K tg vs fg) (r1 : SndLN K tl1 c1 fl1) (hi : i ∉ vs) {b : Option Addr} {S : Addr → Prop} {m : Nat} {H1 H : Hp} {σ : L2.St} {ρ : List Sl} {D0 : Ends} {P : List (List PyData) → Prop} {v : V} {dss : List (List PyData)} {ps : List Addr} {D : Addr}
    (E : DEnv K b S m H σ ρ) (hm : m + (ci + N * c1) ≤ LIM) (sv : σ[i]? = some (some v)) (nv : NwV H1 H K S v dss ps D) (s0 : Stp K b H1 H) (b1 : BxO b H1 m) (hf : fi ρ fun ds => ds.length ≤ N ∧ forNL fg fl1 i ds dss ρ P)
    (k : ∀ dss ps D H', P dss → NwV H1 H' K S (.ref D) dss ps D → Stp K b H H' → BxO b H' (m + (ci + N * c1)) → D0.rt (.ref D) H') : tSeq (tFor wi tg (tAsg tl1 (gName i))) (tRet (tVar i)) D0 σ H := by
  refine w.go E (by omega) hf fun ds J H2 p st bx wk => ?_
  obtain ⟨hn, hc⟩ := p
  have E2 := E.step st bx
  refine for_it (w := wk) (fun j σ3 H3 => ∃ (ρ3 : List Sl) (v : V) (dss : List (List PyData)) (ps : List Addr) (D : Addr), DEnv K b S (m + ci + j * c1) H3 σ3 ρ3 ∧ Stp K b H2 H3 ∧ σ3[i]? = some (some v) ∧ NwV H1 H3 K S v dss ps D ∧ forNL fg fl1 i (ds.drop j) dss ρ3 P)
    ⟨ρ, v, dss, ps, D, E2.le (by omega), Stp.refl, sv, nv.step st E.bs, hc⟩ (fun j σ3 H3 hj pe => ?_) (fun j x σ3 H3 H4 hj pe y => ?_) (fun σ3 H3 pe => ?_)
  · obtain ⟨ρ3, v, dss, ps, D, E3, s3, _⟩ := pe
    exact (s3.rm E.bs)
  · obtain ⟨ρ3, v, dss, ps, D, E3, s3, sv3, nv3, h3⟩ := pe
    have nj : (j + 1) * c1 = j * c1 + c1 := by rw [Nat.add_mul, Nat.one_mul]
    have le : (j + 1) * c1 ≤ N * c1 := Nat.mul_le_mul_right _ (by omega)
    obtain ⟨e34, d, ed, hd⟩ := y _ (s3.rm E.bs) E3.al
    have ej := List.getElem?_eq_some_iff.mp ed
    rw [List.drop_eq_getElem_cons ej.1, ej.2] at h3
    have s4 : Stp K b H3 H4 := Stp.ex e34
    have E4 := E3.step s4 (E3.bx.ex e34)
    have nv4 := nv3.step s4 E.bs
    refine hg.go E4 hd h3 fun ρ5 σ5 h5 E5 k5 => ?_
    refine r1.go E5 (by omega) h5 fun dss' ps' D' H6 h6 nD6 s6 b6 nw6 nd6 np6 hD6 hx6 => ?_
    have E6 := E5.step s6 b6
    have s24 : Stp K b H2 H4 := s3.trans s4
    have s14 : Stp K b H1 H4 := (s0.trans st).trans s24
    have bk : ∀ q, H4 q = none → H1 q = none := fun q h => back s14 (E4.bx) h
    have nS6 : ¬ S D' := fun z => by
      obtain ⟨o, e, _⟩ := E5.al D' z
      rw [nD6] at e
      cases e
    have nv6 : NwV H1 H6 K S (.ref D') dss' ps' D' := ⟨rfl, bk _ nD6, fun q h => bk _ (nw6 q h), nd6, np6, hD6, hx6, nS6⟩
    have il : i < σ5.length := by
      have z := k5.sg
      have a1 : (wipe σ5 vs)[i]? = σ5[i]? := by rw [wipe_get, if_neg hi]
      have a2 : (wipe σ3 vs)[i]? = σ3[i]? := by rw [wipe_get, if_neg hi]
      rw [← z, a1] at a2
      rw [sv3] at a2
      exact (List.getElem?_eq_some_iff.mp a2).1
    refine ⟨ρ5.set i (.dt (.list (dss'.map PyData.list))), .ref D', dss', ps', D', (E6.set (i := i) (v := .ref D') (s := .dt (.list (dss'.map PyData.list))) fun x e => ⟨_, e, nv6.da⟩).le (by omega), s24.trans s6, by rw [List.getElem?_set_self il], nv6, h6⟩
  · obtain ⟨ρ3, v, dss, ps, D, E3, s3, sv3, nv3, h3⟩ := pe
    rw [List.drop_length] at h3
    have le : ds.length * c1 ≤ N * c1 := Nat.mul_le_mul_right _ hn
    rw [nv3.v] at sv3
    refine ⟨.ref D, sv3, k dss ps D H3 h3 ?_ (st.trans s3) (E3.bx.le (by omega))⟩
    have := nv3.v
    subst this
    exact nv3
end
section
variable {P : Program} {w : World} {K : PySem.W.Frag} {mg : Str → Option Value} {base : Heap}
theorem okNL {x qual : Str} {st : Stmt} {f : Addr} {fd : FuncData} {Nm ps : List Str} {k c c0 c1 ci i N : Nat} {t : TS} {tl0 tl1 : TE} {g : FS} {fl0 fl1 : FN} {wi : TI} {fi : FD} {tg : TG} {vs : List Nat} {fg : FG} (F : Fun K x qual st f fd) (S : FnScope Nm ps (defScope st)) (sn : SndS K t c g) (r0 : SndLN K tl0 c0 fl0) (wI : SndI true K wi ci fi) (hg : SndG K tg vs fg) (r1 : SndLN K tl1 c1 fl1) (hi : i ∉ vs)
    (hbody : ∀ (cdv : Value) (A : Around) (outer : List Env) (s : Shared) (H : Hp), (A.deeper (envOfC qual (defScope st) s.heap.objs.size f cdv)).guards = some [] → Room k (A.deeper (envOfC qual (defScope st) s.heap.objs.size f cdv)) →
      PSs (cxOf CX0 P w K mg base Nm qual (defScope st) f cdv A outer s H E0).nox (defBody st) (tSeq t (tSeq (tAsg tl0 (gName i)) (tSeq (tFor wi tg (tAsg tl1 (gName i))) (tRet (tVar i)))))) : FnG P w K mg base (k + 1) f fd ps (spN K (c + (c0 + (ci + N * c1))) (mkNL ps.length Nm.length g fl0 i N fi fg fl1)) := by
  refine okG F S (fun vs H Q h => ?_) fun cdv A outer s H vs Q hG hr h => ⟨_, hbody cdv A outer s H hG hr, ?_⟩
  · obtain ⟨b, S, m, as, hA, _, _, _, _, l, _⟩ := h
    rw [hA.len, l]
  · obtain ⟨b, S, m, as, hA, bx, bs, al, hm, l, hf⟩ := h
    refine sn.go (ok_start (N := Nm) hA bx bs al) (by omega) hf ⟨fun b' os σ' H' ρ' q o _ => ?_, fun _ _ _ q => q.elim, fun _ _ _ _ q => q.elim, fun _ _ _ _ _ q => q.elim, fun _ _ _ _ _ q => q.elim⟩
    refine r0.go o.env (by omega) q.2 fun dss ps D H2 p nD st bx2 nw nd np hD hx => ?_
    have nS : ¬ SO S b' os D := o.env.al.new nD
    have E2 := o.env.step st bx2
    have nv : NwV H' H2 K (SO S b' os) (.ref D) dss ps D := ⟨rfl, nD, nw, nd, np, hD, hx, nS⟩
    have il' : i < σ'.length := by rw [o.env.len]; exact q.1
    have E3 := E2.set (i := i) (v := .ref D) (s := .dt (.list (dss.map PyData.list))) fun x e => ⟨_, e, nv.da⟩
    refine loop_nl wI hg r1 hi (N := N) (P := _) E3 (by omega) (by rw [List.getElem?_set_self il']) nv st (o.env.bx.le (by omega)) p fun dss ps D H5 p5 nv5 st5 bx5 => ?_
    have o5 := o.step (st.trans st5) bx5 (by omega)
    exact p5 ps D H5 (back o.old o.obx nv5.nD) o5.old (o5.obx.le (by omega)) (fun q h => back o.old o.obx (nv5.nw q h)) nv5.nd nv5.np nv5.hD (nv5.hx.mono (rm_sub fun a z => z.elim (fun z => .inl (.inl z)) .inr))
end
end Dv
namespace Dv
open PySem PySem.Spec PyProof.Rows L2 Xg
open Classical
abbrev FNI := List Sl → (PyData → Int → List (List PyData) → Prop) → Prop
def MonoI (F : FNI) : Prop := ∀ as (P P' : PyData → Int → List (List PyData) → Prop), (∀ d n s, P d n s → P' d n s) → F as P → F as P'
def spIN (K : PySem.W.Frag) (c : Nat) (F : FNI) : Sp := fun vs H Q _ => ∃ (x dx C : Addr) (rest : List V) (b : Option Addr) (S : Addr → Prop) (m : Nat) (as : List Sl), vs = .ref x :: rest ∧ TbF K C ∧ H x = some (.ins C dx []) ∧ S x ∧ b ≠ some x ∧ ArgL K b S H rest as ∧ BxO b H m ∧ (∀ p, b = some p → S p) ∧ (Al S H ∧ Tbs K H) ∧ m + c ≤ LIM ∧ as.length = 4 ∧
  F as (fun dM n dss => ∀ (vM : V) (ps : List Addr) (D : Addr) (H' : Hp), (∀ a o, b ≠ some a → a ≠ x → H a = some o → HoLe K H H' a o) → BxO b H' (m + c) → H' x = some (.ins C dx [("made_of", vM), ("many", .int n), ("grid", .ref D)]) → Da K (rm H' S) vM dM → nol dM = true → H D = none → (∀ q ∈ ps, H q = none) → H' D = some (.lst (ps.map V.ref)) → DaL K (rm H' S) (ps.map V.ref) (dss.map PyData.list) → (∀ ds ∈ dss, ds.all Dv.flat = true) → Q .non H')
section
variable {K : PySem.W.Frag}
abbrev fInitN (fM : FE) (fG : FN) : FNI := fun as Q => match as with
  | [.dt l, .dt w, .dt s, .dt (.int n)] => pairQ (fun a r => fM (iSl l w s n a r) fun dM => nol dM = true ∧ fG (iSl l w s n a r) fun dss => (∀ ds ∈ dss, ds.all Dv.flat = true) ∧ Q dM n dss) l
  | _ => False
theorem m_initN {tM tG : TE} {fM : FE} {fG : FN} (a : Snd true K tM 0 fM) (g : SndLN K tG 0 fG) : MonoI (fInitN fM fG) := fun as P P' h q => by
  unfold fInitN at q ⊢
  split at q
  · exact pairQ_mono (fun _ _ => a.mono _ _ _ fun dM z => ⟨z.1, g.mono _ _ _ (fun dss y => ⟨y.1, h _ _ _ y.2⟩) z.2⟩) _ q
  · exact q.elim
theorem initN_go {tM tG : TE} {fM : FE} {fG : FN} (a : Snd true K tM 0 fM) (g : SndLN K tG 0 fG) {N : List Str} (hN : N = (["self", "line", "widths", "standing", "many", "form", "rooms"] : List Str)) {vs : List V} {H : Hp} {Q : VK} (h : spIN K 0 (fInitN fM fG) vs H Q E0) :
    tInit K tM tG { nx := fun _ H' => Q .non H', rt := Q } (L2.start N vs) H := by
  subst hN
  obtain ⟨x, dx, C, rest, b, S, m, as, rfl, T, hx, sx, nb, hA, bx, bs, al, hm, l4, hf⟩ := h
  clear l4
  unfold fInitN at hf
  split at hf
  · rename_i l w s n
    cases hA with
    | @cons v1 _ _ _ a1 r1 =>
    cases r1 with
    | @cons v2 _ _ _ a2 r2 =>
    cases r2 with
    | @cons v3 _ _ _ a3 r3 =>
    cases r3 with
    | @cons v4 _ _ _ a4 r4 =>
    cases r4
    have a1 : Da K (rm H S) v1 l := a1
    have a2 : Da K (rm H S) v2 w := a2
    have a3 : Da K (rm H S) v3 s := a3
    have a4 : Da K (rm H S) v4 (.int n) := a4
    have e4 : v4 = .int n := by cases a4; rfl
    subst e4
    have main : ∀ (da dr : PyData) (va vr : V), Da K (rm H S) va da → Da K (rm H S) vr dr → fM (iSl l w s n da dr) (fun dM => nol dM = true ∧ fG (iSl l w s n da dr) fun dss => (∀ ds ∈ dss, ds.all Dv.flat = true) ∧ ∀ (vM : V) (ps : List Addr) (D : Addr) (H' : Hp), (∀ a o, b ≠ some a → a ≠ x → H a = some o → HoLe K H H' a o) → BxO b H' (m + 0) → H' x = some (.ins C dx [("made_of", vM), ("many", .int n), ("grid", .ref D)]) → Da K (rm H' S) vM dM → nol dM = true → H D = none → (∀ q ∈ ps, H q = none) → H' D = some (.lst (ps.map V.ref)) → DaL K (rm H' S) (ps.map V.ref) (dss.map PyData.list) → (∀ ds ∈ dss, ds.all Dv.flat = true) → Q .non H') →
        tSeq (sFld K (tVar 0) tM "made_of") (tSeq (sFld K (tVar 0) (tVar 4) "many") (sFld K (tVar 0) tG "grid")) { nx := fun _ H' => Q .non H', rt := Q } [some (.ref x), some v1, some v2, some v3, some (.int n), some va, some vr] H := fun da dr va vr ha hr' hq => by
      have env : ∀ {H' : Hp}, Evl.Ex (rm H S) (rm H' S) → BxO b H' m → (Al S H' ∧ Tbs K H') → DEnv K b S m H' [some (.ref x), some v1, some v2, some v3, some (.int n), some va, some vr] (iSl l w s n da dr) := fun {H'} e bx' al' => ⟨rfl, fun i t z => by
        match i, z with
        | 0, z => cases z; trivial
        | 1, z => cases z; exact ⟨_, rfl, Da.mono e a1⟩
        | 2, z => cases z; exact ⟨_, rfl, Da.mono e a2⟩
        | 3, z => cases z; exact ⟨_, rfl, Da.mono e a3⟩
        | 4, z => cases z; exact ⟨_, rfl, Da.mono e a4⟩
        | 5, z => cases z; exact ⟨_, rfl, Da.mono e ha⟩
        | 6, z => cases z; exact ⟨_, rfl, Da.mono e hr'⟩
        | i + 7, z => simp at z, bx', bs, al'.1, al'.2⟩
      have E1 := env (fun _ _ h => h) bx al
      refine a.go E1 hm hq fun dM vM H1 pM st1 bx1 vd1 => ?_
      have hx1 : H1 x = some (.ins C dx []) := st1 x _ nb hx
      refine ⟨_, rfl, x, C, dx, [], rfl, hx1, T.cl, T.n1, by show 0 < 1000; decide, ?_⟩
      show sFld K (tVar 0) (tVar 4) "many" _ _ (upd H1 x (.ins C dx [("made_of", vM)]))
      refine ⟨_, rfl, _, rfl, x, C, dx, _, rfl, upd_same, T.cl, T.n2, by show 1 < 1000; decide, ?_⟩
      rw [upd_upd, fs2]
      let H3 := upd H1 x (.ins C dx [("made_of", vM), ("many", .int n)])
      have e13 : Evl.Ex (rm H1 S) (rm H3 S) := rm_chg sx
      have al3 : Al S H3 := fun c sc => by
        by_cases z : c = x
        · rw [z]; exact ⟨_, (show H3 x = _ from upd_same), rfl⟩
        · show ∃ o, H3 c = some o ∧ isTp o = false
          rw [show H3 c = H1 c from upd_ne z]
          exact (E1.step st1 bx1).al c sc
      have tb3 : Tbs K H3 := (E1.step st1 bx1).tb.ins hx1
      have E3 := env (fun c o h => e13 c o (st1.rm bs c o h)) (BxO.chg (o := .ins C dx [("made_of", vM), ("many", .int n)]) bx1 nb) ⟨al3, tb3⟩
      show sFld K (tVar 0) tG "grid" _ _ H3
      refine g.go E3 hm pM.2 fun dss ps D H4 pG nD st4 bx4 nw nd np hD hx4' => ?_
      have bk : ∀ q, H3 q = none → H q = none := fun q h => by
        have qx : q ≠ x := fun z => by
          rw [z] at h
          have e : H3 x = some _ := upd_same
          rw [e] at h
          cases h
        exact back st1 bx1 ((upd_ne (o := .ins C dx [("made_of", vM), ("many", .int n)]) qx).symm.trans h)
      have Dx : D ≠ x := fun z => by
        rw [z] at nD
        have e : H3 x = some _ := upd_same
        rw [e] at nD
        cases nD
      have hx4 : H4 x = some (.ins C dx [("made_of", vM), ("many", .int n)]) := st4 x _ nb upd_same
      refine ⟨_, rfl, x, C, dx, _, rfl, hx4, T.cl, T.n3, by show 2 < 1000; decide, ?_⟩
      rw [fs3]
      have e45 : Evl.Ex (rm H4 S) (rm (upd H4 x (.ins C dx [("made_of", vM), ("many", .int n), ("grid", .ref D)])) S) := rm_chg sx
      refine pG.2 vM ps D _ (fun c o nbc ncx e => ?_) (BxO.chg bx4 nb) upd_same ?_ pM.1 (bk D nD) (fun q hq => bk q (nw q hq)) ((upd_ne Dx).trans hD) ((hx4'.mono (rm_sub fun a z => .inl z)).mono e45) pG.1
      · refine (st1 c o nbc e).trans fun o1 h1 => (HoLe.ins ncx h1 hx1).trans fun o2 h2 => (st4 c o2 nbc h2).trans fun o3 h3 => .ins ncx h3 hx4
      · exact Da.mono (fun c o h => e45 c o (st4.rm bs c o (e13 c o h))) vd1
    unfold pairQ at hf
    split at hf
    · rename_i da dr
      obtain ⟨p, us, rfl, e, gg⟩ := (Vw.st (b := b) a1).tuple
      cases gg with
      | cons ga gg =>
      cases gg with
      | cons gr gg =>
      cases gg
      exact ⟨_, rfl, .inl ⟨p, _, rfl, e, rfl, _, _, rfl, _, _, rfl, rfl, main _ _ _ _ ga gr hf⟩⟩
    · rename_i da dr
      obtain ⟨p, us, rfl, e, gg⟩ := (Vw.st (b := b) a1).list
      cases gg with
      | cons ga gg =>
      cases gg with
      | cons gr gg =>
      cases gg
      exact ⟨_, rfl, .inr ⟨p, _, rfl, .inl (.inl e), rfl, _, _, rfl, _, _, rfl, rfl, main _ _ _ _ ga gr hf⟩⟩
    · exact hf.elim
  · exact hf.elim
section
variable {P : Program} {w : World} {mg : Str → Option Value} {base : Heap}
theorem okIN {st : Stmt} {f : Addr} {fd : FuncData} {N ps : List Str} {k : Nat} {tM tG : TE} {fM : FE} {fG : FN} (F : Fun K "__init__" "Table.__init__" st f fd) (sc : FnScope N ps (defScope st)) (hN : N = (["self", "line", "widths", "standing", "many", "form", "rooms"] : List Str)) (hp : ps.length = 5) (a : Snd true K tM 0 fM) (g : SndLN K tG 0 fG)
    (hbody : ∀ (cdv : Value) (A : Around) (outer : List Env) (s : Shared) (H : Hp), (A.deeper (envOfC "Table.__init__" (defScope st) s.heap.objs.size f cdv)).guards = some [] → Room k (A.deeper (envOfC "Table.__init__" (defScope st) s.heap.objs.size f cdv)) →
      PSs (cxOf CX0 P w K mg base N "Table.__init__" (defScope st) f cdv A outer s H E0).nox (defBody st) (tInit K tM tG)) : FnG P w K mg base (k + 1) f fd ps (spIN K 0 (fInitN fM fG)) := by
  refine okG F sc (fun vs H Q h => ?_) fun cdv A outer s H vs Q hG hr h => ⟨_, hbody cdv A outer s H hG hr, initN_go a g hN h⟩
  obtain ⟨x, dx, C, rest, b, S, m, as, rfl, T, hx, sx, nb, hA, bx, bs, al, hm, l4, hf⟩ := h
  rw [List.length_cons, hA.len, l4, hp]
end
theorem mkN_run {tr : TA} {cr : Nat} {fr : FA} {F : FNI} (mF : MonoI F) (r : SndA K tr cr fr) {b : Option Addr} {S T : Addr → Prop} {m : Nat} {σ : L2.St} {H : Hp} {ρ : List Sl} {P : PyData → Prop} {Q : VK} (E : DEnv K b S m H σ ρ) (hT : ∀ a, T a → S a ∨ ∃ xs, H a = some (.lst xs)) (hm : m + cr ≤ LIM)
    (hf : fr ρ fun as => as.length = 4 ∧ F as fun dM n dss => P (.tuple [dM, .int n, .list (dss.map PyData.list)])) (k : ∀ d x H', P d → Stp K b H H' → BxO b H' (m + cr) → TbO K (rm H' T) (.ref x) d → Q (.ref x) H') : tMakeT K (spIN K 0 F) tr σ H Q := r.go E (by omega) hf fun as vs H1 h1 s1 b1 a1 => by
  intro C x dx TB nx ndx ne
  have E1 := E.step s1 b1
  have al1 := E1.al
  let S' : Addr → Prop := fun a => S a ∨ a = x ∨ a = dx
  have nS : ¬ S x := fun z => al1.no x z nx
  have hT1 : ∀ a, T a → S a ∨ ∃ xs, H1 a = some (.lst xs) := fun a z => by
    by_cases sa : S a
    · exact .inl sa
    · obtain h | ⟨xs, h⟩ := hT a z
      · exact .inl h
      · exact .inr ⟨xs, s1 a _ (fun w => sa (E.bs a w)) h⟩
  have nT : ∀ a, H1 a = none → ¬ T a := fun a h z => (hT1 a z).elim (fun s => al1.no a s h) fun ⟨xs, e⟩ => by rw [h] at e; cases e
  let H2 := upd (upd H1 dx (.own x)) x (.ins C dx [])
  have keep : ∀ a o, H1 a = some o → H2 a = some o := fun a o e => by
    show upd (upd H1 dx (.own x)) x (.ins C dx []) a = some o
    rw [upd_ne (ne_of_none e nx), upd_ne (ne_of_none e ndx)]
    exact e
  have keepN : ∀ a, H2 a = none → H1 a = none := fun a h => by
    cases e : H1 a with
    | none => rfl
    | some o => rw [keep a o e] at h; cases h
  have ex1 : Evl.Ex (rm H1 S) (rm H2 S') := fun a o e => by
    obtain ⟨n1, e1⟩ := rm_some e
    exact rm_in (fun z => z.elim n1 fun z => z.elim (fun z => by rw [z, nx] at e1; cases e1) fun z => by rw [z, ndx] at e1; cases e1) (keep a o e1) (rm_nt e)
  refine ⟨x, dx, C, vs, b, S', m + cr, as, rfl, TB, upd_same, .inr (.inl rfl), fun z => nS (E.bs x z), a1.ex ex1, b1.ex keep, fun p z => .inl (E.bs p z), ⟨fun a s => ?_, (E.step s1 b1).tb.ex keep⟩, by omega, h1.1, mF _ _ _ (fun dM n dss p vM ps D H' kp bx ins dm nl nD nw hD dg fl => ⟨rfl, ?_⟩) h1.2⟩
  · rcases s with s | rfl | rfl
    · obtain ⟨o, z, t⟩ := al1 a s
      exact ⟨o, keep a o z, t⟩
    · exact ⟨_, (show H2 a = _ from upd_same), rfl⟩
    · exact ⟨_, (show H2 a = some (.own x) from (upd_ne ne).trans upd_same), rfl⟩
  · have st : Stp K b H1 H' := fun a o nb e => (HoLe.of keep e).trans fun o' e' => kp a o' nb (ne_of_none e nx) e'
    have sub : ∀ a, T a → S' a ∨ ∃ xs, H' a = some (.lst xs) := fun a z => by
      by_cases sa : S a
      · exact .inl (.inl sa)
      · obtain h | ⟨xs, h⟩ := hT1 a z
        · exact .inl (.inl h)
        · exact .inr ⟨xs, st a _ (fun w => sa (E.bs a w)) h⟩
    have nTD : ¬ T D := nT D (keepN D nD)
    have rows : DaL K (rm H' T) (ps.map V.ref) (dss.map PyData.list) := DaL.flats dg fl fun q hq us e => by
      obtain ⟨_, e2⟩ := rm_some e
      exact rm_in (nT q (keepN q (nw q hq))) e2
    have tb : TbO K (rm H' T) (.ref x) (.tuple [dM, .int n, .list (dss.map PyData.list)]) := ⟨x, C, dx, vM, .ref D, dM, n, .list (dss.map PyData.list), rfl, TB, rm_in (nT x nx) ins, Da.nolM sub dm nl, .lst (rm_in nTD hD) rows, rfl⟩
    exact k _ x H' p (s1.trans st) (bx.le (by omega)) tb
end
end Dv
namespace Dv
open PySem PySem.Spec PyProof.Rows L2 Xg
open Classical
def tMakeTK (K : PySem.W.Frag) (n : Nat) (sp : Sp) (t : TA) : TE := fun σ H Q => t σ H fun vs H1 => vs.length = n ∧ ∀ (C x dx : Addr), TbF K C → H1 x = none → H1 dx = none → dx ≠ x → sp (.ref x :: vs.reverse) (upd (upd H1 dx (.own x)) x (.ins C dx [])) (fun v H2 => v = .non ∧ Q (.ref x) H2) E0
structure MiK (P : Program) (w : World) (K : PySem.W.Frag) (mg : Str → Option Value) (base : Heap) (ps ks : List Str) (k : Nat) (sp : Sp) : Prop where
  ex : ∃ (C f : Addr) (fd : FuncData), TbF K C ∧ L2.Mk K C f ∧ mg "Table" = some (.ref C) ∧ FnG P w K mg base k f fd ps sp ∧ ∀ (s : Shared) (self : Value) (ws : List Value), K.In s.heap → ws.length = ks.length → BindsTo s fd ⟨[self], ks.zip ws⟩ (ps.zip (self :: ws.reverse))
theorem guards_makeK {A : Around} {C : Addr} {us : List Value} {kw : List (Str × Value)} (h : A.guards = some []) : (A.under (.builtin "type.__call__" ⟨.ref C :: us, kw⟩)).guards = some [] := by
  show pushGuards (Code.guards (.builtin "type.__call__" ⟨.ref C :: us, kw⟩)) A.guards = some []
  rw [h]
  have e : Code.guards (.builtin "type.__call__" ⟨.ref C :: us, kw⟩) = [] := by
    unfold Code.guards
    rw [if_neg (by show ¬ guardIds.contains "type.__call__" = true; decide +kernel)]
  rw [e]
  rfl
theorem pe_makeTK {X : Cx} {t : TA} {ps ks : List Str} {k n : Nat} {sp : Sp} {p pos : Pos} {kws : List Keyword} (M : MiK X.prog X.w X.K X.mg X.base ps ks k sp) (hG : X.A.guards = some []) (hr : Room (k + 1) X.A) (hg : Gl X "Table") (hkw : PK X kws t) (hn : ks.length = n := by rfl)
    (hall : (backToKw pos (keywordEach kws X.env)).all (·.1.isSome) = true := by rfl) (hks : (backToKw pos (keywordEach kws X.env)).filterMap (·.1) = ks := by rfl)
    (hdb : (("Table" : Str) == ("__debug__" : Str)) = false := by decide) (hpl : ((backTo pos (starEach [] X.env)).any (·.1) || (backToKw pos (keywordEach kws X.env)).any (·.1.isNone)) = false := by rfl) :
    PE X (.Call (.Name "Table" p) [] kws pos) (tMakeTK X.K n sp t) := by
  subst hn
  obtain ⟨C, f, fd, T, M, gm, F, hb⟩ := M.ex
  refine ⟨fun pins s σ H Q I h => wpAny_Call_Name_kw (ld_glob I hg gm ?_ hdb)⟩
  refine PySem.W.callWith_KW0 (h₀ := X.base) I.ok.mod.kin M.kp hall (thn (hkw.run pos pins s σ H _ I h) fun us s1 ⟨vs, H1, I1, r, hl, q⟩ => ⟨I1.kIn, ?_⟩) hpl
  rw [hks]
  have z := q C (s1.heap.objs.size + 1) s1.heap.objs.size T (I1.hok.fresh (Nat.le_succ _)) (I1.hok.fresh (Nat.le_refl _)) (Nat.ne_of_lt (Nat.lt_succ_self _))
  have I2 := Inv.made (C := C) I1
  have r2 : Vals (V.ref (s1.heap.objs.size + 1) :: vs.reverse) (Value.ref (s1.heap.objs.size + 1) :: us.reverse) := .cons rfl r.reverse
  have hb2 := hb _ (Value.ref (s1.heap.objs.size + 1)) us I2.kIn (by rw [← r.length, hl])
  refine wpAny_call (make_map (f := f) (kw := ks.zip us) I1.kIn M.makes M.init (beq_iff_eq.mp M.fn) (codeAny_mono (F.run _ X.stack _ _ ⟨[Value.ref (s1.heap.objs.size + 1)], ks.zip us⟩ (Value.ref (s1.heap.objs.size + 1) :: us.reverse) _ _ (guards_makeK hG) (hr.make C [] (ks.zip us)) (I2.env0.make C [] (ks.zip us)) hb2 r2 z) fun res s' hq => ?_))
  cases res with
  | error er => exact hq.elim
  | ok fl =>
    cases fl with
    | ret u =>
      obtain ⟨v, H', I3, rv, ev, q3⟩ := I2.after hq
      subst ev
      exact ⟨rv, ⟨V.ref (s1.heap.objs.size + 1), H', I3, rfl, q3⟩⟩
    | next => exact False.elim hq
    | brk => exact False.elim hq
    | cont => exact False.elim hq
section
variable {K : PySem.W.Frag} {tr : TA} {cr : Nat} {fr : FA}
theorem snda_rev {n : Nat} (r : SndA K tr cr fr) : SndA K (fun σ H R => tr σ H fun vs H' => vs.length = n ∧ R vs.reverse H') cr (fun ρ Q => fr ρ fun as => as.length = n ∧ Q as.reverse) := ⟨
  fun ρ P P' h g => r.mono _ _ _ (fun as z => ⟨z.1, h _ z.2⟩) g,
  fun {b S m σ H ρ Q P} E hm hf k => r.go E hm hf fun as vs H' p st bx d => ⟨by rw [d.len]; exact p.1, k _ _ _ p.2 st bx d.rev⟩⟩
theorem mk_runK {F : FF} (mF : MonoF F) (r : SndA K tr cr fr) {n : Nat} {b : Option Addr} {S : Addr → Prop} {m : Nat} {σ : L2.St} {H : Hp} {ρ : List Sl} {P : PyData → Prop} {Q : VK} (E : DEnv K b S m H σ ρ) (hm : m + cr ≤ LIM)
    (hf : fr ρ fun as => as.length = n ∧ as.reverse.length = 4 ∧ F as.reverse P) (k : ∀ d x H', P d → Stp K b H H' → BxO b H' (m + cr) → TbO K (rm H' S) (.ref x) d → Q (.ref x) H') : tMakeTK K n (spI K 0 F) tr σ H Q :=
  mk_run mF (snda_rev (n := n) r) E hm (r.mono _ _ _ (fun as z => ⟨z.1, z.2⟩) hf) k
end
end Dv
namespace Dv
open PySem PySem.Spec PyProof.Rows L2 Xg
open Classical
section
variable {K : PySem.W.Frag}
theorem DEnv.holdL {b : Option Addr} {S L : Addr → Prop} {m n : Nat} {H H' : Hp} {σ : L2.St} {ρ : List Sl} (E : DEnv K b S m H σ ρ) (nD : ∀ D, L D → H D = none) (st : Stp K b H H') (bx : BxO b H' n) (hD : ∀ D, L D → ∃ o, H' D = some o ∧ isTp o = false) : DEnv K b (fun a => S a ∨ L a) n H' σ ρ := by
  have ex : Evl.Ex (rm H S) (rm H' fun a => S a ∨ L a) := fun a o h => by
    obtain ⟨n1, h1⟩ := rm_some h
    exact rm_in (fun z => z.elim n1 fun l => by rw [nD a l] at h1; cases h1) ((st a o (fun z => n1 (E.bs a z)) h1).eq (rm_nt h)) (rm_nt h)
  exact ⟨E.len, fun i s e => (E.sl i s e).grow ex (fun a h => .inl h) st, bx, fun p e => .inl (E.bs p e), fun a h => by
    rcases h with h | h
    · exact E.al.step st bx a h
    · exact hD a h, E.tb.step E.bx st⟩
theorem BxO.but {b : Option Addr} {H H' : Hp} {m : Nat} (h : BxO b H m) (e : ∀ a o, b = some a → H a = some o → H' a = some o) : BxO b H' m := by
  cases b with
  | none => trivial
  | some c =>
    obtain ⟨x, y, z, h1, h2, h3, h4, h5, h6⟩ := h
    exact ⟨x, y, z, h1, h2, h3, h4, h5, e _ _ rfl h6⟩
theorem kpt_fl {vs : List Nat} {σ : L2.St} {ρ : List Sl} {i : Nat} {v : V} {s : Sl} (hs : isOw s = false) (hi : i ∈ vs) : Kpt vs σ (σ.set i (some v)) ρ (ρ.set i s) :=
  ⟨wipe_set hi, fun j ds e o => by
    rw [List.getElem?_set] at e
    by_cases z : i = j
    · rw [if_pos z] at e
      split at e
      · cases e
        rw [hs] at o
        cases o
      · cases e
    · rw [if_neg z] at e
      exact ⟨e, List.getElem?_set_ne z⟩⟩
theorem loop_BL {t : TS} {f : FS} {c n i l : Nat} (a : SndS K t c f) {G : Addr → Prop} {H0 : Hp} {b0 b : Option Addr} {os : Nat → Option Addr} {m : Nat} {H : Hp} {σ : L2.St} {ρ : List Sl} {D : Ends} {E : DEnds} {q : Addr} {vs : List V} {ds : List PyData}
    (ok : Ok K G H0 b0 b os m H σ ρ) (hm : m + n * c ≤ LIM) (hl : σ[l]? = some (some (.ref q))) (hq0 : H q = some (.lst vs)) (nS : ¬ SO G b os q) (tl : TbL K (rm H (SO G b os)) vs ds) (ln : vs.length = n) (p : forB i f ds ρ E) (k : Goes K G H0 b0 (m + n * c) (SO G b os) H E D) : tFor (Pw.iSeq K (tVar l)) (gName i) t D σ H := by
  have dn : ds.length = n := by rw [← tl.len, ln]
  refine ⟨.ref q, hl, q, rfl, .inl ⟨⟨vs, .inl (.inl hq0)⟩, ?_⟩⟩
  have key : ∀ H2 b2 os2, Lk (SO G b os) H (SO G b2 os2) H2 → H2 q = some (.lst vs) := fun H2 b2 os2 l => (l q _ nS rfl hq0).1
  refine ⟨fun j m' σ2 H2 => m' = n - j ∧ j ≤ n ∧ ∃ b2 os2 ρ2, Ok K G H0 b0 b2 os2 (m + j * c) H2 σ2 ρ2 ∧ Lk (SO G b os) H (SO G b2 os2) H2 ∧ forB i f (ds.drop j) ρ2 E, ⟨_, rfl, Nat.zero_le _, b, os, ρ, ok.le (by omega), Lk.refl, p⟩, fun j m' σ2 H2 W => ?_⟩
  obtain ⟨rfl, hj, b2, os2, ρ2, o2, l2, h2⟩ := W
  have hq := key _ _ _ l2
  by_cases z : j = n
  · refine .inl ⟨⟨vs, .inl (.inl hq), by omega⟩, ?_⟩
    rw [z, ← dn, List.drop_length] at h2
    exact k.nx _ _ _ _ _ h2 (o2.le (by rw [z]; omega)) l2
  · have lj : j < vs.length := by omega
    refine .inr ⟨⟨_, _, .inl (.inl hq), List.getElem?_eq_getElem lj⟩, fun σ' H' => ∃ m', m' < n - j ∧ (m' = n - (j + 1) ∧ j + 1 ≤ n ∧ ∃ b2 os2 ρ2, Ok K G H0 b0 b2 os2 (m + (j + 1) * c) H' σ' ρ2 ∧ Lk (SO G b os) H (SO G b2 os2) H' ∧ forB i f (ds.drop (j + 1)) ρ2 E), fun _ _ h => h, fun x H' y => ?_⟩
    obtain ⟨rfl, y⟩ := y
    have ev := y vs (.inl (.inl hq))
    have nj : (j + 1) * c = j * c + c := by rw [Nat.add_mul, Nat.one_mul]
    have le : (j + 1) * c ≤ n * c := Nat.mul_le_mul_right _ (by omega)
    have exT : Evl.Ex (rm H (SO G b os)) (rm H' (SO G b2 os2)) := fun a o h => by
      obtain ⟨n1, h1⟩ := rm_some h
      obtain ⟨g1, g2⟩ := l2 a o n1 (rm_nt h) h1
      exact rm_in g2 g1 (rm_nt h)
    obtain ⟨d, ed, hd⟩ := (tl.mono exT).at ev
    have ej := List.getElem?_eq_some_iff.mp ed
    rw [List.drop_eq_getElem_cons ej.1, ej.2] at h2
    refine a.go ((o2.kpt (vs := [i]) (o2.env.set (i := i) (v := x) (s := .op d) fun z e => ⟨_, e, hd⟩) (kpt_op (List.mem_singleton.mpr rfl)))) (by omega) h2 ⟨fun b5 os5 σ5 H5 ρ5 q o l => ⟨_, by omega, rfl, by omega, b5, os5, ρ5, o.le (by omega), l2.trans l, q⟩, fun d v H5 q o => k.rt d v H5 q ⟨o.old, o.obx.le (by omega)⟩, fun ds vs p H5 q o => k.rl ds vs p H5 q ⟨o.old, o.obx.le (by omega)⟩,
      fun b5 os5 σ5 H5 ρ5 q o l => k.nx b5 os5 σ5 H5 ρ5 q (o.le (by omega)) (l2.trans l), fun b5 os5 σ5 H5 ρ5 q o l => ⟨_, by omega, rfl, by omega, b5, os5, ρ5, o.le (by omega), l2.trans l, q⟩⟩
theorem ix_lst {to : TE} {σ : L2.St} {H : Hp} {p : Addr} {xs : List V} {v : V} {Q : VK} {j : Nat} (ht : ∀ Q : VK, Q (.ref p) H → to σ H Q) (hp : H p = some (.lst xs)) (hj : xs[j]? = some v) (q : Q v H) : tOp (rIx K) to (tC (.int ((j : Nat) : Int))) σ H Q :=
  ht _ (.inl ⟨p, xs, _, _, rfl, rfl, .inl (.inl hp), (by unfold L2.atI; rw [Evl.ixN_nat (List.getElem?_eq_some_iff.mp hj).1]; exact hj), q⟩)
abbrev tApp5 (K : PySem.W.Frag) (n : Int) (to : TE) : TS := tDrop (tBM K "list" rAppend to (tCons (tC (.int n)) tNil))
variable {te t2 t3 t4 tN : TE} {tr1 tr2 : TA} {ce c2 c3 c4 cn cr1 cr2 cb : Nat} {fe fN : FE} {f2 f3 f4 : FD} {fr1 fr2 : FA} {F1 : FNI} {F2 : FF} {tb : TS} {fb : FS} {i j l x : Nat} {n1 n2 n3 : Int}
abbrev gvD (de : PyData) (d2 d3 d4 : List PyData) : PyData := .list [.list [de, .list d2], .list d3, .list d4]
abbrev sBoth (i j l x : Nat) (fe : FE) (f2 f3 f4 : FD) (fN : FE) (fr1 : FA) (F1 : FNI) (fr2 : FA) (F2 : FF) (fb : FS) : FS := fun ρ E => (i < ρ.length ∧ j < ρ.length ∧ l < ρ.length) ∧ fe ρ fun de => f2 ρ fun d2 => f3 ρ fun d3 => f4 ρ fun d4 => (d2.length ≤ 1000000 ∧ d3.length ≤ 1000000 ∧ d4.length ≤ 1000000) ∧ fN (ρ.set i .no) fun dn =>
  fr1 ((ρ.set i (.dt (gvD de d2 d3 d4))).set j (.dt dn)) fun as => as.length = 4 ∧ F1 as fun dM n dss => fr2 ((ρ.set i .no).set j (.dt dn)) fun as => as.length = 4 ∧ as.reverse.length = 4 ∧ F2 as.reverse fun d => forB x fb [.tuple [dM, .int n, .list (dss.map PyData.list)], d] (((ρ.set i .no).set j (.dt dn)).set l .no) E
theorem snds_both (ae : Snd true K te ce fe) (a2 : SndL K t2 c2 f2) (a3 : SndL K t3 c3 f3) (a4 : SndL K t4 c4 f4) (aN : Snd true K tN cn fN) (r1 : SndA K tr1 cr1 fr1) (mF1 : MonoI F1) (r2 : SndA K tr2 cr2 fr2) (mF2 : MonoF F2) (bd : SndS K tb cb fb) (nij : i ≠ j) (nil : i ≠ l) (njl : j ≠ l) :
    SndS K (tSeq (tAsg (tLst (tCons (tLst (tCons te (tCons t2 tNil))) (tCons t3 (tCons t4 tNil)))) (gName i)) (tSeq (tAsg tN (gName j)) (tSeq (tAsg (tLst (tCons (tMakeT K (spIN K 0 F1) tr1) (tCons (tMakeTK K 4 (spI K 0 F2) tr2) tNil))) (gName l))
      (tSeq (tApp5 K n1 (tOp (rIx K) (tOp (rIx K) (tVar i) (tC (.int ((0 : Nat) : Int)))) (tC (.int ((1 : Nat) : Int))))) (tSeq (tApp5 K n2 (tOp (rIx K) (tVar i) (tC (.int ((1 : Nat) : Int))))) (tSeq (tApp5 K n3 (tOp (rIx K) (tVar i) (tC (.int ((2 : Nat) : Int))))) (tFor (Pw.iSeq K (tVar l)) (gName x) tb)))))))
      (ce + c2 + c3 + c4 + cn + cr1 + cr2 + 2 * cb) (sBoth i j l x fe f2 f3 f4 fN fr1 F1 fr2 F2 fb) := by
  refine ⟨fun ρ E E' h q => ⟨q.1, ae.mono _ _ _ (fun de => a2.mono _ _ _ fun d2 => a3.mono _ _ _ fun d3 => a4.mono _ _ _ fun d4 z => ⟨z.1, aN.mono _ _ _ (fun dn => r1.mono _ _ _ fun as y => ⟨y.1, mF1 _ _ _ (fun dM n dss => r2.mono _ _ _ fun as w => ⟨w.1, w.2.1, mF2 _ _ _ (fun d => forB_mono bd.mono h _ _) w.2.2⟩) y.2⟩) z.2⟩) q.2⟩,
    fun {G H0 b0 b os m H σ ρ D E} ok hm hf k => ?_⟩
  obtain ⟨⟨li, lj, ll⟩, hf⟩ := hf
  have lσ := ok.env.len
  have bs := ok.env.bs
  have bne : ∀ q, H q = none → b ≠ some q := fun q h z => ok.env.al.no q (bs q z) h
  refine ae.go ok.env (by omega) hf fun de v1 H1 h1 s1 b1 d1 => ?_
  have E1 := ok.env.step s1 b1
  refine a2.go E1 (by omega) h1 fun d2 vs2 p2 H2 h2 np2 s2 b2 e2 g2 => ?_
  have E2 := E1.step s2 b2
  have o2 : H p2 = none := back s1 b1 np2
  have D1 : Da K (rm H2 (SO G b os)) v1 de := d1.mono (s2.rm bs)
  have l2' := g2.len
  have D2 : Da K (rm H2 (SO G b os)) (.ref p2) (.list d2) := .lst (rm_in (E1.al.new np2) e2) (g2.mono (rm_sub fun a z => .inl z))
  refine ⟨by show 2 ≤ sizeLine; decide, fun p0 np0 => ?_⟩
  have ex3 := Evl.Ex.new (o := HO.lst [v1, .ref p2]) np0
  have s3 : Stp K b H2 (upd H2 p0 (.lst [v1, .ref p2])) := Stp.ex ex3
  have b3 := b2.ex ex3
  have E3 := E2.step s3 b3
  have D0 : Da K (rm (upd H2 p0 (.lst [v1, .ref p2])) (SO G b os)) (.ref p0) (.list [de, .list d2]) := new_lst E2.al np0 (.cons D1 (.cons D2 .nil))
  have q0 : upd H2 p0 (.lst [v1, .ref p2]) p0 = some (.lst [v1, .ref p2]) := upd_same
  have q2 : upd H2 p0 (.lst [v1, .ref p2]) p2 = some (.lst vs2) := ex3 _ _ e2
  have o0 : H p0 = none := back (s1.trans s2) b2 np0
  revert s3 b3 E3 D0 q0 q2
  generalize upd H2 p0 (.lst [v1, .ref p2]) = H3
  intro s3 b3 E3 D0 q0 q2
  refine a3.go E3 (by omega) h2 fun d3 vs3 p3 H4 h4 np3 s4 b4 e3 g3 => ?_
  have E4 := E3.step s4 b4
  have s34 : Stp K b H H3 := (s1.trans s2).trans s3
  have o3 : H p3 = none := back s34 b3 np3
  have l3' := g3.len
  have D3 : Da K (rm H4 (SO G b os)) (.ref p3) (.list d3) := .lst (rm_in (E3.al.new np3) e3) (g3.mono (rm_sub fun a z => .inl z))
  have s44 := s34.trans s4
  refine a4.go E4 (by omega) h4 fun d4 vs4 p4 H5 h5 np4 s5 b5 e4 g4 => ?_
  have E5 := E4.step s5 b5
  have o4 : H p4 = none := back s44 b4 np4
  have l4' := g4.len
  have D4 : Da K (rm H5 (SO G b os)) (.ref p4) (.list d4) := .lst (rm_in (E4.al.new np4) e4) (g4.mono (rm_sub fun a z => .inl z))
  have s55 := s44.trans s5
  refine ⟨by show 3 ≤ sizeLine; decide, fun pG npG => ?_⟩
  have ex6 := Evl.Ex.new (o := HO.lst [.ref p0, .ref p3, .ref p4]) npG
  have oG : H pG = none := back s55 b5 npG
  -- what lies where
  have a0 : H5 p0 = some (.lst [v1, .ref p2]) := s5 _ _ (bne _ o0) (s4 _ _ (bne _ o0) q0)
  have a2' : H5 p2 = some (.lst vs2) := s5 _ _ (bne _ o2) (s4 _ _ (bne _ o2) q2)
  have a3' : H5 p3 = some (.lst vs3) := s5 _ _ (bne _ o3) e3
  have n20 : p2 ≠ p0 := fun z => by rw [z, np0] at e2; cases e2
  have n23 : p2 ≠ p3 := fun z => by rw [z, np3] at q2; cases q2
  have n03 : p0 ≠ p3 := fun z => by rw [z, np3] at q0; cases q0
  have h42 : H4 p2 = some (.lst vs2) := s4 _ _ (bne _ o2) q2
  have h40 : H4 p0 = some (.lst [v1, .ref p2]) := s4 _ _ (bne _ o0) q0
  have n24 : p2 ≠ p4 := fun z => by rw [z, np4] at h42; cases h42
  have n04 : p0 ≠ p4 := fun z => by rw [z, np4] at h40; cases h40
  have n34 : p3 ≠ p4 := fun z => by rw [z, np4] at e3; cases e3
  have n2G : p2 ≠ pG := fun z => by rw [z, npG] at a2'; cases a2'
  have n0G : p0 ≠ pG := fun z => by rw [z, npG] at a0; cases a0
  have n3G : p3 ≠ pG := fun z => by rw [z, npG] at a3'; cases a3'
  have n4G : p4 ≠ pG := fun z => by rw [z, npG] at e4; cases e4
  have s6 : Stp K b H5 (upd H5 pG (.lst [.ref p0, .ref p3, .ref p4])) := Stp.ex ex6
  have b6 := b5.ex ex6
  have E6 := E5.step s6 b6
  have DG : Da K (rm (upd H5 pG (.lst [.ref p0, .ref p3, .ref p4])) (SO G b os)) (.ref pG) (gvD de d2 d3 d4) := new_lst E5.al npG (.cons (D0.mono ((s4.trans s5).rm bs)) (.cons (D3.mono (s5.rm bs)) (.cons D4 .nil)))
  have w0 := ex6 _ _ a0
  have w2 := ex6 _ _ a2'
  have w3 := ex6 _ _ a3'
  have w4 := ex6 _ _ e4
  have wG : upd H5 pG (.lst [.ref p0, .ref p3, .ref p4]) pG = some (.lst [.ref p0, .ref p3, .ref p4]) := upd_same
  have s66 := s55.trans s6
  clear ex3 q0 q2 a0 a2' a3' h42 h40 s1 s2 s3 s4 s5 s34 s44 s55 D0 D1 D2 D3 D4 E1 E2 E3 E4 E5 g2 g3 g4 e2 e3 e4 np0 np2 np3 np4 npG b1 b2 b3 b4 b5 d1 ex6 s6
  revert b6 E6 DG w0 w2 w3 w4 wG s66
  generalize upd H5 pG (.lst [.ref p0, .ref p3, .ref p4]) = H6
  intro b6 E6 DG w0 w2 w3 w4 wG s66
  obtain ⟨⟨l2, l3, l4⟩, h6⟩ := h5
  let L : Addr → Prop := fun a => a = pG ∨ a = p0 ∨ a = p2 ∨ a = p3 ∨ a = p4
  have oL : ∀ a, L a → H a = none := fun a h => by
    rcases h with rfl | rfl | rfl | rfl | rfl <;> assumption
  have hL : ∀ a, L a → ∃ xs, H6 a = some (.lst xs) := fun a h => by
    rcases h with rfl | rfl | rfl | rfl | rfl <;> exact ⟨_, by assumption⟩
  have bL : ∀ a, L a → b ≠ some a := fun a h => bne a (oL a h)
  -- numbers, with those lists held
  have Eh := ((ok.env.holdL (L := L) oL s66 b6 fun a h => (hL a h).elim fun xs e => ⟨_, e, rfl⟩).set (i := i) (v := .ref pG) (s := .no) fun _ _ => trivial)
  show tAsg tN (gName j) _ _ H6
  refine aN.go Eh (by omega) h6 fun dn vn H7 h7 s7 b7 d7 => ?_
  have Eh7 := (Eh.step s7 b7).set (i := j) (v := vn) (s := .dt dn) fun x e => ⟨_, e, d7⟩
  have Eg7 := (((E6.set (i := i) (v := .ref pG) (s := .dt (gvD de d2 d3 d4)) fun x e => ⟨_, e, DG⟩).step s7 b7).le (Nat.le_refl _)).set (i := j) (v := vn) (s := .dt dn) fun x e => ⟨_, e, d7.mono (rm_sub fun a z => .inl z)⟩
  unfold tSeq
  unfold tAsg
  unfold tLst
  unfold tCons
  unfold gName
  dsimp only
  refine mkN_run (T := fun a => SO G b os a ∨ L a) (P := fun t1 => fr2 ((ρ.set i .no).set j (.dt dn)) fun as => as.length = 4 ∧ as.reverse.length = 4 ∧ F2 as.reverse fun d => forB x fb [t1, d] (((ρ.set i .no).set j (.dt dn)).set l .no) E) mF1 r1 Eg7 (fun a h => h.imp id fun z => (hL a z).elim fun xs e => ⟨xs, s7 _ _ (bL a z) e⟩) (by omega) h7 fun t1 x1 H8 h8 s8 b8 tb8 => ?_
  have Eh8 := (Eh7.step s8 b8).le (Nat.le_refl _)
  refine mk_runK mF2 r2 Eh8 (by omega) h8 fun t2 x2 H9 h9 s9 b9 tb9 => ?_
  refine ⟨by show 2 ≤ sizeLine; decide, fun pB npB => ?_⟩
  have ex10 := Evl.Ex.new (o := HO.lst [.ref x1, .ref x2]) npB
  have s10 : Stp K b H9 (upd H9 pB (.lst [.ref x1, .ref x2])) := Stp.ex ex10
  have b10 := b9.ex ex10
  have wB : upd H9 pB (.lst [.ref x1, .ref x2]) pB = some (.lst [.ref x1, .ref x2]) := upd_same
  have s710 : Stp K b H7 (upd H9 pB (.lst [.ref x1, .ref x2])) := (s8.trans s9).trans s10
  have s610 : Stp K b H6 (upd H9 pB (.lst [.ref x1, .ref x2])) := s7.trans s710
  have al9 := (Eh8.step s9 b9).al
  have nB : ¬ (SO G b os pB ∨ L pB) := fun z => al9.no pB z npB
  have T1 : TbO K (rm (upd H9 pB (.lst [.ref x1, .ref x2])) fun a => SO G b os a ∨ L a) (.ref x1) _ := TbO.mono (((s9.trans s10)).rm fun p e => .inl (bs p e)) tb8
  have T2 : TbO K (rm (upd H9 pB (.lst [.ref x1, .ref x2])) fun a => SO G b os a ∨ L a) (.ref x2) _ := TbO.mono (s10.rm fun p e => .inl (bs p e)) tb9
  have VN := ((d7.mono (s710.rm fun p e => .inl (bs p e))) : Da K (rm (upd H9 pB (.lst [.ref x1, .ref x2])) fun a => SO G b os a ∨ L a) vn dn)
  have z0 := s610 _ _ (bne _ o0) w0
  have z2 := s610 _ _ (bne _ o2) w2
  have z3 := s610 _ _ (bne _ o3) w3
  have z4 := s610 _ _ (bne _ o4) w4
  have zG := s610 _ _ (bne _ oG) wG
  have sall : Stp K b H (upd H9 pB (.lst [.ref x1, .ref x2])) := s66.trans s610
  clear s7 s8 s9 s10 s710 s610 ex10 tb8 tb9 Eh Eh7 Eh8 Eg7 E6 DG w0 w2 w3 w4 wG b6 b7 b8 b9 hL d7 npB al9
  revert b10 wB T1 T2 VN z0 z2 z3 z4 zG sall
  generalize upd H9 pB (.lst [.ref x1, .ref x2]) = H10
  intro b10 wB T1 T2 VN z0 z2 z3 z4 zG sall
  have il : i < σ.length := by rw [lσ]; exact li
  have jl : j < σ.length := by rw [lσ]; exact lj
  have l_l : l < σ.length := by rw [lσ]; exact ll
  let σ' : L2.St := ((σ.set i (some (.ref pG))).set j (some vn)).set l (some (.ref pB))
  have gi : σ'[i]? = some (some (.ref pG)) := by
    show ((((σ.set i (some (.ref pG))).set j (some vn)).set l (some (.ref pB))) : L2.St)[i]? = _
    rw [List.getElem?_set_ne (Ne.symm nil), List.getElem?_set_ne (Ne.symm nij), List.getElem?_set_self il]
  have gl : σ'[l]? = some (some (.ref pB)) := by
    show ((((σ.set i (some (.ref pG))).set j (some vn)).set l (some (.ref pB))) : L2.St)[l]? = _
    rw [List.getElem?_set_self (by rw [List.length_set, List.length_set]; exact l_l)]
  show tSeq (tApp5 K n1 (tOp (rIx K) (tOp (rIx K) (tVar i) (tC (.int ((0 : Nat) : Int)))) (tC (.int ((1 : Nat) : Int))))) (tSeq (tApp5 K n2 (tOp (rIx K) (tVar i) (tC (.int ((1 : Nat) : Int))))) (tSeq (tApp5 K n3 (tOp (rIx K) (tVar i) (tC (.int ((2 : Nat) : Int))))) (tFor (Pw.iSeq K (tVar l)) (gName x) tb))) D σ' H10
  have gv : ∀ (H : Hp) (Q : VK), Q (.ref pG) H → tVar i σ' H Q := fun H Q q => ⟨_, gi, q⟩
  refine (wm_app (K := K) cn_c).go (B := 1000000) (q := p2) (fun H1 Q e q => ix_lst (fun Q q => ix_lst (fun Q q => gv _ Q q) (e _ _ n2G.symm zG) rfl q) (e _ _ n20.symm z0) rfl q) z2 ?_ (by decide) fun H11 c11 => ?_
  · rw [l2']; exact l2
  show tSeq (tApp5 K n2 (tOp (rIx K) (tVar i) (tC (.int ((1 : Nat) : Int))))) (tSeq (tApp5 K n3 (tOp (rIx K) (tVar i) (tC (.int ((2 : Nat) : Int))))) (tFor (Pw.iSeq K (tVar l)) (gName x) tb)) D σ' H11
  have zG1 := c11.1 _ _ n2G.symm zG
  refine (wm_app (K := K) cn_c).go (B := 1000000) (q := p3) (fun H1 Q e q => ix_lst (fun Q q => gv _ Q q) (e _ _ n3G.symm zG1) rfl q) (c11.1 _ _ n23.symm z3) ?_ (by decide) fun H12 c12 => ?_
  · rw [l3']; exact l3
  show tSeq (tApp5 K n3 (tOp (rIx K) (tVar i) (tC (.int ((2 : Nat) : Int))))) (tFor (Pw.iSeq K (tVar l)) (gName x) tb) D σ' H12
  have zG2 := c12.1 _ _ n3G.symm zG1
  refine (wm_app (K := K) cn_c).go (B := 1000000) (q := p4) (fun H1 Q e q => ix_lst (fun Q q => gv _ Q q) (e _ _ n4G.symm zG2) rfl q) (c12.1 _ _ n34.symm (c11.1 _ _ n24.symm z4)) ?_ (by decide) fun H13 c13 => ?_
  · rw [l4']; exact l4
  show tFor (Pw.iSeq K (tVar l)) (gName x) tb D σ' H13
  have but : ∀ a o, a ∉ [p2, p3, p4] → H10 a = some o → H13 a = some o := fun a o n e => by
    simp only [List.mem_cons, List.mem_nil_iff, or_false, not_or] at n
    exact c13.1 a o n.2.2 (c12.1 a o n.2.1 (c11.1 a o n.1 e))
  have lsts : ∀ q ∈ [p2, p3, p4], ∃ ws, H10 q = some (.lst ws) := fun q h => by
    simp only [List.mem_cons, List.mem_nil_iff, or_false] at h
    rcases h with rfl | rfl | rfl <;> exact ⟨_, by assumption⟩
  have new3 : ∀ q ∈ [p2, p3, p4], H q = none := fun q h => by
    simp only [List.mem_cons, List.mem_nil_iff, or_false] at h
    rcases h with rfl | rfl | rfl <;> assumption
  have inL : ∀ q ∈ [p2, p3, p4], L q := fun q h => by
    simp only [List.mem_cons, List.mem_nil_iff, or_false] at h
    rcases h with rfl | rfl | rfl
    · exact .inr (.inr (.inl rfl))
    · exact .inr (.inr (.inr (.inl rfl)))
    · exact .inr (.inr (.inr (.inr rfl)))
  have sF : Stp K b H H13 := fun a o nb e => (sall a o nb e).trans fun o' e' => hoLe_but lsts but (fun m => by rw [new3 a m] at e; cases e) e'
  have bF : BxO b H13 _ := b10.but fun a o e h => but a o (fun m => bne a (new3 a m) e) h
  have rF : Evl.Ex (rm H10 fun a => SO G b os a ∨ L a) (rm H13 (SO G b os)) := fun a o h => by
    obtain ⟨n1, e1⟩ := rm_some h
    exact rm_in (fun z => n1 (.inl z)) (but a o (fun m => n1 (.inr (inL a m))) e1) (rm_nt h)
  have nBb : ¬ SO G b os pB := fun z => nB (.inl z)
  have zB : H13 pB = some (.lst [.ref x1, .ref x2]) := but _ _ (fun m => nB (.inr (inL _ m))) wB
  have okF := ok.step sF bF (by omega)
  have V : Da K (rm H13 (SO G b os)) vn dn := VN.mono rF
  have o1 := okF.kpt (vs := [i]) (okF.env.set (i := i) (v := .ref pG) (s := .no) fun _ _ => trivial) (kpt_fl rfl (List.mem_singleton.mpr rfl))
  have o2 := o1.kpt (vs := [j]) (o1.env.set (i := j) (v := vn) (s := .dt dn) fun x e => ⟨_, e, V⟩) (kpt_fl rfl (List.mem_singleton.mpr rfl))
  have o3 := o2.kpt (vs := [l]) (o2.env.set (i := l) (v := .ref pB) (s := .no) fun _ _ => trivial) (kpt_fl rfl (List.mem_singleton.mpr rfl))
  refine loop_BL bd (n := 2) o3 (by omega) gl zB nBb (.cons (TbO.mono rF T1) (.cons (TbO.mono rF T2) .nil)) rfl h9 (Goes.from (Goes.le k (by omega)) (Lk.step sF bs))
end
end Dv
namespace Dv
open PySem PySem.Spec PyProof.Rows L2 Xg
open Classical
def tMethTR (K : PySem.W.Frag) (m : Str) (n : Nat) (sp : Sp) (ta : TE) (t : TA) : TE := fun σ H Q => ta σ H fun x H1 => ∃ (a C dx : Addr) (fs : List (Str × V)), x = .ref a ∧ TbF K C ∧ H1 a = some (.ins C dx fs) ∧ fs.lookup m = none ∧ t σ H1 fun vs H2 => vs.length = n ∧ sp (x :: vs.reverse) H2 Q E0
structure MfR (P : Program) (w : World) (K : PySem.W.Frag) (mg : Str → Option Value) (base : Heap) (m : Str) (ps ks : List Str) (k : Nat) (sp : Sp) : Prop where
  ex : ∃ (C f : Addr) (fd : FuncData), TbF K C ∧ Meth K C m f ∧ FnG P w K mg base k f fd ps sp ∧ ∀ (s : Shared) (self : Value) (ws : List Value), K.In s.heap → ws.length = ks.length → BindsTo s fd ⟨[self], ks.zip ws⟩ (ps.zip (self :: ws.reverse))
section
variable {X : Cx}
theorem pe_methTR {o : Expr} {kws : List Keyword} {ta : TE} {tk : TA} {m : Str} {ps ks : List Str} {k n : Nat} {sp : Sp} {apos pos : Pos} {pl : Sem Bool} (M : MfR X.prog X.w X.K X.mg X.base m ps ks k sp) (he : PE X o ta) (hG : X.A.guards = some []) (hr : Room k X.A) (hkw : PK X kws tk) (hn : ks.length = n := by rfl)
    (hall : (backToKw pos (keywordEach kws X.env)).all (·.1.isSome) = true := by rfl) (hks : (backToKw pos (keywordEach kws X.env)).filterMap (·.1) = ks := by rfl)
    (hpl : ((backTo pos (starEach [] X.env)).any (·.1) || (backToKw pos (keywordEach kws X.env)).any (·.1.isNone)) = false := by rfl)
    (ht : eval (.Call (.Attribute o m apos) [] kws pos) X.env = (eval o X.env >>= fun ov => standAt apos.atName >>= fun _ => holding [ov] (getMethod ov m pl) >>= fun z => callWith pos z.1 z.2 (backTo pos (starEach [] X.env)) (backToKw pos (keywordEach kws X.env))) := by rfl) :
    PE X (.Call (.Attribute o m apos) [] kws pos) (tMethTR X.K m n sp ta tk) := by
  obtain ⟨C, f, fd, T, hm, F, hb⟩ := M.ex
  refine ⟨fun pins s σ H Q I h => PySem.W.methodCall_KW (pl := pl) (thn (he.run pins s σ H _ I h) fun u s1 ⟨x, H1, I1, rx, a, C', dx, fs, ex, T', ea, l, q⟩ => ?_) ht⟩
  cases T.uniq T'
  subst ex
  obtain rfl : u = Value.ref a := rx
  refine getmeth_ok I1 ea T.cl hm l (PySem.W.callWith_KW0 (first := [.ref a]) (h₀ := X.base) I.ok.mod.kin hm.kp hall (thn (hkw.run pos pins s1 σ H1 _ I1 q) fun us s2 ⟨vs, H2, I2, r, l2, q2⟩ => ⟨I2.kIn, ?_⟩) hpl)
  rw [hks]
  refine wpAny_call (codeAny_mono (F.run X.A X.stack s2 H2 ⟨[.ref a], ks.zip us⟩ (.ref a :: us.reverse) (.ref a :: vs.reverse) Q hG hr I2.env0 (hb s2 (.ref a) us I2.kIn (by rw [← r.length, l2, hn])) (.cons rfl r.reverse) q2) fun res s' hq => ?_)
  cases res with
  | error er => exact hq.elim
  | ok fl =>
    cases fl with
    | ret u => exact I2.after hq
    | next => exact False.elim hq
    | brk => exact False.elim hq
    | cont => exact False.elim hq
end
section
variable {K : PySem.W.Frag} {tr : TA} {cr c n : Nat} {fr : FA}
abbrev eMethR (i n : Nat) (F : FF) (fr : FA) : FE := fun ρ Q => match ρ[i]? with
  | some (.op g) => fr ρ fun as => as.length = n ∧ F (.op g :: as.reverse) Q
  | _ => False
theorem snd_methR {i : Nat} {m : Str} {F : FF} (hl : ∀ x y z : V, List.lookup m [(("made_of" : Str), x), ("many", y), ("grid", z)] = none) (mF : MonoF F) (r : SndA K tr cr fr) : Snd true K (tMethTR K m n (spD K c F) (tVar i) tr) (cr + c) (eMethR i n F fr) := mk_snd
  (fun ρ P P' h q => by
    unfold eMethR at q ⊢
    split at q
    · exact r.mono _ _ _ (fun as z => ⟨z.1, mF _ _ _ h z.2⟩) q
    · exact q.elim)
  (fun {B S m' σ H ρ Q P} E hm hf k => by
    unfold eMethR at hf
    split at hf
    · rename_i g e
      obtain ⟨v, e1, tb⟩ := E.sl i _ e
      obtain ⟨p, C, dx, vM, vG, dM, j, dG, rfl, T, e2, d1, d2, e3⟩ := id tb
      refine ⟨_, e1, p, C, dx, _, rfl, T, rm_le _ _ e2, hl _ _ _, r.go E (by omega) hf fun as vs H1 h1 s1 b1 a1 => ⟨by rw [a1.len]; exact h1.1, ?_⟩⟩
      exact ⟨B, S, m' + cr, .op g :: as.reverse, .cons (TbO.mono (s1.rm E.bs) tb) a1.rev, b1, E.bs, (E.step s1 b1).both, by omega, mF _ _ _ (fun d p v H' s2 b2 d2 => k _ _ _ p (s1.trans s2) (b2.le (by omega)) d2) h1.2⟩
    · exact hf.elim)
theorem pss_ret1 {X : Cx} {b : List Stmt} {t : TS} (h : PSs X b t) : PSs X b (tSeq tNext t) := h
end
end Dv
namespace Ke
open PySem PySem.Spec PyProof.Rows L2 Xg Dv Kd
def fN_chained : FS := (sAsg (eCall F_columns_of (aCons (eVar 1) aNil)) (gN 2))
@[irreducible] def N_chained : FNF := mkN 2 5 fN_chained (nComp 1000000 (fIt (eVar 0)) [3] (gN 3) (fComp 1000000 (fIt (eVar 2)) [4] (gN 4) fYes (eCall F_least_sum (aCons (eVar 3) (aCons (eVar 4) aNil)))))
theorem sN_chained (K : PySem.W.Frag) : SndS K (tAsg (tCallG (spD K 0 F_columns_of) (tCons (tVar 1) tNil)) (gName 2)) 0 fN_chained := (snds_asg (vs := [2]) (snd_call (m_columns_of K) (snda_cons snd_var snda_nil)) (sndg_name (by decide)))
theorem sl_chained (K : PySem.W.Frag) : SndLN K (tLc (Pw.iSeq K (tVar 0)) (gName 3) tYes (tLc (Pw.iSeq K (tVar 2)) (gName 4) tYes (tCallG (spD K 0 F_least_sum) (tCons (tVar 3) (tCons (tVar 4) tNil))) [4]) [3]) 0 (nComp 1000000 (fIt (eVar 0)) [3] (gN 3) (fComp 1000000 (fIt (eVar 2)) [4] (gN 4) fYes (eCall F_least_sum (aCons (eVar 3) (aCons (eVar 4) aNil))))) := (sndln_comp (N := 1000000) (by decide) (sndi_seq (Snd.v snd_var)) (sndg_name (by decide)) (sndl_comp (N := 1000000) (by decide) (sndi_seq (Snd.v snd_var)) (sndg_name (by decide)) sndt_yes (snd_call (m_least_sum K) (snda_cons snd_var (snda_cons snd_var snda_nil)))))
theorem mN_chained (K : PySem.W.Frag) : MonoN N_chained := by
  unfold N_chained
  exact mkN_mono (sN_chained K) (sl_chained K)
end Ke
namespace Ke
open PySem PySem.Spec PyProof.Rows L2 Xg Dv Kd
def f_grid_of_none : FS := (sRetL (fComp 1000000 (fRange1 (eVar 0)) [1] (gN 1) fYes (eL (fComp 1000000 (fRange1 (eVar 0)) [2] (gN 2) fYes (eIf (fTest (eBin gEq (eVar 1) (eVar 2))) (eC (.int 0)) (eC .none))))))
@[irreducible] def F_grid_of_none : FF := mkF 1 3 f_grid_of_none
@[irreducible] def L_grid_of_none : FFL := mkL 1 3 f_grid_of_none
def t_grid_of_none (K : PySem.W.Frag) : TS := (tRet (tLc (iRng1 (tCons (tVar 0) tNil)) (gName 1) tYes (tLc (iRng1 (tCons (tVar 0) tNil)) (gName 2) tYes (tIf (tTest (tOp (rEqX K) (tVar 1) (tVar 2))) (tC (.int 0)) (tC .non)) [2]) [1]))
theorem s_grid_of_none (K : PySem.W.Frag) : SndS K (t_grid_of_none K) 0 f_grid_of_none := (snds_retL (sndl_comp (N := 1000000) (by decide) (sndi_range1 snd_var) (sndg_name (by decide)) sndt_yes (SndL.d (sndl_comp (N := 1000000) (by decide) (sndi_range1 snd_var) (sndg_name (by decide)) sndt_yes (snd_if (sndt_test (snd_op ops_eq snd_var snd_var)) snd_int snd_non)))))
theorem m_grid_of_none (K : PySem.W.Frag) : MonoF F_grid_of_none := by
  unfold F_grid_of_none
  exact mkF_mono (s_grid_of_none K)
end Ke
namespace Ke
open PySem PySem.Spec PyProof.Rows L2 Xg Dv Kd
def fN_grid_of_none : FS := sSkip
@[irreducible] def N_grid_of_none : FNF := mkN 1 3 fN_grid_of_none (nComp 1000000 (fRange1 (eVar 0)) [1] (gN 1) (fComp 1000000 (fRange1 (eVar 0)) [2] (gN 2) fYes (eIf (fTest (eBin gEq (eVar 1) (eVar 2))) (eC (.int 0)) (eC .none))))
theorem sN_grid_of_none (K : PySem.W.Frag) : SndS K tNext 0 fN_grid_of_none := snds_nil
theorem sl_grid_of_none (K : PySem.W.Frag) : SndLN K (tLc (iRng1 (tCons (tVar 0) tNil)) (gName 1) tYes (tLc (iRng1 (tCons (tVar 0) tNil)) (gName 2) tYes (tIf (tTest (tOp (rEqX K) (tVar 1) (tVar 2))) (tC (.int 0)) (tC .non)) [2]) [1]) 0 (nComp 1000000 (fRange1 (eVar 0)) [1] (gN 1) (fComp 1000000 (fRange1 (eVar 0)) [2] (gN 2) fYes (eIf (fTest (eBin gEq (eVar 1) (eVar 2))) (eC (.int 0)) (eC .none)))) := (sndln_comp (N := 1000000) (by decide) (sndi_range1 snd_var) (sndg_name (by decide)) (sndl_comp (N := 1000000) (by decide) (sndi_range1 snd_var) (sndg_name (by decide)) sndt_yes (snd_if (sndt_test (snd_op ops_eq snd_var snd_var)) snd_int snd_non)))
theorem mN_grid_of_none (K : PySem.W.Frag) : MonoN N_grid_of_none := by
  unfold N_grid_of_none
  exact mkN_mono (sN_grid_of_none K) (sl_grid_of_none K)
end Ke
namespace Ke
open PySem PySem.Spec PyProof.Rows L2 Xg Dv Kd
def f_grid_of : FS := (sSeq (sAsg (eCall F_doubled_grids (aCons (eVar 0) (aCons (eVar 1) (aCons (eVar 2) (aCons (eVar 3) aNil))))) (gN 4)) (sSeq (sAsg (eCall F_grid_of_none (aCons (eCall F_gates (aCons (eVar 0) aNil)) aNil)) (gN 5)) (sSeq (sFor 1000000 (fIt (eCall F_grids_in (aCons (eVar 4) (aCons (eVar 3) aNil)))) (gN 6) (sAsg (eCall F_chained (aCons (eVar 5) (aCons (eVar 6) aNil))) (gN 5))) (sRet (eVar 5)))))
@[irreducible] def F_grid_of : FF := mkF 4 7 f_grid_of
def t_grid_of (K : PySem.W.Frag) : TS := (tSeq (tAsg (tCallG (spD K 0 F_doubled_grids) (tCons (tVar 0) (tCons (tVar 1) (tCons (tVar 2) (tCons (tVar 3) tNil))))) (gName 4)) (tSeq (tAsg (tCallG (spD K 0 F_grid_of_none) (tCons (tCallG (spD K 0 F_gates) (tCons (tVar 0) tNil)) tNil)) (gName 5)) (tSeq (tFor (Pw.iSeq K (tCallG (spD K 0 F_grids_in) (tCons (tVar 4) (tCons (tVar 3) tNil)))) (gName 6) (tAsg (tCallG (spD K 0 F_chained) (tCons (tVar 5) (tCons (tVar 6) tNil))) (gName 5))) (tRet (tVar 5)))))
theorem s_grid_of (K : PySem.W.Frag) : SndS K (t_grid_of K) 0 f_grid_of := (snds_seq (snds_asg (vs := [4]) (snd_call (m_doubled_grids K) (snda_cons snd_var (snda_cons snd_var (snda_cons snd_var (snda_cons snd_var snda_nil))))) (sndg_name (by decide))) (snds_seq (snds_asg (vs := [5]) (snd_call (m_grid_of_none K) (snda_cons (snd_call (m_gates K) (snda_cons snd_var snda_nil)) snda_nil)) (sndg_name (by decide))) (snds_seq (snds_for (vs := [6]) (N := 1000000) (sndi_seq (snd_call (m_grids_in K) (snda_cons snd_var (snda_cons snd_var snda_nil)))) (sndg_name (by decide)) (snds_asg (vs := [5]) (snd_call (m_chained K) (snda_cons snd_var (snda_cons snd_var snda_nil))) (sndg_name (by decide)))) (snds_ret snd_var))))
theorem m_grid_of (K : PySem.W.Frag) : MonoF F_grid_of := by
  unfold F_grid_of
  exact mkF_mono (s_grid_of K)
end Ke
namespace Ke
open PySem PySem.Spec PyProof.Rows L2 Xg Dv Kd
def fN_grid_of : FS := (sAsg (eCall F_doubled_grids (aCons (eVar 0) (aCons (eVar 1) (aCons (eVar 2) (aCons (eVar 3) aNil))))) (gN 4))
@[irreducible] def N_grid_of : FNF := mkNL 4 7 fN_grid_of (lCallN N_grid_of_none (aCons (eCall F_gates (aCons (eVar 0) aNil)) aNil)) 5 1000000 (fIt (eCall F_grids_in (aCons (eVar 4) (aCons (eVar 3) aNil)))) (gN 6) (lCallN N_chained (aCons (eVar 5) (aCons (eVar 6) aNil)))
theorem sN_grid_of (K : PySem.W.Frag) : SndS K (tAsg (tCallG (spD K 0 F_doubled_grids) (tCons (tVar 0) (tCons (tVar 1) (tCons (tVar 2) (tCons (tVar 3) tNil))))) (gName 4)) 0 fN_grid_of := (snds_asg (vs := [4]) (snd_call (m_doubled_grids K) (snda_cons snd_var (snda_cons snd_var (snda_cons snd_var (snda_cons snd_var snda_nil))))) (sndg_name (by decide)))
theorem sa_grid_of (K : PySem.W.Frag) : SndLN K (tCallG (spN K 0 N_grid_of_none) (tCons (tCallG (spD K 0 F_gates) (tCons (tVar 0) tNil)) tNil)) 0 (lCallN N_grid_of_none (aCons (eCall F_gates (aCons (eVar 0) aNil)) aNil)) := (sndln_call (mN_grid_of_none K) (snda_cons (snd_call (m_gates K) (snda_cons snd_var snda_nil)) snda_nil))
theorem si_grid_of (K : PySem.W.Frag) : SndI true K (Pw.iSeq K (tCallG (spD K 0 F_grids_in) (tCons (tVar 4) (tCons (tVar 3) tNil)))) 0 (fIt (eCall F_grids_in (aCons (eVar 4) (aCons (eVar 3) aNil)))) := (sndi_seq (snd_call (m_grids_in K) (snda_cons snd_var (snda_cons snd_var snda_nil))))
theorem sg_grid_of (K : PySem.W.Frag) : SndG K (gName 6) [6] (gN 6) := (sndg_name (by decide))
theorem sh_grid_of (K : PySem.W.Frag) : SndLN K (tCallG (spN K 0 N_chained) (tCons (tVar 5) (tCons (tVar 6) tNil))) 0 (lCallN N_chained (aCons (eVar 5) (aCons (eVar 6) aNil))) := (sndln_call (mN_chained K) (snda_cons snd_var (snda_cons snd_var snda_nil)))
theorem mN_grid_of (K : PySem.W.Frag) : MonoN N_grid_of := by
  unfold N_grid_of
  exact mkNL_mono (sN_grid_of K) (sa_grid_of K) (si_grid_of K) (sg_grid_of K) (sh_grid_of K)
end Ke
namespace Ke
open PySem PySem.Spec PyProof.Rows L2 Xg Dv Kd
@[irreducible] def f__law_step_0 : FS := (sRet (eIf (fTest (eBin gNe (eVarV 6) (eLst dNil))) (eCB (g1 minX) (dCons (eVarV 6) dNil)) (eC .none)))
def t__law_step_0 (K : PySem.W.Frag) : TS := (tRet (tIf (tTest (tOp (rNeX K) (tVar 6) (tLst tNil))) (tCB (rMinX K) (tCons (tVar 6) tNil)) (tC .non)))
theorem s__law_step_0 (K : PySem.W.Frag) : SndS K (t__law_step_0 K) 0 f__law_step_0 := by
  unfold f__law_step_0
  exact (snds_ret (snd_if (sndt_test (snd_op ops_ne sndV_var (SndL.d (sndl_lst sndd_nil (by decide))))) (snd_cb cs_minX (sndd_cons sndV_var sndd_nil)) snd_non))
@[irreducible] def f__law_step_1 : FS := (sSeq (sIf (fAnd (fOr (fTest (eBin gEq (eBin gIx (eVar 0) (eC (.int 0))) (eC (.str "ring")))) (fTest (eBin (gC fun i j => decide (i < j)) (eVar 3) (eCB (g1 lenD) (dCons (eBin gIx (eVar 0) (eC (.int 1))) dNil))))) (fTest (eBin gEq (eVar 4) (eBin (gIc (fun _ j => 0 < j) fun i j => i % j) (eBin gAdd (eVar 3) (eC (.int 1))) (eVar 5))))) (sApp 6 (eBin (gI fun i j => i - j) (eBin gIx (eBin gIx (eVar 0) (eC (.int 1))) (eVar 3)) (eBin gIx (eVar 2) (eVar 3)))) sSkip) f__law_step_0)
def t__law_step_1 (K : PySem.W.Frag) : TS := (tSeq (tIfS (tAnd (tOr (tTest (tOp (rEqX K) (tOp (rIx K) (tVar 0) (tC (.int 0))) (tC (.str "ring")))) (tTest (tOp (rI0 fun i j => .bl (decide (i < j))) (tVar 3) (tCB (fun xs H Q => ∃ x n, xs = [x] ∧ LenV K x H n ∧ Q (.int n) H) (tCons (tOp (rIx K) (tVar 0) (tC (.int 1))) tNil))))) (tTest (tOp (rEqX K) (tVar 4) (tOp (rI (fun _ j => 0 < j) fun i j => .int (i % j)) (tOp (rAdd K) (tVar 3) (tC (.int 1))) (tVar 5))))) (tDrop (tBM K "list" rAppend (tVar 6) (tCons (tOp (rI0 fun i j => .int (i - j)) (tOp (rIx K) (tOp (rIx K) (tVar 0) (tC (.int 1))) (tVar 3)) (tOp (rIx K) (tVar 2) (tVar 3))) tNil))) tNext) (t__law_step_0 K))
theorem s__law_step_1 (K : PySem.W.Frag) : SndS K (t__law_step_1 K) 0 f__law_step_1 := by
  unfold f__law_step_1
  exact (snds_seq (snds_if (sndt_and (sndt_or (sndt_test (snd_op ops_eq (snd_op ops_ix snd_var snd_int) snd_str)) (sndt_test (snd_op ops_C snd_var (snd_cb cs_len (sndd_cons (snd_op ops_ix snd_var snd_int) sndd_nil))))) (sndt_test (snd_op ops_eq snd_var (snd_op ops_Ic (snd_op ops_add snd_var snd_int) snd_var)))) (snds_app (snd_op ops_I (snd_op ops_ix (snd_op ops_ix snd_var snd_int) snd_var) (snd_op ops_ix snd_var snd_var))) snds_nil) (s__law_step_0 K))
@[irreducible] def f__law_step_2 : FS := (sSeq (sIf (fAnd (fOr (fTest (eBin gEq (eBin gIx (eVar 0) (eC (.int 0))) (eC (.str "ring")))) (fTest (eBin (gC fun i j => decide (j < i)) (eVar 3) (eC (.int 0))))) (fTest (eBin gEq (eVar 4) (eBin (gIc (fun _ j => 0 < j) fun i j => i % j) (eBin (gI fun i j => i - j) (eVar 3) (eC (.int 1))) (eVar 5))))) (sApp 6 (eBin gIx (eVar 2) (eBin (gI fun i j => i - j) (eVar 3) (eC (.int 1))))) sSkip) f__law_step_1)
def t__law_step_2 (K : PySem.W.Frag) : TS := (tSeq (tIfS (tAnd (tOr (tTest (tOp (rEqX K) (tOp (rIx K) (tVar 0) (tC (.int 0))) (tC (.str "ring")))) (tTest (tOp (rI0 fun i j => .bl (decide (j < i))) (tVar 3) (tC (.int 0))))) (tTest (tOp (rEqX K) (tVar 4) (tOp (rI (fun _ j => 0 < j) fun i j => .int (i % j)) (tOp (rI0 fun i j => .int (i - j)) (tVar 3) (tC (.int 1))) (tVar 5))))) (tDrop (tBM K "list" rAppend (tVar 6) (tCons (tOp (rIx K) (tVar 2) (tOp (rI0 fun i j => .int (i - j)) (tVar 3) (tC (.int 1)))) tNil))) tNext) (t__law_step_1 K))
theorem s__law_step_2 (K : PySem.W.Frag) : SndS K (t__law_step_2 K) 0 f__law_step_2 := by
  unfold f__law_step_2
  exact (snds_seq (snds_if (sndt_and (sndt_or (sndt_test (snd_op ops_eq (snd_op ops_ix snd_var snd_int) snd_str)) (sndt_test (snd_op ops_C snd_var snd_int))) (sndt_test (snd_op ops_eq snd_var (snd_op ops_Ic (snd_op ops_I snd_var snd_int) snd_var)))) (snds_app (snd_op ops_ix snd_var (snd_op ops_I snd_var snd_int))) snds_nil) (s__law_step_1 K))
@[irreducible] def f__law_step_3 : FS := (sSeq (sIf (fAnd (fTest (eBin gEq (eVar 3) (eVar 4))) (fTest (eBin gIsNot (eBin gIx (eVar 1) (eVar 3)) (eC .none)))) (sApp 6 (eBin gIx (eVar 1) (eVar 3))) sSkip) f__law_step_2)
def t__law_step_3 (K : PySem.W.Frag) : TS := (tSeq (tIfS (tAnd (tTest (tOp (rEqX K) (tVar 3) (tVar 4))) (tTest (tOp (fun x y H Q => y = .non ∧ Q (.bl (!decide (x = .non))) H) (tOp (rIx K) (tVar 1) (tVar 3)) (tC .non)))) (tDrop (tBM K "list" rAppend (tVar 6) (tCons (tOp (rIx K) (tVar 1) (tVar 3)) tNil))) tNext) (t__law_step_2 K))
theorem s__law_step_3 (K : PySem.W.Frag) : SndS K (t__law_step_3 K) 0 f__law_step_3 := by
  unfold f__law_step_3
  exact (snds_seq (snds_if (sndt_and (sndt_test (snd_op ops_eq snd_var snd_var)) (sndt_test (snd_op ops_isnot (snd_op ops_ix snd_var snd_var) snd_non))) (snds_app (snd_op ops_ix snd_var snd_var)) snds_nil) (s__law_step_2 K))
def f__law_step : FS := (sSeq (sParP 5 6 (eCall F__law_gates (aCons (eVar 0) aNil)) dNil) f__law_step_3)
@[irreducible] def F__law_step : FF := mkF 5 7 f__law_step
def t__law_step (K : PySem.W.Frag) : TS := (tSeq (tPar 5 6 (tCons (tCallG (spD K 0 F__law_gates) (tCons (tVar 0) tNil)) (tCons (tLst tNil) tNil))) (t__law_step_3 K))
theorem s__law_step (K : PySem.W.Frag) : SndS K (t__law_step K) 0 f__law_step := (snds_seq (snds_parP (snd_call (m__law_gates K) (snda_cons snd_var snda_nil)) (sndl_lst sndd_nil (by decide))) (s__law_step_3 K))
theorem m__law_step (K : PySem.W.Frag) : MonoF F__law_step := by
  unfold F__law_step
  exact mkF_mono (s__law_step K)
end Ke
namespace Ke
open PySem PySem.Spec PyProof.Rows L2 Xg Dv Kd
@[irreducible] def f__law_prices_0 : FS := (sApp 10 (eIf (fTest (eBin gNe (eVar 12) (eLst dNil))) (eCB (g1 minX) (dCons (eVar 12) dNil)) (eC .none)))
def t__law_prices_0 (K : PySem.W.Frag) : TS := (tDrop (tBM K "list" rAppend (tVar 10) (tCons (tIf (tTest (tOp (rNeX K) (tVar 12) (tLst tNil))) (tCB (rMinX K) (tCons (tVar 12) tNil)) (tC .non)) tNil)))
theorem s__law_prices_0 (K : PySem.W.Frag) : SndS K (t__law_prices_0 K) 0 f__law_prices_0 := by
  unfold f__law_prices_0
  exact (snds_app (snd_if (sndt_test (snd_op ops_ne snd_var (SndL.d (sndl_lst sndd_nil (by decide))))) (snd_cb cs_minX (sndd_cons snd_var sndd_nil)) snd_non))
@[irreducible] def f__law_prices_1 : FS := (sFrz 10 (sApp 8 (eVar 10)))
def t__law_prices_1 (K : PySem.W.Frag) : TS := (tDrop (tBM K "list" rAppend (tVar 8) (tCons (tVar 10) tNil)))
theorem s__law_prices_1 (K : PySem.W.Frag) : SndS K (t__law_prices_1 K) 0 f__law_prices_1 := by
  unfold f__law_prices_1
  exact (snds_frz (i := 10) (snds_app snd_var))
@[irreducible] def f__law_prices_2 : FS := (sSeq (sFor 1000000 (fRange1 (eVar 4)) (gN 11) (sSeq (sAsg (eL (fComp 1000000 (fEnum (eVar 9)) [14, 15] (gT (gsCons (gN 14) (gsCons (gN 15) gsNil))) (fAnd (fTest (eBin gIsNot (eVar 15) (eC .none))) (fTest (eBin gIsNot (eBin gIx (eBin gIx (eVar 5) (eVar 14)) (eVar 11)) (eC .none)))) (eBin gAdd (eVar 15) (eBin gIx (eBin gIx (eVar 5) (eVar 14)) (eVar 11))))) (gN 12)) f__law_prices_0)) f__law_prices_1)
def t__law_prices_2 (K : PySem.W.Frag) : TS := (tSeq (tFor (iRng1 (tCons (tVar 4) tNil)) (gName 11) (tSeq (tAsg (tLc (Pw.iEnumX K (tCons (tVar 9) tNil)) (fun v σ H Q => gTup K 2 (gCons (gName 14) (gCons (gName 15) gNil)) v σ H Q ∨ gLst K 2 (gCons (gName 14) (gCons (gName 15) gNil)) v σ H Q) (tAnd (tTest (tOp (fun x y H Q => y = .non ∧ Q (.bl (!decide (x = .non))) H) (tVar 15) (tC .non))) (tTest (tOp (fun x y H Q => y = .non ∧ Q (.bl (!decide (x = .non))) H) (tOp (rIx K) (tOp (rIx K) (tVar 5) (tVar 14)) (tVar 11)) (tC .non)))) (tOp (rAdd K) (tVar 15) (tOp (rIx K) (tOp (rIx K) (tVar 5) (tVar 14)) (tVar 11))) [14, 15]) (gName 12)) (t__law_prices_0 K))) (t__law_prices_1 K))
theorem s__law_prices_2 (K : PySem.W.Frag) : SndS K (t__law_prices_2 K) 0 f__law_prices_2 := by
  unfold f__law_prices_2
  exact (snds_seq (snds_for (vs := [11]) (N := 1000000) (sndi_range1 snd_var) (sndg_name (by decide)) (snds_seq (snds_asg (vs := [12]) (SndL.d (sndl_comp (N := 1000000) (by decide) (sndi_enum (Snd.v snd_var)) (sndg_tup (sndgs_cons (sndg_name (by decide)) (sndgs_cons (sndg_name (by decide)) sndgs_nil)) (gs_lenS gN_some (gs_lenS gN_some gs_len0))) (sndt_and (sndt_test (snd_op ops_isnot snd_var snd_non)) (sndt_test (snd_op ops_isnot (snd_op ops_ix (snd_op ops_ix snd_var snd_var) snd_var) snd_non))) (snd_op ops_add snd_var (snd_op ops_ix (snd_op ops_ix snd_var snd_var) snd_var)))) (sndg_name (by decide))) (s__law_prices_0 K))) (s__law_prices_1 K))
@[irreducible] def f__law_prices_3 : FS := (sFrz 8 (sAsg (eVar 8) (gN 6)))
def t__law_prices_3 (K : PySem.W.Frag) : TS := (tAsg (tVar 8) (gName 6))
theorem s__law_prices_3 (K : PySem.W.Frag) : SndS K (t__law_prices_3 K) 0 f__law_prices_3 := by
  unfold f__law_prices_3
  exact (snds_frz (i := 8) (snds_asg (vs := [6]) snd_var (sndg_name (by decide))))
@[irreducible] def f__law_prices_4 : FS := (sSeq (sFor 1000000 (fIt (eVar 6)) (gN 9) (sSeq (sOwn dNil 10) f__law_prices_2)) f__law_prices_3)
def t__law_prices_4 (K : PySem.W.Frag) : TS := (tSeq (tFor (Pw.iSeq K (tVar 6)) (gName 9) (tSeq (tAsg (tLst tNil) (gName 10)) (t__law_prices_2 K))) (t__law_prices_3 K))
theorem s__law_prices_4 (K : PySem.W.Frag) : SndS K (t__law_prices_4 K) 0 f__law_prices_4 := by
  unfold f__law_prices_4
  exact (snds_seq (snds_for (vs := [9]) (N := 1000000) (sndi_seq snd_var) (sndg_name (by decide)) (snds_seq (snds_own (sndl_lst sndd_nil (by decide))) (s__law_prices_2 K))) (s__law_prices_3 K))
@[irreducible] def f__law_prices_5 : FS := (sRet (eVar 6))
def t__law_prices_5 (K : PySem.W.Frag) : TS := (tRet (tVar 6))
theorem s__law_prices_5 (K : PySem.W.Frag) : SndS K (t__law_prices_5 K) 0 f__law_prices_5 := by
  unfold f__law_prices_5
  exact (snds_ret snd_var)
@[irreducible] def f__law_prices_6 : FS := (sSeq (sFor 1000000 (fRange1 (eVar 3)) (gN 7) (sSeq (sOwn dNil 8) f__law_prices_4)) f__law_prices_5)
def t__law_prices_6 (K : PySem.W.Frag) : TS := (tSeq (tFor (iRng1 (tCons (tVar 3) tNil)) (gName 7) (tSeq (tAsg (tLst tNil) (gName 8)) (t__law_prices_4 K))) (t__law_prices_5 K))
theorem s__law_prices_6 (K : PySem.W.Frag) : SndS K (t__law_prices_6 K) 0 f__law_prices_6 := by
  unfold f__law_prices_6
  exact (snds_seq (snds_for (vs := [7]) (N := 1000000) (sndi_range1 snd_var) (sndg_name (by decide)) (snds_seq (snds_own (sndl_lst sndd_nil (by decide))) (s__law_prices_4 K))) (s__law_prices_5 K))
@[irreducible] def f__law_prices_7 : FS := (sSeq (sAsg (eL (fComp 1000000 (fRange1 (eVar 4)) [13] (gN 13) fYes (eL (fComp 1000000 (fRange1 (eVar 4)) [11] (gN 11) fYes (eIf (fTest (eBin gEq (eVar 13) (eVar 11))) (eC (.int 0)) (eC .none)))))) (gN 6)) f__law_prices_6)
def t__law_prices_7 (K : PySem.W.Frag) : TS := (tSeq (tAsg (tLc (iRng1 (tCons (tVar 4) tNil)) (gName 13) tYes (tLc (iRng1 (tCons (tVar 4) tNil)) (gName 11) tYes (tIf (tTest (tOp (rEqX K) (tVar 13) (tVar 11))) (tC (.int 0)) (tC .non)) [11]) [13]) (gName 6)) (t__law_prices_6 K))
theorem s__law_prices_7 (K : PySem.W.Frag) : SndS K (t__law_prices_7 K) 0 f__law_prices_7 := by
  unfold f__law_prices_7
  exact (snds_seq (snds_asg (vs := [6]) (SndL.d (sndl_comp (N := 1000000) (by decide) (sndi_range1 snd_var) (sndg_name (by decide)) sndt_yes (SndL.d (sndl_comp (N := 1000000) (by decide) (sndi_range1 snd_var) (sndg_name (by decide)) sndt_yes (snd_if (sndt_test (snd_op ops_eq snd_var snd_var)) snd_int snd_non))))) (sndg_name (by decide))) (s__law_prices_6 K))
@[irreducible] def f__law_prices_8 : FS := (sSeq (sAsg (eL (fComp 1000000 (fRange1 (eVar 4)) [13] (gN 13) fYes (eL (fComp 1000000 (fRange1 (eVar 4)) [11] (gN 11) fYes (eCall F__law_step (aCons (eVar 0) (aCons (eVar 1) (aCons (eVar 2) (aCons (eVar 13) (aCons (eVar 11) aNil)))))))))) (gN 5)) f__law_prices_7)
def t__law_prices_8 (K : PySem.W.Frag) : TS := (tSeq (tAsg (tLc (iRng1 (tCons (tVar 4) tNil)) (gName 13) tYes (tLc (iRng1 (tCons (tVar 4) tNil)) (gName 11) tYes (tCallG (spD K 0 F__law_step) (tCons (tVar 0) (tCons (tVar 1) (tCons (tVar 2) (tCons (tVar 13) (tCons (tVar 11) tNil)))))) [11]) [13]) (gName 5)) (t__law_prices_7 K))
theorem s__law_prices_8 (K : PySem.W.Frag) : SndS K (t__law_prices_8 K) 0 f__law_prices_8 := by
  unfold f__law_prices_8
  exact (snds_seq (snds_asg (vs := [5]) (SndL.d (sndl_comp (N := 1000000) (by decide) (sndi_range1 snd_var) (sndg_name (by decide)) sndt_yes (SndL.d (sndl_comp (N := 1000000) (by decide) (sndi_range1 snd_var) (sndg_name (by decide)) sndt_yes (snd_call (m__law_step K) (snda_cons snd_var (snda_cons snd_var (snda_cons snd_var (snda_cons snd_var (snda_cons snd_var snda_nil)))))))))) (sndg_name (by decide))) (s__law_prices_7 K))
def f__law_prices : FS := (sSeq (sAsg (eCall F__law_gates (aCons (eVar 0) aNil)) (gN 4)) f__law_prices_8)
@[irreducible] def F__law_prices : FF := mkF 4 16 f__law_prices
def t__law_prices (K : PySem.W.Frag) : TS := (tSeq (tAsg (tCallG (spD K 0 F__law_gates) (tCons (tVar 0) tNil)) (gName 4)) (t__law_prices_8 K))
theorem s__law_prices (K : PySem.W.Frag) : SndS K (t__law_prices K) 0 f__law_prices := (snds_seq (snds_asg (vs := [4]) (snd_call (m__law_gates K) (snda_cons snd_var snda_nil)) (sndg_name (by decide))) (s__law_prices_8 K))
theorem m__law_prices (K : PySem.W.Frag) : MonoF F__law_prices := by
  unfold F__law_prices
  exact mkF_mono (s__law_prices K)
end Ke
namespace Ke
open PySem PySem.Spec PyProof.Rows L2 Xg Dv Kd
def f__law_least : FS := (sRet (eCB minD (dCons (eL (fComp 1000000 (fZip (eVar 0) (eVar 1)) [2, 3] (gT (gsCons (gN 2) (gsCons (gN 3) gsNil))) (fTest (eBin gIsNot (eVar 2) (eC .none))) (eBin gAdd (eVar 2) (eVar 3)))) dNil)))
@[irreducible] def F__law_least : FF := mkF 2 4 f__law_least
def t__law_least (K : PySem.W.Frag) : TS := (tRet (tCB (rMin K) (tCons (tLc (Pw.iZipX K (tCons (tVar 0) (tCons (tVar 1) tNil))) (fun v σ H Q => gTup K 2 (gCons (gName 2) (gCons (gName 3) gNil)) v σ H Q ∨ gLst K 2 (gCons (gName 2) (gCons (gName 3) gNil)) v σ H Q) (tTest (tOp (fun x y H Q => y = .non ∧ Q (.bl (!decide (x = .non))) H) (tVar 2) (tC .non))) (tOp (rAdd K) (tVar 2) (tVar 3)) [2, 3]) tNil)))
theorem s__law_least (K : PySem.W.Frag) : SndS K (t__law_least K) 0 f__law_least := (snds_ret (snd_cb cs_min (sndd_cons (SndL.d (sndl_comp (N := 1000000) (by decide) (sndi_zip (Snd.v snd_var) (Snd.v snd_var)) (sndg_tup (sndgs_cons (sndg_name (by decide)) (sndgs_cons (sndg_name (by decide)) sndgs_nil)) (gs_lenS gN_some (gs_lenS gN_some gs_len0))) (sndt_test (snd_op ops_isnot snd_var snd_non)) (snd_op ops_add snd_var snd_var))) sndd_nil)))
theorem m__law_least (K : PySem.W.Frag) : MonoF F__law_least := by
  unfold F__law_least
  exact mkF_mono (s__law_least K)
end Ke
namespace Ke
open PySem PySem.Spec PyProof.Rows L2 Xg Dv Kd
def f__law_most : FS := (sRet (eCB maxD (dCons (eL (fComp 1000000 (fZip (eVar 0) (eVar 1)) [2, 3] (gT (gsCons (gN 2) (gsCons (gN 3) gsNil))) (fTest (eBin gIsNot (eVar 2) (eC .none))) (eBin (gI fun i j => i - j) (eVar 3) (eVar 2)))) dNil)))
@[irreducible] def F__law_most : FF := mkF 2 4 f__law_most
def t__law_most (K : PySem.W.Frag) : TS := (tRet (tCB (rMax K) (tCons (tLc (Pw.iZipX K (tCons (tVar 0) (tCons (tVar 1) tNil))) (fun v σ H Q => gTup K 2 (gCons (gName 2) (gCons (gName 3) gNil)) v σ H Q ∨ gLst K 2 (gCons (gName 2) (gCons (gName 3) gNil)) v σ H Q) (tTest (tOp (fun x y H Q => y = .non ∧ Q (.bl (!decide (x = .non))) H) (tVar 2) (tC .non))) (tOp (rI0 fun i j => .int (i - j)) (tVar 3) (tVar 2)) [2, 3]) tNil)))
theorem s__law_most (K : PySem.W.Frag) : SndS K (t__law_most K) 0 f__law_most := (snds_ret (snd_cb cs_max (sndd_cons (SndL.d (sndl_comp (N := 1000000) (by decide) (sndi_zip (Snd.v snd_var) (Snd.v snd_var)) (sndg_tup (sndgs_cons (sndg_name (by decide)) (sndgs_cons (sndg_name (by decide)) sndgs_nil)) (gs_lenS gN_some (gs_lenS gN_some gs_len0))) (sndt_test (snd_op ops_isnot snd_var snd_non)) (snd_op ops_I snd_var snd_var))) sndd_nil)))
theorem m__law_most (K : PySem.W.Frag) : MonoF F__law_most := by
  unfold F__law_most
  exact mkF_mono (s__law_most K)
end Ke
namespace Ke
open PySem PySem.Spec PyProof.Rows L2 Xg Dv Kd
@[irreducible] def F_Table : FF := fInit (eTup (dCons (eTup (dCons (eVar 5) (dCons (eUn tupD (eVar 6)) dNil))) (dCons (eUn tupD (eVar 2)) (dCons (eUn tupD (eVar 3)) dNil)))) (eCall F_grid_of (aCons (eVar 1) (aCons (eVar 2) (aCons (eVar 3) (aCons (eVar 4) aNil)))))
def tM_Table (K : PySem.W.Frag) : TE := (tTup (tCons (tTup (tCons (tVar 5) (tCons (tThen (tVar 6) (kTup K)) tNil))) (tCons (tThen (tVar 2) (kTup K)) (tCons (tThen (tVar 3) (kTup K)) tNil))))
def tG_Table (K : PySem.W.Frag) : TE := (tCallG (spD K 0 F_grid_of) (tCons (tVar 1) (tCons (tVar 2) (tCons (tVar 3) (tCons (tVar 4) tNil)))))
theorem sM_Table (K : PySem.W.Frag) : Snd true K (tM_Table K) 0 (eTup (dCons (eTup (dCons (eVar 5) (dCons (eUn tupD (eVar 6)) dNil))) (dCons (eUn tupD (eVar 2)) (dCons (eUn tupD (eVar 3)) dNil)))) := (snd_tup (sndd_cons (snd_tup (sndd_cons snd_var (sndd_cons (snd_tupOf snd_var) sndd_nil)) (by decide)) (sndd_cons (snd_tupOf snd_var) (sndd_cons (snd_tupOf snd_var) sndd_nil))) (by decide))
theorem sG_Table (K : PySem.W.Frag) : Snd true K (tG_Table K) 0 (eCall F_grid_of (aCons (eVar 1) (aCons (eVar 2) (aCons (eVar 3) (aCons (eVar 4) aNil))))) := (snd_call (m_grid_of K) (snda_cons snd_var (snda_cons snd_var (snda_cons snd_var (snda_cons snd_var snda_nil)))))
theorem m_Table (K : PySem.W.Frag) : MonoF F_Table := by
  unfold F_Table
  exact m_init (sM_Table K) (sG_Table K)
end Ke
namespace Ke
open PySem PySem.Spec PyProof.Rows L2 Xg Dv Kd
@[irreducible] def FI_Table : FNI := fInitN (eTup (dCons (eTup (dCons (eVar 5) (dCons (eUn tupD (eVar 6)) dNil))) (dCons (eUn tupD (eVar 2)) (dCons (eUn tupD (eVar 3)) dNil)))) (lCallN N_grid_of (aCons (eVar 1) (aCons (eVar 2) (aCons (eVar 3) (aCons (eVar 4) aNil)))))
def tN_Table (K : PySem.W.Frag) : TE := (tCallG (spN K 0 N_grid_of) (tCons (tVar 1) (tCons (tVar 2) (tCons (tVar 3) (tCons (tVar 4) tNil)))))
theorem sN_Table (K : PySem.W.Frag) : SndLN K (tN_Table K) 0 (lCallN N_grid_of (aCons (eVar 1) (aCons (eVar 2) (aCons (eVar 3) (aCons (eVar 4) aNil))))) := (sndln_call (mN_grid_of K) (snda_cons snd_var (snda_cons snd_var (snda_cons snd_var (snda_cons snd_var snda_nil)))))
theorem mI_Table (K : PySem.W.Frag) : MonoI FI_Table := by
  unfold FI_Table
  exact m_initN (sM_Table K) (sN_Table K)
end Ke
namespace Ke
open PySem PySem.Spec PyProof.Rows L2 Xg Dv Kd
def f_Table_price : FS := (sRet (eBin gIx (eBin gIx (eFldG 0) (eVar 1)) (eVar 2)))
@[irreducible] def F_Table_price : FF := mkF 3 3 f_Table_price
def t_Table_price (K : PySem.W.Frag) : TS := (tRet (tOp (rIx K) (tOp (rIx K) (tFld K (tVar 0) "grid") (tVar 1)) (tVar 2)))
theorem s_Table_price (K : PySem.W.Frag) : SndS K (t_Table_price K) 0 f_Table_price := (snds_ret (snd_op ops_ix (snd_op ops_ix snd_fldG snd_var) snd_var))
theorem m_Table_price (K : PySem.W.Frag) : MonoF F_Table_price := by
  unfold F_Table_price
  exact mkF_mono (s_Table_price K)
end Ke
namespace Ke
open PySem PySem.Spec PyProof.Rows L2 Xg Dv Kd
def f_Table_steps : FS := (sRet (eFldN 0))
@[irreducible] def F_Table_steps : FF := mkF 1 1 f_Table_steps
def t_Table_steps (K : PySem.W.Frag) : TS := (tRet (tFld K (tVar 0) "many"))
theorem s_Table_steps (K : PySem.W.Frag) : SndS K (t_Table_steps K) 0 f_Table_steps := (snds_ret snd_fldN)
theorem m_Table_steps (K : PySem.W.Frag) : MonoF F_Table_steps := by
  unfold F_Table_steps
  exact mkF_mono (s_Table_steps K)
end Ke
namespace Ke
open PySem PySem.Spec PyProof.Rows L2 Xg Dv Kd
def f_Table_led : FS := (sRet (eUn tupD (eCall F_led_by (aCons (eFldG 0) (aCons (eVar 1) aNil)))))
@[irreducible] def F_Table_led : FF := mkF 2 2 f_Table_led
def t_Table_led (K : PySem.W.Frag) : TS := (tRet (tThen (tCallG (spD K 0 F_led_by) (tCons (tFld K (tVar 0) "grid") (tCons (tVar 1) tNil))) (kTup K)))
theorem s_Table_led (K : PySem.W.Frag) : SndS K (t_Table_led K) 0 f_Table_led := (snds_ret (snd_tupOf (snd_call (m_led_by K) (snda_cons snd_fldG (snda_cons snd_var snda_nil)))))
theorem m_Table_led (K : PySem.W.Frag) : MonoF F_Table_led := by
  unfold F_Table_led
  exact mkF_mono (s_Table_led K)
end Ke
namespace Ke
open PySem PySem.Spec PyProof.Rows L2 Xg Dv Kd
def f_Table_counts : FS := (sRet (eMeth 0 F_Table_led (aCons (eBin gMul (eLst (dCons (eC (.int 0)) dNil)) (eCB (g1 lenD) (dCons (eFldG 0) dNil))) aNil)))
@[irreducible] def F_Table_counts : FF := mkF 1 1 f_Table_counts
def t_Table_counts (K : PySem.W.Frag) : TS := (tRet (tMethT K "led" (spD K 0 F_Table_led) (tVar 0) (tCons (tOp (rMul K) (tLst (tCons (tC (.int 0)) tNil)) (tCB (fun xs H Q => ∃ x n, xs = [x] ∧ LenV K x H n ∧ Q (.int n) H) (tCons (tFld K (tVar 0) "grid") tNil))) tNil)))
theorem s_Table_counts (K : PySem.W.Frag) : SndS K (t_Table_counts K) 0 f_Table_counts := (snds_ret (snd_meth (fun _ _ _ => rfl) (m_Table_led K) (snda_cons (snd_op ops_mul (SndL.d (sndl_lst (sndd_cons snd_int sndd_nil) (by decide))) (snd_cb cs_len (sndd_cons snd_fldG sndd_nil))) snda_nil)))
theorem m_Table_counts (K : PySem.W.Frag) : MonoF F_Table_counts := by
  unfold F_Table_counts
  exact mkF_mono (s_Table_counts K)
end Ke
namespace Ke
open PySem PySem.Spec PyProof.Rows L2 Xg Dv Kd
def f_Table_led_back : FS := (sRet (eUn tupD (eCall F_led_back_by (aCons (eFldG 0) (aCons (eVar 1) aNil)))))
@[irreducible] def F_Table_led_back : FF := mkF 2 2 f_Table_led_back
def t_Table_led_back (K : PySem.W.Frag) : TS := (tRet (tThen (tCallG (spD K 0 F_led_back_by) (tCons (tFld K (tVar 0) "grid") (tCons (tVar 1) tNil))) (kTup K)))
theorem s_Table_led_back (K : PySem.W.Frag) : SndS K (t_Table_led_back K) 0 f_Table_led_back := (snds_ret (snd_tupOf (snd_call (m_led_back_by K) (snda_cons snd_fldG (snda_cons snd_var snda_nil)))))
theorem m_Table_led_back (K : PySem.W.Frag) : MonoF F_Table_led_back := by
  unfold F_Table_led_back
  exact mkF_mono (s_Table_led_back K)
end Ke
namespace Ke
open PySem PySem.Spec PyProof.Rows L2 Xg Dv Kd
@[irreducible] def f__law_right_0 : FS := (sIf (fNot (fTest (eCallF F_same (dCons (eLst (dCons (eMeth 11 F_Table_counts aNil) (dCons (eMeth 11 F_Table_led (aCons (eVar 9) aNil)) (dCons (eMethR 11 1 F_Table_led_back (aCons (eUn tupD (eVar 9)) aNil)) dNil)))) (dCons (eVarV 13) dNil))))) (sRet (eC (.bool false))) sSkip)
def t__law_right_0 (K : PySem.W.Frag) : TS := (tIfS (tNot (tB (tCallG (spD K 0 F_same) (tCons (tLst (tCons (tMethT K "counts" (spD K 0 F_Table_counts) (tVar 11) tNil) (tCons (tMethT K "led" (spD K 0 F_Table_led) (tVar 11) (tCons (tVar 9) tNil)) (tCons (tMethTR K "led_back" 1 (spD K 0 F_Table_led_back) (tVar 11) (tCons (tThen (tVar 9) (kTup K)) tNil)) tNil)))) (tCons (tVar 13) tNil))))) (tRet (tC (.bl false))) tNext)
theorem s__law_right_0 (K : PySem.W.Frag) : SndS K (t__law_right_0 K) 0 f__law_right_0 := by
  unfold f__law_right_0
  exact (snds_if (sndt_not (sndt_B (snd_callF m_same (sndd_cons (Snd.v (SndL.d (sndl_lst (sndd_cons (snd_meth (fun _ _ _ => rfl) (m_Table_counts K) snda_nil) (sndd_cons (snd_meth (fun _ _ _ => rfl) (m_Table_led K) (snda_cons snd_var snda_nil)) (sndd_cons (snd_methR (fun _ _ _ => rfl) (m_Table_led_back K) (snda_cons (snd_tupOf snd_var) snda_nil)) sndd_nil))) (by decide)))) (sndd_cons sndV_var sndd_nil))))) (snds_ret snd_bl) snds_nil)
@[irreducible] def f__law_right_1 : FS := (sSeq (sApp 13 (eUn tupD (eL (fComp 1000000 (fRange1 (eVar 6)) [14] (gN 14) fYes (eCall F__law_most (aCons (eL (fComp 1000000 (fIt (eVar 7)) [18] (gN 18) fYes (eBin gIx (eVar 18) (eVar 14)))) (aCons (eVar 9) aNil))))))) f__law_right_0)
def t__law_right_1 (K : PySem.W.Frag) : TS := (tSeq (tDrop (tBM K "list" rAppend (tVar 13) (tCons (tThen (tLc (iRng1 (tCons (tVar 6) tNil)) (gName 14) tYes (tCallG (spD K 0 F__law_most) (tCons (tLc (Pw.iSeq K (tVar 7)) (gName 18) tYes (tOp (rIx K) (tVar 18) (tVar 14)) [18]) (tCons (tVar 9) tNil))) [14]) (kTup K)) tNil))) (t__law_right_0 K))
theorem s__law_right_1 (K : PySem.W.Frag) : SndS K (t__law_right_1 K) 0 f__law_right_1 := by
  unfold f__law_right_1
  exact (snds_seq (snds_app (snd_tupOf (SndL.d (sndl_comp (N := 1000000) (by decide) (sndi_range1 snd_var) (sndg_name (by decide)) sndt_yes (snd_call (m__law_most K) (snda_cons (SndL.d (sndl_comp (N := 1000000) (by decide) (sndi_seq (Snd.v snd_var)) (sndg_name (by decide)) sndt_yes (snd_op ops_ix snd_var snd_var))) (snda_cons snd_var snda_nil))))))) (s__law_right_0 K))
@[irreducible] def f__law_right_2 : FS := (sSeq (sOwn (fComp 1000000 (fIt (eTup (dCons (eBin gMul (eLst (dCons (eC (.int 0)) dNil)) (eVar 6)) (dCons (eVar 9) dNil)))) [16] (gN 16) fYes (eUn tupD (eL (fComp 1000000 (fIt (eVar 7)) [18] (gN 18) fYes (eCall F__law_least (aCons (eVar 18) (aCons (eVar 16) aNil))))))) 13) f__law_right_1)
def t__law_right_2 (K : PySem.W.Frag) : TS := (tSeq (tAsg (tLc (Pw.iSeq K (tTup (tCons (tOp (rMul K) (tLst (tCons (tC (.int 0)) tNil)) (tVar 6)) (tCons (tVar 9) tNil)))) (gName 16) tYes (tThen (tLc (Pw.iSeq K (tVar 7)) (gName 18) tYes (tCallG (spD K 0 F__law_least) (tCons (tVar 18) (tCons (tVar 16) tNil))) [18]) (kTup K)) [16]) (gName 13)) (t__law_right_1 K))
theorem s__law_right_2 (K : PySem.W.Frag) : SndS K (t__law_right_2 K) 0 f__law_right_2 := by
  unfold f__law_right_2
  exact (snds_seq (snds_own (sndl_comp (N := 1000000) (by decide) (sndi_seq (Snd.v (snd_tup (sndd_cons (snd_op ops_mul (SndL.d (sndl_lst (sndd_cons snd_int sndd_nil) (by decide))) snd_var) (sndd_cons snd_var sndd_nil)) (by decide)))) (sndg_name (by decide)) sndt_yes (snd_tupOf (SndL.d (sndl_comp (N := 1000000) (by decide) (sndi_seq (Snd.v snd_var)) (sndg_name (by decide)) sndt_yes (snd_call (m__law_least K) (snda_cons snd_var (snda_cons snd_var snda_nil)))))))) (s__law_right_1 K))
@[irreducible] def f__law_right_3 : FS := (sSeq (sIf (fNot (fTest (eCall F_same (aCons (eVar 12) (aCons (eBin gAdd (eVar 7) (eLst (dCons (eVar 5) (dCons (eBin gIx (eBin gIx (eVar 7) (eBin (gI fun i j => i - j) (eVar 6) (eC (.int 1)))) (eC (.int 0))) dNil)))) aNil))))) (sRet (eC (.bool false))) sSkip) f__law_right_2)
def t__law_right_3 (K : PySem.W.Frag) : TS := (tSeq (tIfS (tNot (tB (tCallG (spD K 0 F_same) (tCons (tVar 12) (tCons (tOp (rAdd K) (tVar 7) (tLst (tCons (tVar 5) (tCons (tOp (rIx K) (tOp (rIx K) (tVar 7) (tOp (rI0 fun i j => .int (i - j)) (tVar 6) (tC (.int 1)))) (tC (.int 0))) tNil)))) tNil))))) (tRet (tC (.bl false))) tNext) (t__law_right_2 K))
theorem s__law_right_3 (K : PySem.W.Frag) : SndS K (t__law_right_3 K) 0 f__law_right_3 := by
  unfold f__law_right_3
  exact (snds_seq (snds_if (sndt_not (sndt_B (snd_call m_same (snda_cons snd_var (snda_cons (snd_op ops_add snd_var (SndL.d (sndl_lst (sndd_cons snd_var (sndd_cons (snd_op ops_ix (snd_op ops_ix snd_var (snd_op ops_I snd_var snd_int)) snd_int) sndd_nil)) (by decide)))) snda_nil))))) (snds_ret snd_bl) snds_nil) (s__law_right_2 K))
@[irreducible] def f__law_right_4 : FS := (sSeq (sAsg (eBin gAdd (eVar 12) (eLst (dCons (eMeth 11 F_Table_steps aNil) (dCons (eMethR 11 2 F_Table_price (aCons (eC (.int 0)) (aCons (eBin (gI fun i j => i - j) (eVar 6) (eC (.int 1))) aNil))) dNil)))) (gN 12)) f__law_right_3)
def t__law_right_4 (K : PySem.W.Frag) : TS := (tSeq (tAsg (tOp (rAdd K) (tVar 12) (tLst (tCons (tMethT K "steps" (spD K 0 F_Table_steps) (tVar 11) tNil) (tCons (tMethTR K "price" 2 (spD K 0 F_Table_price) (tVar 11) (tCons (tC (.int 0)) (tCons (tOp (rI0 fun i j => .int (i - j)) (tVar 6) (tC (.int 1))) tNil))) tNil)))) (gName 12)) (t__law_right_3 K))
theorem s__law_right_4 (K : PySem.W.Frag) : SndS K (t__law_right_4 K) 0 f__law_right_4 := by
  unfold f__law_right_4
  exact (snds_seq (snds_asg (vs := [12]) (snd_op ops_add snd_var (SndL.d (sndl_lst (sndd_cons (snd_meth (fun _ _ _ => rfl) (m_Table_steps K) snda_nil) (sndd_cons (snd_methR (fun _ _ _ => rfl) (m_Table_price K) (snda_cons snd_int (snda_cons (snd_op ops_I snd_var snd_int) snda_nil))) sndd_nil)) (by decide)))) (sndg_name (by decide))) (s__law_right_3 K))
@[irreducible] def f__law_right_5 : FS := (sBoth 8 9 10 11 (eBin gIx (eVar 2) (eC (.int 0))) (fListOf (eBin gIx (eVar 2) (eC (.int 1)))) (fListOf (eVar 3)) (fListOf (eVar 4)) (eL (fComp 100 (fRange1 (eVar 6)) [14] (gN 14) fYes (eBin (gI fun i j => i - j) (eCall F_take (aBox 0 (aCons (eC (.int 41)) aNil))) (eC (.int 20))))) (aCons (eBin gIx (eVar 8) (eC (.int 0))) (aCons (eBin gIx (eVar 8) (eC (.int 1))) (aCons (eBin gIx (eVar 8) (eC (.int 2))) (aCons (eVar 5) aNil)))) FI_Table (aCons (eVar 5) (aCons (eVar 4) (aCons (eVar 3) (aCons (eVar 2) aNil)))) F_Table (sSeq (sAsg (eL (fComp 1000000 (fRange1 (eVar 6)) [15] (gN 15) fYes (eL (fComp 1000000 (fRange1 (eVar 6)) [17] (gN 17) fYes (eMeth 11 F_Table_price (aCons (eVar 15) (aCons (eVar 17) aNil))))))) (gN 12)) f__law_right_4))
def t__law_right_5 (K : PySem.W.Frag) : TS := (tSeq (tAsg (tLst (tCons (tLst (tCons (tOp (rIx K) (tVar 2) (tC (.int 0))) (tCons (tCB (fun xs H Q => ∃ p ys, xs = [.ref p] ∧ (SqL K H p ys ∨ SqT K H p ys) ∧ ∀ l, H l = none → Q (.ref l) (upd H l (.lst ys))) (tCons (tOp (rIx K) (tVar 2) (tC (.int 1))) tNil)) tNil))) (tCons (tCB (fun xs H Q => ∃ p ys, xs = [.ref p] ∧ (SqL K H p ys ∨ SqT K H p ys) ∧ ∀ l, H l = none → Q (.ref l) (upd H l (.lst ys))) (tCons (tVar 3) tNil)) (tCons (tCB (fun xs H Q => ∃ p ys, xs = [.ref p] ∧ (SqL K H p ys ∨ SqT K H p ys) ∧ ∀ l, H l = none → Q (.ref l) (upd H l (.lst ys))) (tCons (tVar 4) tNil)) tNil)))) (gName 8)) (tSeq (tAsg (tLc (iRng1 (tCons (tVar 6) tNil)) (gName 14) tYes (tOp (rI0 fun i j => .int (i - j)) (tCallG (spD K 1 F_take) (tCons (tVar 0) (tCons (tC (.int 41)) tNil))) (tC (.int 20))) [14]) (gName 9)) (tSeq (tAsg (tLst (tCons (tMakeT K (spIN K 0 FI_Table) (tCons (tOp (rIx K) (tVar 8) (tC (.int 0))) (tCons (tOp (rIx K) (tVar 8) (tC (.int 1))) (tCons (tOp (rIx K) (tVar 8) (tC (.int 2))) (tCons (tVar 5) tNil))))) (tCons (tMakeTK K 4 (spI K 0 F_Table) (tCons (tVar 5) (tCons (tVar 4) (tCons (tVar 3) (tCons (tVar 2) tNil))))) tNil))) (gName 10)) (tSeq (tApp5 K 5 (tOp (rIx K) (tOp (rIx K) (tVar 8) (tC (.int ((0 : Nat) : Int)))) (tC (.int ((1 : Nat) : Int))))) (tSeq (tApp5 K 5 (tOp (rIx K) (tVar 8) (tC (.int ((1 : Nat) : Int))))) (tSeq (tApp5 K 5 (tOp (rIx K) (tVar 8) (tC (.int ((2 : Nat) : Int))))) (tFor (Pw.iSeq K (tVar 10)) (gName 11) (tSeq (tAsg (tLc (iRng1 (tCons (tVar 6) tNil)) (gName 15) tYes (tLc (iRng1 (tCons (tVar 6) tNil)) (gName 17) tYes (tMethT K "price" (spD K 0 F_Table_price) (tVar 11) (tCons (tVar 15) (tCons (tVar 17) tNil))) [17]) [15]) (gName 12)) (t__law_right_4 K)))))))))
theorem s__law_right_5 (K : PySem.W.Frag) : SndS K (t__law_right_5 K) 100 f__law_right_5 := by
  unfold f__law_right_5
  exact (snds_both (snd_op ops_ix snd_var snd_int) (sndl_listOf (snd_op ops_ix snd_var snd_int)) (sndl_listOf snd_var) (sndl_listOf snd_var) (SndL.d (sndl_comp (N := 100) (by decide) (sndi_range1 snd_var) (sndg_name (by decide)) sndt_yes (snd_op ops_I (snd_call m_take (snda_box (snda_cons snd_int snda_nil))) snd_int))) (snda_cons (snd_op ops_ix snd_var snd_int) (snda_cons (snd_op ops_ix snd_var snd_int) (snda_cons (snd_op ops_ix snd_var snd_int) (snda_cons snd_var snda_nil)))) (mI_Table K) (snda_cons snd_var (snda_cons snd_var (snda_cons snd_var (snda_cons snd_var snda_nil)))) (m_Table K) (snds_seq (snds_asg (vs := [12]) (SndL.d (sndl_comp (N := 1000000) (by decide) (sndi_range1 snd_var) (sndg_name (by decide)) sndt_yes (SndL.d (sndl_comp (N := 1000000) (by decide) (sndi_range1 snd_var) (sndg_name (by decide)) sndt_yes (snd_meth (fun _ _ _ => rfl) (m_Table_price K) (snda_cons snd_var (snda_cons snd_var snda_nil))))))) (sndg_name (by decide))) (s__law_right_4 K)) (by decide) (by decide) (by decide))
@[irreducible] def f__law_right_6 : FS := (sSeq (sAsg (eCall F__law_prices (aCons (eVar 2) (aCons (eVar 3) (aCons (eVar 4) (aCons (eVar 5) aNil))))) (gN 7)) f__law_right_5)
def t__law_right_6 (K : PySem.W.Frag) : TS := (tSeq (tAsg (tCallG (spD K 0 F__law_prices) (tCons (tVar 2) (tCons (tVar 3) (tCons (tVar 4) (tCons (tVar 5) tNil))))) (gName 7)) (t__law_right_5 K))
theorem s__law_right_6 (K : PySem.W.Frag) : SndS K (t__law_right_6 K) 100 f__law_right_6 := by
  unfold f__law_right_6
  exact (snds_seq (snds_asg (vs := [7]) (snd_call (m__law_prices K) (snda_cons snd_var (snda_cons snd_var (snda_cons snd_var (snda_cons snd_var snda_nil))))) (sndg_name (by decide))) (s__law_right_5 K))
@[irreducible] def f__law_right_7 : FS := (sSeq (sAsg (eCall F__law_gates (aCons (eVar 2) aNil)) (gN 6)) f__law_right_6)
def t__law_right_7 (K : PySem.W.Frag) : TS := (tSeq (tAsg (tCallG (spD K 0 F__law_gates) (tCons (tVar 2) tNil)) (gName 6)) (t__law_right_6 K))
theorem s__law_right_7 (K : PySem.W.Frag) : SndS K (t__law_right_7 K) 100 f__law_right_7 := by
  unfold f__law_right_7
  exact (snds_seq (snds_asg (vs := [6]) (snd_call (m__law_gates K) (snda_cons snd_var snda_nil)) (sndg_name (by decide))) (s__law_right_6 K))
@[irreducible] def f__law_right_8 : FS := (sSeq (sPar3 3 4 5 (eCall F__law_widths (aBox 0 (aCons (eVar 2) (aCons (eC (.int 4)) aNil)))) (eCall F__law_lot (aBox 0 (aCons (eVar 2) aNil))) (eCall F_take (aBox 0 (aCons (eC (.int 21)) aNil)))) f__law_right_7)
def t__law_right_8 (K : PySem.W.Frag) : TS := (tSeq (tPar3 3 4 5 (tCons (tCallG (spD K 202 F__law_widths) (tCons (tVar 0) (tCons (tVar 2) (tCons (tC (.int 4)) tNil)))) (tCons (tCallG (spD K 201 F__law_lot) (tCons (tVar 0) (tCons (tVar 2) tNil))) (tCons (tCallG (spD K 1 F_take) (tCons (tVar 0) (tCons (tC (.int 21)) tNil))) tNil)))) (t__law_right_7 K))
theorem s__law_right_8 (K : PySem.W.Frag) : SndS K (t__law_right_8 K) 504 f__law_right_8 := by
  unfold f__law_right_8
  exact (snds_seq (snds_par3 (snd_call (m__law_widths K) (snda_box (snda_cons snd_var (snda_cons snd_int snda_nil)))) (snd_call (m__law_lot K) (snda_box (snda_cons snd_var snda_nil))) (snd_call m_take (snda_box (snda_cons snd_int snda_nil)))) (s__law_right_7 K))
@[irreducible] def f__law_right_9 : FS := (sRet (eC (.bool true)))
def t__law_right_9 (K : PySem.W.Frag) : TS := (tRet (tC (.bl true)))
theorem s__law_right_9 (K : PySem.W.Frag) : SndS K (t__law_right_9 K) 0 f__law_right_9 := by
  unfold f__law_right_9
  exact (snds_ret snd_bl)
def f__law_right : FS := (sSeq (sFor 3 (fRange1 (eC (.int 3))) (gN 1) (sSeq (sAsg (eCall F__law_line (aBox 0 (aCons (eC (.int 5)) (aCons (eBin gIx (eLst (dCons (eC (.int 4)) (dCons (eBin (gIc CPow fun i j => i ^ j.toNat) (eC (.int 10)) (eC (.int 9))) dNil))) (eCall F_take (aBox 0 (aCons (eC (.int 2)) aNil)))) aNil)))) (gN 2)) f__law_right_8)) f__law_right_9)
@[irreducible] def F__law_right : FF := mkF 1 19 f__law_right
def t__law_right (K : PySem.W.Frag) : TS := (tSeq (tFor (iRng1 (tCons (tC (.int 3)) tNil)) (gName 1) (tSeq (tAsg (tCallG (spD K 103 F__law_line) (tCons (tVar 0) (tCons (tC (.int 5)) (tCons (tOp (rIx K) (tLst (tCons (tC (.int 4)) (tCons (tOp (rI CPow fun i j => .int (i ^ j.toNat)) (tC (.int 10)) (tC (.int 9))) tNil))) (tCallG (spD K 1 F_take) (tCons (tVar 0) (tCons (tC (.int 2)) tNil)))) tNil)))) (gName 2)) (t__law_right_8 K))) (t__law_right_9 K))
theorem s__law_right (K : PySem.W.Frag) : SndS K (t__law_right K) 1824 f__law_right := (snds_seq (snds_for (vs := [1]) (N := 3) (sndi_range1 snd_int) (sndg_name (by decide)) (snds_seq (snds_asg (vs := [2]) (snd_call (m__law_line K) (snda_box (snda_cons snd_int (snda_cons (snd_op ops_ix (SndL.d (sndl_lst (sndd_cons snd_int (sndd_cons (snd_op ops_Ic snd_int snd_int) sndd_nil)) (by decide))) (snd_call m_take (snda_box (snda_cons snd_int snda_nil)))) snda_nil)))) (sndg_name (by decide))) (s__law_right_8 K))) (s__law_right_9 K))
theorem m__law_right (K : PySem.W.Frag) : MonoF F__law_right := by
  unfold F__law_right
  exact mkF_mono (s__law_right K)
end Ke
namespace Ke
open PySem PySem.Spec PyProof.Rows L2 Xg Dv Kd
def f_law : FS := (sRet (eCB allD (dCons (eL (fComp 100 (fRange1 (eBin gAdd (eC (.int 1)) (eCB (g2 (gI fun i j => if j < i then j else i)) (dCons (eC (.int 3)) (dCons (eLenS 0) dNil))))) [1] (gN 1) fYes (eBoxC 0 (eVar 1) F__law_right))) dNil)))
@[irreducible] def F_law : FF := mkF 1 2 f_law
def t_law (K : PySem.W.Frag) : TS := (tRet (tCB (rAll K) (tCons (tLc (iRng1 (tCons (tOp (rAdd K) (tC (.int 1)) (tCB (fun xs H Q => ∃ i j, xs = [.int i, .int j] ∧ Q (.int (if j < i then j else i)) H) (tCons (tC (.int 3)) (tCons (tCB (fun xs H Q => ∃ x n, xs = [x] ∧ LenV K x H n ∧ Q (.int n) H) (tCons (tVar 0) tNil)) tNil)))) tNil)) (gName 1) tYes (tCallG (spD K 1824 F__law_right) (tCons (tCallG (spBx K) (tCons (tVar 0) (tCons (tVar 1) tNil))) tNil)) [1]) tNil)))
theorem s_law (K : PySem.W.Frag) : SndS K (t_law K) 182400 f_law := (snds_ret (snd_cb cs_all (sndd_cons (SndL.d (sndl_comp (N := 100) (by decide) (sndi_range1 (snd_op ops_add snd_int (snd_cb cs_min2 (sndd_cons snd_int (sndd_cons snd_lenS sndd_nil))))) (sndg_name (by decide)) sndt_yes (snd_boxC (m__law_right K) snd_var))) sndd_nil)))
theorem m_law (K : PySem.W.Frag) : MonoF F_law := by
  unfold F_law
  exact mkF_mono (s_law K)
end Ke
namespace Ke
open PySem PySem.Spec PyProof.Rows L2 Xg Dv Kd
structure Nm (mg : Str → Option Value) : Prop where
  abs : mg "abs" = none
  all : mg "all" = none
  bool : mg "bool" = none
  enumerate : mg "enumerate" = none
  int : mg "int" = none
  isinstance : mg "isinstance" = none
  len : mg "len" = none
  list : mg "list" = none
  max : mg "max" = none
  min : mg "min" = none
  range : mg "range" = none
  str : mg "str" = none
  tuple : mg "tuple" = none
  zip : mg "zip" = none
end Ke
namespace Ke
open PySem PySem.Spec PyProof.Rows L2 Xg Dv Kd
section
variable {P : Program} {w : World} {K : PySem.W.Frag} {mg : Str → Option Value} {base : Heap}
theorem sc_is_number : FnScope ["thing"] ["thing"] (defScope (topS 1)) := ⟨rfl, rfl, rfl, by decide +kernel, rfl, by decide +kernel, by decide +kernel⟩
theorem ok_is_number {f : Addr} {fd : FuncData} (F : Fun K "is_number" "is_number" (topS 1) f fd) (N : Nm mg) : FnG P w K mg base 1 f fd ["thing"] (spD K 0 F_is_number) := by
  unfold F_is_number
  exact okD F sc_is_number (s_is_number K) fun cdv A outer s H hG hr => (pss_one (ps_ret (pe_and (pe_callB call_isi (by rfl) N.isinstance (by decide +kernel) (pa_cons (pv 0) (pa_cons (pe_bltn (v := .ty "int") (by rfl) N.int (by decide +kernel) rfl) pa_nil))) (pe_one (pe_not (pe_callB call_isi (by rfl) N.isinstance (by decide +kernel) (pa_cons (pv 0) (pa_cons (pe_bltn (v := .ty "bool") (by rfl) N.bool (by decide +kernel) rfl) pa_nil))))))))
end
end Ke
namespace Ke
open PySem PySem.Spec PyProof.Rows L2 Xg Dv Kd
section
variable {P : Program} {w : World} {K : PySem.W.Frag} {mg : Str → Option Value} {base : Heap}
theorem sc_gates : FnScope ["line", "form", "rooms"] ["line"] (defScope (topS 5)) := ⟨rfl, rfl, rfl, by decide +kernel, rfl, by decide +kernel, by decide +kernel⟩
theorem ok_gates {f : Addr} {fd : FuncData} (F : Fun K "gates" "gates" (topS 5) f fd) (N : Nm mg) (c_ROW : ∃ u, mg "ROW" = some u ∧ L2.RelV (.str "row") u) : FnG P w K mg base 1 f fd ["line"] (spD K 0 F_gates) := by
  unfold F_gates
  exact okD F sc_gates (s_gates K) fun cdv A outer s H hG hr => (pss_cons (ps_asg (pv 0) (pg_or (pg_tup rfl (pgs_cons (pg_name (i := 1) sc_gates.nd rfl (by first | exact .inl rfl | exact .inr rfl)) (pgs_cons (pg_name (i := 2) sc_gates.nd rfl (by first | exact .inl rfl | exact .inr rfl)) pgs_nil))) (pg_lst rfl (pgs_cons (pg_name (i := 1) sc_gates.nd rfl (by first | exact .inl rfl | exact .inr rfl)) (pgs_cons (pg_name (i := 2) sc_gates.nd rfl (by first | exact .inl rfl | exact .inr rfl)) pgs_nil))))) (pss_one (ps_ret (pe_ifExp (pt_cmpR (op_eqX hr.units) (pv 1) (pe_con (v := .str "row") (by rfl) c_ROW) (nomark _)) (pe_op op_addX (pe_callB call_len (by rfl) N.len PySem.boot_len (pa_cons (pv 2) pa_nil)) pe_int) (pe_callB call_len (by rfl) N.len PySem.boot_len (pa_cons (pv 2) pa_nil))))))
end
end Ke
namespace Ke
open PySem PySem.Spec PyProof.Rows L2 Xg Dv Kd
section
variable {P : Program} {w : World} {K : PySem.W.Frag} {mg : Str → Option Value} {base : Heap}
theorem sc_gate_behind : FnScope ["line", "gate", "form", "rooms"] ["line", "gate"] (defScope (topS 12)) := ⟨rfl, rfl, rfl, by decide +kernel, rfl, by decide +kernel, by decide +kernel⟩
theorem ok_gate_behind {f : Addr} {fd : FuncData} (F : Fun K "gate_behind" "gate_behind" (topS 12) f fd) (N : Nm mg) (c_RING : ∃ u, mg "RING" = some u ∧ L2.RelV (.str "ring") u) : FnG P w K mg base 1 f fd ["line", "gate"] (spD K 0 F_gate_behind) := by
  unfold F_gate_behind
  exact okD F sc_gate_behind (s_gate_behind K) fun cdv A outer s H hG hr => (pss_cons (ps_asg (pv 0) (pg_or (pg_tup rfl (pgs_cons (pg_name (i := 2) sc_gate_behind.nd rfl (by first | exact .inl rfl | exact .inr rfl)) (pgs_cons (pg_name (i := 3) sc_gate_behind.nd rfl (by first | exact .inl rfl | exact .inr rfl)) pgs_nil))) (pg_lst rfl (pgs_cons (pg_name (i := 2) sc_gate_behind.nd rfl (by first | exact .inl rfl | exact .inr rfl)) (pgs_cons (pg_name (i := 3) sc_gate_behind.nd rfl (by first | exact .inl rfl | exact .inr rfl)) pgs_nil))))) (pss_one (ps_ret (pe_ifExp (pt_cmpR (op_eqX hr.units) (pv 2) (pe_con (v := .str "ring") (by rfl) c_RING) (nomark _)) (pe_op op_mod (pe_op op_sub (pv 1) pe_int) (pe_callB call_len (by rfl) N.len PySem.boot_len (pa_cons (pv 3) pa_nil))) (pe_op op_sub (pv 1) pe_int)))))
end
end Ke
namespace Ke
open PySem PySem.Spec PyProof.Rows L2 Xg Dv Kd
section
variable {P : Program} {w : World} {K : PySem.W.Frag} {mg : Str → Option Value} {base : Heap}
theorem sc_costs : FnScope ["line", "widths", "standing", "gate", "other", "form", "rooms", "found"] ["line", "widths", "standing", "gate", "other"] (defScope (topS 11)) := ⟨rfl, rfl, rfl, by decide +kernel, rfl, by decide +kernel, by decide +kernel⟩
theorem ok_costs {f : Addr} {fd : FuncData} (F : Fun K "costs" "costs" (topS 11) f fd) (N : Nm mg) (D_gate_behind : Df P w K mg base "gate_behind" ["line", "gate"] 1 (spD K 0 F_gate_behind)) : FnG P w K mg base 2 f fd ["line", "widths", "standing", "gate", "other"] (spD K 0 F_costs) := by
  unfold F_costs
  exact okD F sc_costs (s_costs K) fun cdv A outer s H hG hr => (pss_cons (ps_asg (pv 0) (pg_or (pg_tup rfl (pgs_cons (pg_name (i := 5) sc_costs.nd rfl (by first | exact .inl rfl | exact .inr rfl)) (pgs_cons (pg_name (i := 6) sc_costs.nd rfl (by first | exact .inl rfl | exact .inr rfl)) pgs_nil))) (pg_lst rfl (pgs_cons (pg_name (i := 5) sc_costs.nd rfl (by first | exact .inl rfl | exact .inr rfl)) (pgs_cons (pg_name (i := 6) sc_costs.nd rfl (by first | exact .inl rfl | exact .inr rfl)) pgs_nil))))) (pss_cons (ps_set (i := 7) sc_costs.nd rfl (by first | exact .inl rfl | exact .inr rfl) (pe_lst pa_nil)) (pss_cons (ps_if (L2.PW.pt (pw_and (pt_cmpR (op_eqX hr.units) (pv 3) (pv 4) (nomark _)) (pw_and1 (pt_cmpR op_notN (pe_ix ix_seq (pv 1) (pv 3) (fun _ _ => rfl)) pe_non (nomark _))))) (pss_one (ps_expr (pe_bm PySem.F.plainAttrs_list PySem.F.slot_list_append PySem.F.type_list_append mt_append (pv 7) (pa_cons (pe_ix ix_seq (pv 1) (pv 3) (fun _ _ => rfl)) pa_nil)))) pss_nil) (pss_cons (ps_if (pt_cmpR (op_eqX hr.units) (pv 4) (pe_df D_gate_behind hG (hr.mono (by decide)) (by rfl) (pa_cons (pv 0) (pa_cons (pv 3) pa_nil))) (nomark _)) (pss_one (ps_expr (pe_bm PySem.F.plainAttrs_list PySem.F.slot_list_append PySem.F.type_list_append mt_append (pv 7) (pa_cons (pe_ix ix_seq (pv 2) (pv 4) (fun _ _ => rfl)) pa_nil)))) pss_nil) (pss_cons (ps_if (pt_cmpR (op_eqX hr.units) (pv 3) (pe_df D_gate_behind hG (hr.mono (by decide)) (by rfl) (pa_cons (pv 0) (pa_cons (pv 4) pa_nil))) (nomark _)) (pss_one (ps_expr (pe_bm PySem.F.plainAttrs_list PySem.F.slot_list_append PySem.F.type_list_append mt_append (pv 7) (pa_cons (pe_op op_sub (pe_ix ix_seq (pv 6) (pv 3) (fun _ _ => rfl)) (pe_ix ix_seq (pv 2) (pv 3) (fun _ _ => rfl))) pa_nil)))) pss_nil) (pss_one (ps_ret (pv 7))))))))
theorem okL_costs {f : Addr} {fd : FuncData} (F : Fun K "costs" "costs" (topS 11) f fd) (N : Nm mg) (D_gate_behind : Df P w K mg base "gate_behind" ["line", "gate"] 1 (spD K 0 F_gate_behind)) : FnG P w K mg base 2 f fd ["line", "widths", "standing", "gate", "other"] (spL K 0 L_costs) := by
  unfold L_costs
  exact okL F sc_costs (s_costs K) fun cdv A outer s H hG hr => (pss_cons (ps_asg (pv 0) (pg_or (pg_tup rfl (pgs_cons (pg_name (i := 5) sc_costs.nd rfl (by first | exact .inl rfl | exact .inr rfl)) (pgs_cons (pg_name (i := 6) sc_costs.nd rfl (by first | exact .inl rfl | exact .inr rfl)) pgs_nil))) (pg_lst rfl (pgs_cons (pg_name (i := 5) sc_costs.nd rfl (by first | exact .inl rfl | exact .inr rfl)) (pgs_cons (pg_name (i := 6) sc_costs.nd rfl (by first | exact .inl rfl | exact .inr rfl)) pgs_nil))))) (pss_cons (ps_set (i := 7) sc_costs.nd rfl (by first | exact .inl rfl | exact .inr rfl) (pe_lst pa_nil)) (pss_cons (ps_if (L2.PW.pt (pw_and (pt_cmpR (op_eqX hr.units) (pv 3) (pv 4) (nomark _)) (pw_and1 (pt_cmpR op_notN (pe_ix ix_seq (pv 1) (pv 3) (fun _ _ => rfl)) pe_non (nomark _))))) (pss_one (ps_expr (pe_bm PySem.F.plainAttrs_list PySem.F.slot_list_append PySem.F.type_list_append mt_append (pv 7) (pa_cons (pe_ix ix_seq (pv 1) (pv 3) (fun _ _ => rfl)) pa_nil)))) pss_nil) (pss_cons (ps_if (pt_cmpR (op_eqX hr.units) (pv 4) (pe_df D_gate_behind hG (hr.mono (by decide)) (by rfl) (pa_cons (pv 0) (pa_cons (pv 3) pa_nil))) (nomark _)) (pss_one (ps_expr (pe_bm PySem.F.plainAttrs_list PySem.F.slot_list_append PySem.F.type_list_append mt_append (pv 7) (pa_cons (pe_ix ix_seq (pv 2) (pv 4) (fun _ _ => rfl)) pa_nil)))) pss_nil) (pss_cons (ps_if (pt_cmpR (op_eqX hr.units) (pv 3) (pe_df D_gate_behind hG (hr.mono (by decide)) (by rfl) (pa_cons (pv 0) (pa_cons (pv 4) pa_nil))) (nomark _)) (pss_one (ps_expr (pe_bm PySem.F.plainAttrs_list PySem.F.slot_list_append PySem.F.type_list_append mt_append (pv 7) (pa_cons (pe_op op_sub (pe_ix ix_seq (pv 6) (pv 3) (fun _ _ => rfl)) (pe_ix ix_seq (pv 2) (pv 3) (fun _ _ => rfl))) pa_nil)))) pss_nil) (pss_one (ps_ret (pv 7))))))))
end
end Ke
namespace Ke
open PySem PySem.Spec PyProof.Rows L2 Xg Dv Kd
section
variable {P : Program} {w : World} {K : PySem.W.Frag} {mg : Str → Option Value} {base : Heap}
theorem sc_is_gate : FnScope ["line", "thing"] ["line", "thing"] (defScope (topS 10)) := ⟨rfl, rfl, rfl, by decide +kernel, rfl, by decide +kernel, by decide +kernel⟩
theorem ok_is_gate {f : Addr} {fd : FuncData} (F : Fun K "is_gate" "is_gate" (topS 10) f fd) (N : Nm mg) (D_gates : Df P w K mg base "gates" ["line"] 1 (spD K 0 F_gates)) (D_is_number : Df P w K mg base "is_number" ["thing"] 1 (spD K 0 F_is_number)) : FnG P w K mg base 2 f fd ["line", "thing"] (spD K 0 F_is_gate) := by
  unfold F_is_gate
  exact okD F sc_is_gate (s_is_gate K) fun cdv A outer s H hG hr => (pss_one (ps_ret (pe_and (pe_df D_is_number hG (hr.mono (by decide)) (by rfl) (pa_cons (pv 1) pa_nil)) (pe_one (pe_chain op_le op_lt pe_int (pv 1) (pe_df D_gates hG (hr.mono (by decide)) (by rfl) (pa_cons (pv 0) pa_nil)))))))
end
end Ke
namespace Ke
open PySem PySem.Spec PyProof.Rows L2 Xg Dv Kd
section
variable {P : Program} {w : World} {K : PySem.W.Frag} {mg : Str → Option Value} {base : Heap}
theorem sc_cost : FnScope ["line", "widths", "standing", "gate", "other"] ["line", "widths", "standing", "gate", "other"] (defScope (topS 9)) := ⟨rfl, rfl, rfl, by decide +kernel, rfl, by decide +kernel, by decide +kernel⟩
theorem ok_cost {f : Addr} {fd : FuncData} (F : Fun K "cost" "cost" (topS 9) f fd) (N : Nm mg) (D_costs : Df P w K mg base "costs" ["line", "widths", "standing", "gate", "other"] 2 (spD K 0 F_costs)) (DL_costs : Df P w K mg base "costs" ["line", "widths", "standing", "gate", "other"] 2 (spL K 0 L_costs)) (D_is_gate : Df P w K mg base "is_gate" ["line", "thing"] 2 (spD K 0 F_is_gate)) : FnG P w K mg base 3 f fd ["line", "widths", "standing", "gate", "other"] (spD K 0 F_cost) := by
  unfold F_cost
  exact okD F sc_cost (s_cost K) fun cdv A outer s H hG hr => (pss_cons (ps_if (pt_not (L2.PW.pt (pw_and (pt_val (pe_df D_is_gate hG (hr.mono (by decide)) (by rfl) (pa_cons (pv 0) (pa_cons (pv 3) pa_nil)))) (pw_and1 (pt_val (pe_df D_is_gate hG (hr.mono (by decide)) (by rfl) (pa_cons (pv 0) (pa_cons (pv 4) pa_nil)))))))) (pss_one (ps_ret pe_non)) pss_nil) (pss_one (ps_ret (pe_callBK (cr_minD hr.units rfl) (by rfl) N.min (by decide +kernel) (pa_cons (pe_df D_costs hG (hr.mono (by decide)) (by rfl) (pa_cons (pv 0) (pa_cons (pv 1) (pa_cons (pv 2) (pa_cons (pv 3) (pa_cons (pv 4) pa_nil)))))) pa_nil) (pk_cons pe_non pk_nil)))))
end
end Ke
namespace Ke
open PySem PySem.Spec PyProof.Rows L2 Xg Dv Kd
section
variable {P : Program} {w : World} {K : PySem.W.Frag} {mg : Str → Option Value} {base : Heap}
theorem sc_grid_of_one : FnScope ["line", "widths", "standing", "many", "gate", "other"] ["line", "widths", "standing"] (defScope (topS 17)) := ⟨rfl, rfl, rfl, by decide +kernel, rfl, by decide +kernel, by decide +kernel⟩
theorem ok_grid_of_one {f : Addr} {fd : FuncData} (F : Fun K "grid_of_one" "grid_of_one" (topS 17) f fd) (N : Nm mg) (D_cost : Df P w K mg base "cost" ["line", "widths", "standing", "gate", "other"] 3 (spD K 0 F_cost)) (D_gates : Df P w K mg base "gates" ["line"] 1 (spD K 0 F_gates)) : FnG P w K mg base 4 f fd ["line", "widths", "standing"] (spD K 0 F_grid_of_one) := by
  unfold F_grid_of_one
  exact okD F sc_grid_of_one (s_grid_of_one K) fun cdv A outer s H hG hr => (pss_cons (ps_set (i := 3) sc_grid_of_one.nd rfl (by first | exact .inl rfl | exact .inr rfl) (pe_df D_gates hG (hr.mono (by decide)) (by rfl) (pa_cons (pv 0) pa_nil))) (pss_one (ps_ret (pe_lc (own := [("gate", 4)]) rfl sc_grid_of_one.nd (pi_range1 (by rfl) N.range (pa_cons (pv 3) pa_nil)) (blkOk_by (N := ["line", "widths", "standing", "many", "gate", "other"]) (sc := defScope (topS 17)) (by decide +kernel)) (fun _ _ _ _ _ => (pg_name (i := 4) sc_grid_of_one.nd rfl (by first | exact .inl rfl | exact .inr rfl))) (fun _ _ _ _ _ => pts_nil) (fun _ _ _ _ _ => (pe_lc (own := [("other", 5)]) rfl sc_grid_of_one.nd (pi_range1 (by rfl) N.range (pa_cons (pv 3) pa_nil)) (blkOk_by (N := ["line", "widths", "standing", "many", "gate", "other"]) (sc := relS _ (defScope (topS 17))) (by decide +kernel)) (fun _ _ _ _ _ => (pg_name (i := 5) sc_grid_of_one.nd rfl (by first | exact .inl rfl | exact .inr rfl))) (fun _ _ _ _ _ => pts_nil) (fun _ _ _ _ _ => (pe_df D_cost hG (hr.mono (by decide)) (by rfl) (pa_cons (pv 0) (pa_cons (pv 1) (pa_cons (pv 2) (pa_cons (pv 4) (pa_cons (pv 5) pa_nil)))))))))))))
theorem okL_grid_of_one {f : Addr} {fd : FuncData} (F : Fun K "grid_of_one" "grid_of_one" (topS 17) f fd) (N : Nm mg) (D_cost : Df P w K mg base "cost" ["line", "widths", "standing", "gate", "other"] 3 (spD K 0 F_cost)) (D_gates : Df P w K mg base "gates" ["line"] 1 (spD K 0 F_gates)) : FnG P w K mg base 4 f fd ["line", "widths", "standing"] (spL K 0 L_grid_of_one) := by
  unfold L_grid_of_one
  exact okL F sc_grid_of_one (s_grid_of_one K) fun cdv A outer s H hG hr => (pss_cons (ps_set (i := 3) sc_grid_of_one.nd rfl (by first | exact .inl rfl | exact .inr rfl) (pe_df D_gates hG (hr.mono (by decide)) (by rfl) (pa_cons (pv 0) pa_nil))) (pss_one (ps_ret (pe_lc (own := [("gate", 4)]) rfl sc_grid_of_one.nd (pi_range1 (by rfl) N.range (pa_cons (pv 3) pa_nil)) (blkOk_by (N := ["line", "widths", "standing", "many", "gate", "other"]) (sc := defScope (topS 17)) (by decide +kernel)) (fun _ _ _ _ _ => (pg_name (i := 4) sc_grid_of_one.nd rfl (by first | exact .inl rfl | exact .inr rfl))) (fun _ _ _ _ _ => pts_nil) (fun _ _ _ _ _ => (pe_lc (own := [("other", 5)]) rfl sc_grid_of_one.nd (pi_range1 (by rfl) N.range (pa_cons (pv 3) pa_nil)) (blkOk_by (N := ["line", "widths", "standing", "many", "gate", "other"]) (sc := relS _ (defScope (topS 17))) (by decide +kernel)) (fun _ _ _ _ _ => (pg_name (i := 5) sc_grid_of_one.nd rfl (by first | exact .inl rfl | exact .inr rfl))) (fun _ _ _ _ _ => pts_nil) (fun _ _ _ _ _ => (pe_df D_cost hG (hr.mono (by decide)) (by rfl) (pa_cons (pv 0) (pa_cons (pv 1) (pa_cons (pv 2) (pa_cons (pv 4) (pa_cons (pv 5) pa_nil)))))))))))))
end
end Ke
namespace Ke
open PySem PySem.Spec PyProof.Rows L2 Xg Dv Kd
section
variable {P : Program} {w : World} {K : PySem.W.Frag} {mg : Str → Option Value} {base : Heap}
theorem sc_columns_of : FnScope ["grid", "column"] ["grid"] (defScope (topS 21)) := ⟨rfl, rfl, rfl, by decide +kernel, rfl, by decide +kernel, by decide +kernel⟩
theorem ok_columns_of {f : Addr} {fd : FuncData} (F : Fun K "columns_of" "columns_of" (topS 21) f fd) (N : Nm mg) : FnG P w K mg base 1 f fd ["grid"] (spD K 0 F_columns_of) := by
  unfold F_columns_of
  exact okD F sc_columns_of (s_columns_of K) fun cdv A outer s H hG hr => (pss_one (ps_ret (pe_lc (own := [("column", 1)]) rfl sc_columns_of.nd (Zn.pi_zipN (by rfl) N.zip (pv 0)) (blkOk_by (N := ["grid", "column"]) (sc := defScope (topS 21)) (by decide +kernel)) (fun _ _ _ _ _ => (pg_name (i := 1) sc_columns_of.nd rfl (by first | exact .inl rfl | exact .inr rfl))) (fun _ _ _ _ _ => pts_nil) (fun _ _ _ _ _ => (pe_callTy call_list_of (by rfl) N.list (by decide +kernel) (pa_cons (pv 1) pa_nil))))))
theorem okL_columns_of {f : Addr} {fd : FuncData} (F : Fun K "columns_of" "columns_of" (topS 21) f fd) (N : Nm mg) : FnG P w K mg base 1 f fd ["grid"] (spL K 0 L_columns_of) := by
  unfold L_columns_of
  exact okL F sc_columns_of (s_columns_of K) fun cdv A outer s H hG hr => (pss_one (ps_ret (pe_lc (own := [("column", 1)]) rfl sc_columns_of.nd (Zn.pi_zipN (by rfl) N.zip (pv 0)) (blkOk_by (N := ["grid", "column"]) (sc := defScope (topS 21)) (by decide +kernel)) (fun _ _ _ _ _ => (pg_name (i := 1) sc_columns_of.nd rfl (by first | exact .inl rfl | exact .inr rfl))) (fun _ _ _ _ _ => pts_nil) (fun _ _ _ _ _ => (pe_callTy call_list_of (by rfl) N.list (by decide +kernel) (pa_cons (pv 1) pa_nil))))))
end
end Ke
namespace Ke
open PySem PySem.Spec PyProof.Rows L2 Xg Dv Kd
section
variable {P : Program} {w : World} {K : PySem.W.Frag} {mg : Str → Option Value} {base : Heap}
theorem sc_least_sum : FnScope ["row", "column", "sums", "one", "other"] ["row", "column"] (defScope (topS 22)) := ⟨rfl, rfl, rfl, by decide +kernel, rfl, by decide +kernel, by decide +kernel⟩
theorem ok_least_sum {f : Addr} {fd : FuncData} (F : Fun K "least_sum" "least_sum" (topS 22) f fd) (N : Nm mg) : FnG P w K mg base 1 f fd ["row", "column"] (spD K 0 F_least_sum) := by
  unfold F_least_sum
  exact okD F sc_least_sum (s_least_sum K) fun cdv A outer s H hG hr => (pss_cons (ps_setLc (i := 2) (own := [("one", 3), ("other", 4)]) rfl sc_least_sum.nd rfl rfl (sw_true rfl rfl rfl (by decide +kernel)) (Pw.pi_zipX (by rfl) N.zip (pa_cons (pv 0) (pa_cons (pv 1) pa_nil))) (blkOk_by (N := ["row", "column", "sums", "one", "other"]) (sc := defScope (topS 22)) (by decide +kernel)) (fun _ _ _ _ _ => (pg_or (pg_tup rfl (pgs_cons (pg_name (i := 3) sc_least_sum.nd rfl (by first | exact .inl rfl | exact .inr rfl)) (pgs_cons (pg_name (i := 4) sc_least_sum.nd rfl (by first | exact .inl rfl | exact .inr rfl)) pgs_nil))) (pg_lst rfl (pgs_cons (pg_name (i := 3) sc_least_sum.nd rfl (by first | exact .inl rfl | exact .inr rfl)) (pgs_cons (pg_name (i := 4) sc_least_sum.nd rfl (by first | exact .inl rfl | exact .inr rfl)) pgs_nil))))) (fun _ _ _ _ _ => (pts_one (L2.PW.pt (pw_and (pt_cmpR op_notN (pv 3) pe_non (nomark _)) (pw_and1 (pt_cmpR op_notN (pv 4) pe_non (nomark _))))))) (fun _ _ _ _ _ => (pe_op op_addX (pv 3) (pv 4)))) (pss_one (ps_ret (pe_callBK (cr_minD hr.units rfl) (by rfl) N.min (by decide +kernel) (pa_cons (pv 2) pa_nil) (pk_cons pe_non pk_nil)))))
end
end Ke
namespace Ke
open PySem PySem.Spec PyProof.Rows L2 Xg Dv Kd
section
variable {P : Program} {w : World} {K : PySem.W.Frag} {mg : Str → Option Value} {base : Heap}
theorem sc_chained : FnScope ["grid", "other", "columns", "row", "column"] ["grid", "other"] (defScope (topS 20)) := ⟨rfl, rfl, rfl, by decide +kernel, rfl, by decide +kernel, by decide +kernel⟩
theorem ok_chained {f : Addr} {fd : FuncData} (F : Fun K "chained" "chained" (topS 20) f fd) (N : Nm mg) (D_columns_of : Df P w K mg base "columns_of" ["grid"] 1 (spD K 0 F_columns_of)) (DL_columns_of : Df P w K mg base "columns_of" ["grid"] 1 (spL K 0 L_columns_of)) (D_least_sum : Df P w K mg base "least_sum" ["row", "column"] 1 (spD K 0 F_least_sum)) : FnG P w K mg base 2 f fd ["grid", "other"] (spD K 0 F_chained) := by
  unfold F_chained
  exact okD F sc_chained (s_chained K) fun cdv A outer s H hG hr => (pss_cons (ps_set (i := 2) sc_chained.nd rfl (by first | exact .inl rfl | exact .inr rfl) (pe_df D_columns_of hG (hr.mono (by decide)) (by rfl) (pa_cons (pv 1) pa_nil))) (pss_one (ps_ret (pe_lc (own := [("row", 3)]) rfl sc_chained.nd (Pw.pi_seq (pv 0)) (blkOk_by (N := ["grid", "other", "columns", "row", "column"]) (sc := defScope (topS 20)) (by decide +kernel)) (fun _ _ _ _ _ => (pg_name (i := 3) sc_chained.nd rfl (by first | exact .inl rfl | exact .inr rfl))) (fun _ _ _ _ _ => pts_nil) (fun _ _ _ _ _ => (pe_lc (own := [("column", 4)]) rfl sc_chained.nd (Pw.pi_seq (pv 2)) (blkOk_by (N := ["grid", "other", "columns", "row", "column"]) (sc := relS _ (defScope (topS 20))) (by decide +kernel)) (fun _ _ _ _ _ => (pg_name (i := 4) sc_chained.nd rfl (by first | exact .inl rfl | exact .inr rfl))) (fun _ _ _ _ _ => pts_nil) (fun _ _ _ _ _ => (pe_df D_least_sum hG (hr.mono (by decide)) (by rfl) (pa_cons (pv 3) (pa_cons (pv 4) pa_nil))))))))))
theorem okL_chained {f : Addr} {fd : FuncData} (F : Fun K "chained" "chained" (topS 20) f fd) (N : Nm mg) (D_columns_of : Df P w K mg base "columns_of" ["grid"] 1 (spD K 0 F_columns_of)) (DL_columns_of : Df P w K mg base "columns_of" ["grid"] 1 (spL K 0 L_columns_of)) (D_least_sum : Df P w K mg base "least_sum" ["row", "column"] 1 (spD K 0 F_least_sum)) : FnG P w K mg base 2 f fd ["grid", "other"] (spL K 0 L_chained) := by
  unfold L_chained
  exact okL F sc_chained (s_chained K) fun cdv A outer s H hG hr => (pss_cons (ps_set (i := 2) sc_chained.nd rfl (by first | exact .inl rfl | exact .inr rfl) (pe_df D_columns_of hG (hr.mono (by decide)) (by rfl) (pa_cons (pv 1) pa_nil))) (pss_one (ps_ret (pe_lc (own := [("row", 3)]) rfl sc_chained.nd (Pw.pi_seq (pv 0)) (blkOk_by (N := ["grid", "other", "columns", "row", "column"]) (sc := defScope (topS 20)) (by decide +kernel)) (fun _ _ _ _ _ => (pg_name (i := 3) sc_chained.nd rfl (by first | exact .inl rfl | exact .inr rfl))) (fun _ _ _ _ _ => pts_nil) (fun _ _ _ _ _ => (pe_lc (own := [("column", 4)]) rfl sc_chained.nd (Pw.pi_seq (pv 2)) (blkOk_by (N := ["grid", "other", "columns", "row", "column"]) (sc := relS _ (defScope (topS 20))) (by decide +kernel)) (fun _ _ _ _ _ => (pg_name (i := 4) sc_chained.nd rfl (by first | exact .inl rfl | exact .inr rfl))) (fun _ _ _ _ _ => pts_nil) (fun _ _ _ _ _ => (pe_df D_least_sum hG (hr.mono (by decide)) (by rfl) (pa_cons (pv 3) (pa_cons (pv 4) pa_nil))))))))))
theorem okN_chained {f : Addr} {fd : FuncData} (F : Fun K "chained" "chained" (topS 20) f fd) (N : Nm mg) (D_columns_of : Df P w K mg base "columns_of" ["grid"] 1 (spD K 0 F_columns_of)) (DL_columns_of : Df P w K mg base "columns_of" ["grid"] 1 (spL K 0 L_columns_of)) (D_least_sum : Df P w K mg base "least_sum" ["row", "column"] 1 (spD K 0 F_least_sum)) : FnG P w K mg base 2 f fd ["grid", "other"] (spN K 0 N_chained) := by
  unfold N_chained
  exact okN F sc_chained (sN_chained K) (sl_chained K) fun cdv A outer s H hG hr => (pss_cons (ps_set (i := 2) sc_chained.nd rfl (by first | exact .inl rfl | exact .inr rfl) (pe_df D_columns_of hG (hr.mono (by decide)) (by rfl) (pa_cons (pv 1) pa_nil))) (pss_one (ps_ret (pe_lc (own := [("row", 3)]) rfl sc_chained.nd (Pw.pi_seq (pv 0)) (blkOk_by (N := ["grid", "other", "columns", "row", "column"]) (sc := defScope (topS 20)) (by decide +kernel)) (fun _ _ _ _ _ => (pg_name (i := 3) sc_chained.nd rfl (by first | exact .inl rfl | exact .inr rfl))) (fun _ _ _ _ _ => pts_nil) (fun _ _ _ _ _ => (pe_lc (own := [("column", 4)]) rfl sc_chained.nd (Pw.pi_seq (pv 2)) (blkOk_by (N := ["grid", "other", "columns", "row", "column"]) (sc := relS _ (defScope (topS 20))) (by decide +kernel)) (fun _ _ _ _ _ => (pg_name (i := 4) sc_chained.nd rfl (by first | exact .inl rfl | exact .inr rfl))) (fun _ _ _ _ _ => pts_nil) (fun _ _ _ _ _ => (pe_df D_least_sum hG (hr.mono (by decide)) (by rfl) (pa_cons (pv 3) (pa_cons (pv 4) pa_nil))))))))))
end
end Ke
namespace Ke
open PySem PySem.Spec PyProof.Rows L2 Xg Dv Kd
section
variable {P : Program} {w : World} {K : PySem.W.Frag} {mg : Str → Option Value} {base : Heap}
theorem sc_doubled_grids : FnScope ["line", "widths", "standing", "many", "grids"] ["line", "widths", "standing", "many"] (defScope (topS 18)) := ⟨rfl, rfl, rfl, by decide +kernel, rfl, by decide +kernel, by decide +kernel⟩
theorem ok_doubled_grids {f : Addr} {fd : FuncData} (F : Fun K "doubled_grids" "doubled_grids" (topS 18) f fd) (N : Nm mg) (D_chained : Df P w K mg base "chained" ["grid", "other"] 2 (spD K 0 F_chained)) (DL_chained : Df P w K mg base "chained" ["grid", "other"] 2 (spL K 0 L_chained)) (DN_chained : Df P w K mg base "chained" ["grid", "other"] 2 (spN K 0 N_chained)) (D_grid_of_one : Df P w K mg base "grid_of_one" ["line", "widths", "standing"] 4 (spD K 0 F_grid_of_one)) (DL_grid_of_one : Df P w K mg base "grid_of_one" ["line", "widths", "standing"] 4 (spL K 0 L_grid_of_one)) : FnG P w K mg base 5 f fd ["line", "widths", "standing", "many"] (spD K 0 F_doubled_grids) := by
  unfold F_doubled_grids
  exact okD F sc_doubled_grids (s_doubled_grids K) fun cdv A outer s H hG hr => (pss_cons (ps_set (i := 4) sc_doubled_grids.nd rfl (by first | exact .inl rfl | exact .inr rfl) (pe_lst (pa_cons (pe_df D_grid_of_one hG (hr.mono (by decide)) (by rfl) (pa_cons (pv 0) (pa_cons (pv 1) (pa_cons (pv 2) pa_nil)))) pa_nil))) (pss_cons (ps_while PassesOwn.never (pt_cmpR op_lt (pe_callB call_len (by rfl) N.len PySem.boot_len (pa_cons (pv 4) pa_nil)) (pe_bits (pv 3)) (nomark _)) (pss_one (ps_expr (pe_bm PySem.F.plainAttrs_list PySem.F.slot_list_append PySem.F.type_list_append mt_append (pv 4) (pa_cons (pe_df D_chained hG (hr.mono (by decide)) (by rfl) (pa_cons (pe_ix ix_seq (pv 4) (pe_un un_neg pe_int) (fun _ _ => rfl)) (pa_cons (pe_ix ix_seq (pv 4) (pe_un un_neg pe_int) (fun _ _ => rfl)) pa_nil))) pa_nil))))) (pss_one (ps_ret (pv 4)))))
theorem okL_doubled_grids {f : Addr} {fd : FuncData} (F : Fun K "doubled_grids" "doubled_grids" (topS 18) f fd) (N : Nm mg) (D_chained : Df P w K mg base "chained" ["grid", "other"] 2 (spD K 0 F_chained)) (DL_chained : Df P w K mg base "chained" ["grid", "other"] 2 (spL K 0 L_chained)) (DN_chained : Df P w K mg base "chained" ["grid", "other"] 2 (spN K 0 N_chained)) (D_grid_of_one : Df P w K mg base "grid_of_one" ["line", "widths", "standing"] 4 (spD K 0 F_grid_of_one)) (DL_grid_of_one : Df P w K mg base "grid_of_one" ["line", "widths", "standing"] 4 (spL K 0 L_grid_of_one)) : FnG P w K mg base 5 f fd ["line", "widths", "standing", "many"] (spL K 0 L_doubled_grids) := by
  unfold L_doubled_grids
  exact okL F sc_doubled_grids (s_doubled_grids K) fun cdv A outer s H hG hr => (pss_cons (ps_set (i := 4) sc_doubled_grids.nd rfl (by first | exact .inl rfl | exact .inr rfl) (pe_lst (pa_cons (pe_df D_grid_of_one hG (hr.mono (by decide)) (by rfl) (pa_cons (pv 0) (pa_cons (pv 1) (pa_cons (pv 2) pa_nil)))) pa_nil))) (pss_cons (ps_while PassesOwn.never (pt_cmpR op_lt (pe_callB call_len (by rfl) N.len PySem.boot_len (pa_cons (pv 4) pa_nil)) (pe_bits (pv 3)) (nomark _)) (pss_one (ps_expr (pe_bm PySem.F.plainAttrs_list PySem.F.slot_list_append PySem.F.type_list_append mt_append (pv 4) (pa_cons (pe_df D_chained hG (hr.mono (by decide)) (by rfl) (pa_cons (pe_ix ix_seq (pv 4) (pe_un un_neg pe_int) (fun _ _ => rfl)) (pa_cons (pe_ix ix_seq (pv 4) (pe_un un_neg pe_int) (fun _ _ => rfl)) pa_nil))) pa_nil))))) (pss_one (ps_ret (pv 4)))))
end
end Ke
namespace Ke
open PySem PySem.Spec PyProof.Rows L2 Xg Dv Kd
section
variable {P : Program} {w : World} {K : PySem.W.Frag} {mg : Str → Option Value} {base : Heap}
theorem sc_grid_of_none : FnScope ["many", "gate", "other"] ["many"] (defScope (topS 16)) := ⟨rfl, rfl, rfl, by decide +kernel, rfl, by decide +kernel, by decide +kernel⟩
theorem ok_grid_of_none {f : Addr} {fd : FuncData} (F : Fun K "grid_of_none" "grid_of_none" (topS 16) f fd) (N : Nm mg) : FnG P w K mg base 1 f fd ["many"] (spD K 0 F_grid_of_none) := by
  unfold F_grid_of_none
  exact okD F sc_grid_of_none (s_grid_of_none K) fun cdv A outer s H hG hr => (pss_one (ps_ret (pe_lc (own := [("gate", 1)]) rfl sc_grid_of_none.nd (pi_range1 (by rfl) N.range (pa_cons (pv 0) pa_nil)) (blkOk_by (N := ["many", "gate", "other"]) (sc := defScope (topS 16)) (by decide +kernel)) (fun _ _ _ _ _ => (pg_name (i := 1) sc_grid_of_none.nd rfl (by first | exact .inl rfl | exact .inr rfl))) (fun _ _ _ _ _ => pts_nil) (fun _ _ _ _ _ => (pe_lc (own := [("other", 2)]) rfl sc_grid_of_none.nd (pi_range1 (by rfl) N.range (pa_cons (pv 0) pa_nil)) (blkOk_by (N := ["many", "gate", "other"]) (sc := relS _ (defScope (topS 16))) (by decide +kernel)) (fun _ _ _ _ _ => (pg_name (i := 2) sc_grid_of_none.nd rfl (by first | exact .inl rfl | exact .inr rfl))) (fun _ _ _ _ _ => pts_nil) (fun _ _ _ _ _ => (pe_ifExp (pt_cmpR (op_eqX hr.units) (pv 1) (pv 2) (nomark _)) pe_int pe_non)))))))
theorem okL_grid_of_none {f : Addr} {fd : FuncData} (F : Fun K "grid_of_none" "grid_of_none" (topS 16) f fd) (N : Nm mg) : FnG P w K mg base 1 f fd ["many"] (spL K 0 L_grid_of_none) := by
  unfold L_grid_of_none
  exact okL F sc_grid_of_none (s_grid_of_none K) fun cdv A outer s H hG hr => (pss_one (ps_ret (pe_lc (own := [("gate", 1)]) rfl sc_grid_of_none.nd (pi_range1 (by rfl) N.range (pa_cons (pv 0) pa_nil)) (blkOk_by (N := ["many", "gate", "other"]) (sc := defScope (topS 16)) (by decide +kernel)) (fun _ _ _ _ _ => (pg_name (i := 1) sc_grid_of_none.nd rfl (by first | exact .inl rfl | exact .inr rfl))) (fun _ _ _ _ _ => pts_nil) (fun _ _ _ _ _ => (pe_lc (own := [("other", 2)]) rfl sc_grid_of_none.nd (pi_range1 (by rfl) N.range (pa_cons (pv 0) pa_nil)) (blkOk_by (N := ["many", "gate", "other"]) (sc := relS _ (defScope (topS 16))) (by decide +kernel)) (fun _ _ _ _ _ => (pg_name (i := 2) sc_grid_of_none.nd rfl (by first | exact .inl rfl | exact .inr rfl))) (fun _ _ _ _ _ => pts_nil) (fun _ _ _ _ _ => (pe_ifExp (pt_cmpR (op_eqX hr.units) (pv 1) (pv 2) (nomark _)) pe_int pe_non)))))))
theorem okN_grid_of_none {f : Addr} {fd : FuncData} (F : Fun K "grid_of_none" "grid_of_none" (topS 16) f fd) (N : Nm mg) : FnG P w K mg base 1 f fd ["many"] (spN K 0 N_grid_of_none) := by
  unfold N_grid_of_none
  exact okN F sc_grid_of_none (sN_grid_of_none K) (sl_grid_of_none K) fun cdv A outer s H hG hr => (pss_ret1 (pss_one (ps_ret (pe_lc (own := [("gate", 1)]) rfl sc_grid_of_none.nd (pi_range1 (by rfl) N.range (pa_cons (pv 0) pa_nil)) (blkOk_by (N := ["many", "gate", "other"]) (sc := defScope (topS 16)) (by decide +kernel)) (fun _ _ _ _ _ => (pg_name (i := 1) sc_grid_of_none.nd rfl (by first | exact .inl rfl | exact .inr rfl))) (fun _ _ _ _ _ => pts_nil) (fun _ _ _ _ _ => (pe_lc (own := [("other", 2)]) rfl sc_grid_of_none.nd (pi_range1 (by rfl) N.range (pa_cons (pv 0) pa_nil)) (blkOk_by (N := ["many", "gate", "other"]) (sc := relS _ (defScope (topS 16))) (by decide +kernel)) (fun _ _ _ _ _ => (pg_name (i := 2) sc_grid_of_none.nd rfl (by first | exact .inl rfl | exact .inr rfl))) (fun _ _ _ _ _ => pts_nil) (fun _ _ _ _ _ => (pe_ifExp (pt_cmpR (op_eqX hr.units) (pv 1) (pv 2) (nomark _)) pe_int pe_non))))))))
end
end Ke
namespace Ke
open PySem PySem.Spec PyProof.Rows L2 Xg Dv Kd
section
variable {P : Program} {w : World} {K : PySem.W.Frag} {mg : Str → Option Value} {base : Heap}
theorem sc_grids_in : FnScope ["grids", "many", "at", "grid"] ["grids", "many"] (defScope (topS 19)) := ⟨rfl, rfl, rfl, by decide +kernel, rfl, by decide +kernel, by decide +kernel⟩
theorem ok_grids_in {f : Addr} {fd : FuncData} (F : Fun K "grids_in" "grids_in" (topS 19) f fd) (N : Nm mg) : FnG P w K mg base 1 f fd ["grids", "many"] (spD K 0 F_grids_in) := by
  unfold F_grids_in
  exact okD F sc_grids_in (s_grids_in K) fun cdv A outer s H hG hr => (pss_one (ps_ret (pe_lc (own := [("at", 2), ("grid", 3)]) rfl sc_grids_in.nd (Pw.pi_enumX (by rfl) N.enumerate (pa_cons (pv 0) pa_nil)) (blkOk_by (N := ["grids", "many", "at", "grid"]) (sc := defScope (topS 19)) (by decide +kernel)) (fun _ _ _ _ _ => (pg_or (pg_tup rfl (pgs_cons (pg_name (i := 2) sc_grids_in.nd rfl (by first | exact .inl rfl | exact .inr rfl)) (pgs_cons (pg_name (i := 3) sc_grids_in.nd rfl (by first | exact .inl rfl | exact .inr rfl)) pgs_nil))) (pg_lst rfl (pgs_cons (pg_name (i := 2) sc_grids_in.nd rfl (by first | exact .inl rfl | exact .inr rfl)) (pgs_cons (pg_name (i := 3) sc_grids_in.nd rfl (by first | exact .inl rfl | exact .inr rfl)) pgs_nil))))) (fun _ _ _ _ _ => (pts_one (pt_truth (pe_op op_odd (pe_op op_shr (pv 1) (pv 2)) pe_int) (by intro _; rfl)))) (fun _ _ _ _ _ => (pv 3)))))
theorem okL_grids_in {f : Addr} {fd : FuncData} (F : Fun K "grids_in" "grids_in" (topS 19) f fd) (N : Nm mg) : FnG P w K mg base 1 f fd ["grids", "many"] (spL K 0 L_grids_in) := by
  unfold L_grids_in
  exact okL F sc_grids_in (s_grids_in K) fun cdv A outer s H hG hr => (pss_one (ps_ret (pe_lc (own := [("at", 2), ("grid", 3)]) rfl sc_grids_in.nd (Pw.pi_enumX (by rfl) N.enumerate (pa_cons (pv 0) pa_nil)) (blkOk_by (N := ["grids", "many", "at", "grid"]) (sc := defScope (topS 19)) (by decide +kernel)) (fun _ _ _ _ _ => (pg_or (pg_tup rfl (pgs_cons (pg_name (i := 2) sc_grids_in.nd rfl (by first | exact .inl rfl | exact .inr rfl)) (pgs_cons (pg_name (i := 3) sc_grids_in.nd rfl (by first | exact .inl rfl | exact .inr rfl)) pgs_nil))) (pg_lst rfl (pgs_cons (pg_name (i := 2) sc_grids_in.nd rfl (by first | exact .inl rfl | exact .inr rfl)) (pgs_cons (pg_name (i := 3) sc_grids_in.nd rfl (by first | exact .inl rfl | exact .inr rfl)) pgs_nil))))) (fun _ _ _ _ _ => (pts_one (pt_truth (pe_op op_odd (pe_op op_shr (pv 1) (pv 2)) pe_int) (by intro _; rfl)))) (fun _ _ _ _ _ => (pv 3)))))
end
end Ke
namespace Ke
open PySem PySem.Spec PyProof.Rows L2 Xg Dv Kd
section
variable {P : Program} {w : World} {K : PySem.W.Frag} {mg : Str → Option Value} {base : Heap}
theorem sc_grid_of : FnScope ["line", "widths", "standing", "many", "grids", "told", "grid"] ["line", "widths", "standing", "many"] (defScope (topS 15)) := ⟨rfl, rfl, rfl, by decide +kernel, rfl, by decide +kernel, by decide +kernel⟩
theorem ok_grid_of {f : Addr} {fd : FuncData} (F : Fun K "grid_of" "grid_of" (topS 15) f fd) (N : Nm mg) (D_chained : Df P w K mg base "chained" ["grid", "other"] 2 (spD K 0 F_chained)) (DL_chained : Df P w K mg base "chained" ["grid", "other"] 2 (spL K 0 L_chained)) (DN_chained : Df P w K mg base "chained" ["grid", "other"] 2 (spN K 0 N_chained)) (D_doubled_grids : Df P w K mg base "doubled_grids" ["line", "widths", "standing", "many"] 5 (spD K 0 F_doubled_grids)) (DL_doubled_grids : Df P w K mg base "doubled_grids" ["line", "widths", "standing", "many"] 5 (spL K 0 L_doubled_grids)) (D_gates : Df P w K mg base "gates" ["line"] 1 (spD K 0 F_gates)) (D_grid_of_none : Df P w K mg base "grid_of_none" ["many"] 1 (spD K 0 F_grid_of_none)) (DL_grid_of_none : Df P w K mg base "grid_of_none" ["many"] 1 (spL K 0 L_grid_of_none)) (DN_grid_of_none : Df P w K mg base "grid_of_none" ["many"] 1 (spN K 0 N_grid_of_none)) (D_grids_in : Df P w K mg base "grids_in" ["grids", "many"] 1 (spD K 0 F_grids_in)) (DL_grids_in : Df P w K mg base "grids_in" ["grids", "many"] 1 (spL K 0 L_grids_in)) : FnG P w K mg base 6 f fd ["line", "widths", "standing", "many"] (spD K 0 F_grid_of) := by
  unfold F_grid_of
  exact okD F sc_grid_of (s_grid_of K) fun cdv A outer s H hG hr => (pss_cons (ps_set (i := 4) sc_grid_of.nd rfl (by first | exact .inl rfl | exact .inr rfl) (pe_df D_doubled_grids hG (hr.mono (by decide)) (by rfl) (pa_cons (pv 0) (pa_cons (pv 1) (pa_cons (pv 2) (pa_cons (pv 3) pa_nil)))))) (pss_cons (ps_set (i := 5) sc_grid_of.nd rfl (by first | exact .inl rfl | exact .inr rfl) (pe_df D_grid_of_none hG (hr.mono (by decide)) (by rfl) (pa_cons (pe_df D_gates hG (hr.mono (by decide)) (by rfl) (pa_cons (pv 0) pa_nil)) pa_nil))) (pss_cons (ps_for PassesOwn.never rfl (Pw.pi_seq (pe_df D_grids_in hG (hr.mono (by decide)) (by rfl) (pa_cons (pv 4) (pa_cons (pv 3) pa_nil)))) (pg_name (i := 6) sc_grid_of.nd rfl (by first | exact .inl rfl | exact .inr rfl)) (pss_one (ps_set (i := 5) sc_grid_of.nd rfl (by first | exact .inl rfl | exact .inr rfl) (pe_df D_chained hG (hr.mono (by decide)) (by rfl) (pa_cons (pv 5) (pa_cons (pv 6) pa_nil)))))) (pss_one (ps_ret (pv 5))))))
theorem okN_grid_of {f : Addr} {fd : FuncData} (F : Fun K "grid_of" "grid_of" (topS 15) f fd) (N : Nm mg) (D_chained : Df P w K mg base "chained" ["grid", "other"] 2 (spD K 0 F_chained)) (DL_chained : Df P w K mg base "chained" ["grid", "other"] 2 (spL K 0 L_chained)) (DN_chained : Df P w K mg base "chained" ["grid", "other"] 2 (spN K 0 N_chained)) (D_doubled_grids : Df P w K mg base "doubled_grids" ["line", "widths", "standing", "many"] 5 (spD K 0 F_doubled_grids)) (DL_doubled_grids : Df P w K mg base "doubled_grids" ["line", "widths", "standing", "many"] 5 (spL K 0 L_doubled_grids)) (D_gates : Df P w K mg base "gates" ["line"] 1 (spD K 0 F_gates)) (D_grid_of_none : Df P w K mg base "grid_of_none" ["many"] 1 (spD K 0 F_grid_of_none)) (DL_grid_of_none : Df P w K mg base "grid_of_none" ["many"] 1 (spL K 0 L_grid_of_none)) (DN_grid_of_none : Df P w K mg base "grid_of_none" ["many"] 1 (spN K 0 N_grid_of_none)) (D_grids_in : Df P w K mg base "grids_in" ["grids", "many"] 1 (spD K 0 F_grids_in)) (DL_grids_in : Df P w K mg base "grids_in" ["grids", "many"] 1 (spL K 0 L_grids_in)) : FnG P w K mg base 6 f fd ["line", "widths", "standing", "many"] (spN K (0 + (0 + (0 + 1000000 * 0))) N_grid_of) := by
  unfold N_grid_of
  exact okNL F sc_grid_of (sN_grid_of K) (sa_grid_of K) (si_grid_of K) (sg_grid_of K) (sh_grid_of K) (by decide) fun cdv A outer s H hG hr => (pss_cons (ps_set (i := 4) sc_grid_of.nd rfl (by first | exact .inl rfl | exact .inr rfl) (pe_df D_doubled_grids hG (hr.mono (by decide)) (by rfl) (pa_cons (pv 0) (pa_cons (pv 1) (pa_cons (pv 2) (pa_cons (pv 3) pa_nil)))))) (pss_cons (ps_set (i := 5) sc_grid_of.nd rfl (by first | exact .inl rfl | exact .inr rfl) (pe_df DN_grid_of_none hG (hr.mono (by decide)) (by rfl) (pa_cons (pe_df D_gates hG (hr.mono (by decide)) (by rfl) (pa_cons (pv 0) pa_nil)) pa_nil))) (pss_cons (ps_for PassesOwn.never rfl (Pw.pi_seq (pe_df D_grids_in hG (hr.mono (by decide)) (by rfl) (pa_cons (pv 4) (pa_cons (pv 3) pa_nil)))) (pg_name (i := 6) sc_grid_of.nd rfl (by first | exact .inl rfl | exact .inr rfl)) (pss_one (ps_set (i := 5) sc_grid_of.nd rfl (by first | exact .inl rfl | exact .inr rfl) (pe_df DN_chained hG (hr.mono (by decide)) (by rfl) (pa_cons (pv 5) (pa_cons (pv 6) pa_nil)))))) (pss_one (ps_ret (pv 5))))))
end
end Ke
namespace Ke
open PySem PySem.Spec PyProof.Rows L2 Xg Dv Kd
section
variable {P : Program} {w : World} {K : PySem.W.Frag} {mg : Str → Option Value} {base : Heap}
theorem sc_led_by : FnScope ["grid", "numbers", "row"] ["grid", "numbers"] (defScope (topS 23)) := ⟨rfl, rfl, rfl, by decide +kernel, rfl, by decide +kernel, by decide +kernel⟩
theorem ok_led_by {f : Addr} {fd : FuncData} (F : Fun K "led_by" "led_by" (topS 23) f fd) (N : Nm mg) (D_least_sum : Df P w K mg base "least_sum" ["row", "column"] 1 (spD K 0 F_least_sum)) : FnG P w K mg base 2 f fd ["grid", "numbers"] (spD K 0 F_led_by) := by
  unfold F_led_by
  exact okD F sc_led_by (s_led_by K) fun cdv A outer s H hG hr => (pss_one (ps_ret (pe_lc (own := [("row", 2)]) rfl sc_led_by.nd (Pw.pi_seq (pv 0)) (blkOk_by (N := ["grid", "numbers", "row"]) (sc := defScope (topS 23)) (by decide +kernel)) (fun _ _ _ _ _ => (pg_name (i := 2) sc_led_by.nd rfl (by first | exact .inl rfl | exact .inr rfl))) (fun _ _ _ _ _ => pts_nil) (fun _ _ _ _ _ => (pe_df D_least_sum hG (hr.mono (by decide)) (by rfl) (pa_cons (pv 2) (pa_cons (pv 1) pa_nil)))))))
theorem okL_led_by {f : Addr} {fd : FuncData} (F : Fun K "led_by" "led_by" (topS 23) f fd) (N : Nm mg) (D_least_sum : Df P w K mg base "least_sum" ["row", "column"] 1 (spD K 0 F_least_sum)) : FnG P w K mg base 2 f fd ["grid", "numbers"] (spL K 0 L_led_by) := by
  unfold L_led_by
  exact okL F sc_led_by (s_led_by K) fun cdv A outer s H hG hr => (pss_one (ps_ret (pe_lc (own := [("row", 2)]) rfl sc_led_by.nd (Pw.pi_seq (pv 0)) (blkOk_by (N := ["grid", "numbers", "row"]) (sc := defScope (topS 23)) (by decide +kernel)) (fun _ _ _ _ _ => (pg_name (i := 2) sc_led_by.nd rfl (by first | exact .inl rfl | exact .inr rfl))) (fun _ _ _ _ _ => pts_nil) (fun _ _ _ _ _ => (pe_df D_least_sum hG (hr.mono (by decide)) (by rfl) (pa_cons (pv 2) (pa_cons (pv 1) pa_nil)))))))
end
end Ke
namespace Ke
open PySem PySem.Spec PyProof.Rows L2 Xg Dv Kd
section
variable {P : Program} {w : World} {K : PySem.W.Frag} {mg : Str → Option Value} {base : Heap}
theorem sc_led_back_by : FnScope ["grid", "numbers", "less", "number", "column"] ["grid", "numbers"] (defScope (topS 24)) := ⟨rfl, rfl, rfl, by decide +kernel, rfl, by decide +kernel, by decide +kernel⟩
theorem ok_led_back_by {f : Addr} {fd : FuncData} (F : Fun K "led_back_by" "led_back_by" (topS 24) f fd) (N : Nm mg) (D_columns_of : Df P w K mg base "columns_of" ["grid"] 1 (spD K 0 F_columns_of)) (DL_columns_of : Df P w K mg base "columns_of" ["grid"] 1 (spL K 0 L_columns_of)) (D_least_sum : Df P w K mg base "least_sum" ["row", "column"] 1 (spD K 0 F_least_sum)) : FnG P w K mg base 2 f fd ["grid", "numbers"] (spD K 0 F_led_back_by) := by
  unfold F_led_back_by
  exact okD F sc_led_back_by (s_led_back_by K) fun cdv A outer s H hG hr => (pss_cons (ps_set (i := 2) sc_led_back_by.nd rfl (by first | exact .inl rfl | exact .inr rfl) (pe_lc (own := [("number", 3)]) rfl sc_led_back_by.nd (Pw.pi_seq (pv 1)) (blkOk_by (N := ["grid", "numbers", "less", "number", "column"]) (sc := defScope (topS 24)) (by decide +kernel)) (fun _ _ _ _ _ => (pg_name (i := 3) sc_led_back_by.nd rfl (by first | exact .inl rfl | exact .inr rfl))) (fun _ _ _ _ _ => pts_nil) (fun _ _ _ _ _ => (pe_un un_neg (pv 3))))) (pss_one (ps_ret (pe_lc (own := [("column", 4)]) rfl sc_led_back_by.nd (Pw.pi_seq (pe_df D_columns_of hG (hr.mono (by decide)) (by rfl) (pa_cons (pv 0) pa_nil))) (blkOk_by (N := ["grid", "numbers", "less", "number", "column"]) (sc := defScope (topS 24)) (by decide +kernel)) (fun _ _ _ _ _ => (pg_name (i := 4) sc_led_back_by.nd rfl (by first | exact .inl rfl | exact .inr rfl))) (fun _ _ _ _ _ => pts_nil) (fun _ _ _ _ _ => (pe_un un_neg (pe_df D_least_sum hG (hr.mono (by decide)) (by rfl) (pa_cons (pv 4) (pa_cons (pv 2) pa_nil)))))))))
theorem okL_led_back_by {f : Addr} {fd : FuncData} (F : Fun K "led_back_by" "led_back_by" (topS 24) f fd) (N : Nm mg) (D_columns_of : Df P w K mg base "columns_of" ["grid"] 1 (spD K 0 F_columns_of)) (DL_columns_of : Df P w K mg base "columns_of" ["grid"] 1 (spL K 0 L_columns_of)) (D_least_sum : Df P w K mg base "least_sum" ["row", "column"] 1 (spD K 0 F_least_sum)) : FnG P w K mg base 2 f fd ["grid", "numbers"] (spL K 0 L_led_back_by) := by
  unfold L_led_back_by
  exact okL F sc_led_back_by (s_led_back_by K) fun cdv A outer s H hG hr => (pss_cons (ps_set (i := 2) sc_led_back_by.nd rfl (by first | exact .inl rfl | exact .inr rfl) (pe_lc (own := [("number", 3)]) rfl sc_led_back_by.nd (Pw.pi_seq (pv 1)) (blkOk_by (N := ["grid", "numbers", "less", "number", "column"]) (sc := defScope (topS 24)) (by decide +kernel)) (fun _ _ _ _ _ => (pg_name (i := 3) sc_led_back_by.nd rfl (by first | exact .inl rfl | exact .inr rfl))) (fun _ _ _ _ _ => pts_nil) (fun _ _ _ _ _ => (pe_un un_neg (pv 3))))) (pss_one (ps_ret (pe_lc (own := [("column", 4)]) rfl sc_led_back_by.nd (Pw.pi_seq (pe_df D_columns_of hG (hr.mono (by decide)) (by rfl) (pa_cons (pv 0) pa_nil))) (blkOk_by (N := ["grid", "numbers", "less", "number", "column"]) (sc := defScope (topS 24)) (by decide +kernel)) (fun _ _ _ _ _ => (pg_name (i := 4) sc_led_back_by.nd rfl (by first | exact .inl rfl | exact .inr rfl))) (fun _ _ _ _ _ => pts_nil) (fun _ _ _ _ _ => (pe_un un_neg (pe_df D_least_sum hG (hr.mono (by decide)) (by rfl) (pa_cons (pv 4) (pa_cons (pv 2) pa_nil)))))))))
end
end Ke
namespace Ke
open PySem PySem.Spec PyProof.Rows L2 Xg Dv Kd
section
variable {P : Program} {w : World} {K : PySem.W.Frag} {mg : Str → Option Value} {base : Heap}
theorem sc__law_pick : FnScope ["_law_box_here", "_law_some"] ["_law_box_here", "_law_some"] (defScope (topS 28)) := ⟨rfl, rfl, rfl, by decide +kernel, rfl, by decide +kernel, by decide +kernel⟩
theorem ok__law_pick {f : Addr} {fd : FuncData} (F : Fun K "_law_pick" "_law_pick" (topS 28) f fd) (N : Nm mg) (D__law_take : Df P w K mg base "_law_take" ["_law_box_here", "_law_below"] 1 (spD K 1 F_take)) : FnG P w K mg base 2 f fd ["_law_box_here", "_law_some"] (spD K 1 F__law_pick) := by
  unfold F__law_pick
  exact okD F sc__law_pick (s__law_pick K) fun cdv A outer s H hG hr => (pss_one (ps_ret (pe_ix ix_seq (pv 1) (pe_df D__law_take hG (hr.mono (by decide)) (by rfl) (pa_cons (pv 0) (pa_cons (pe_callB call_len (by rfl) N.len PySem.boot_len (pa_cons (pv 1) pa_nil)) pa_nil))) (fun _ _ => rfl))))
end
end Ke
namespace Ke
open PySem PySem.Spec PyProof.Rows L2 Xg Dv Kd
section
variable {P : Program} {w : World} {K : PySem.W.Frag} {mg : Str → Option Value} {base : Heap}
theorem sc__law_line : FnScope ["_law_box_here", "_law_most_here", "_law_high", "_law_form", "_law_top", "_law_least_here", "_law_size", "_law_k"] ["_law_box_here", "_law_most_here", "_law_high"] (defScope (topS 30)) := ⟨rfl, rfl, rfl, by decide +kernel, rfl, by decide +kernel, by decide +kernel⟩
theorem ok__law_line {f : Addr} {fd : FuncData} (F : Fun K "_law_line" "_law_line" (topS 30) f fd) (N : Nm mg) (D__law_pick : Df P w K mg base "_law_pick" ["_law_box_here", "_law_some"] 2 (spD K 1 F__law_pick)) (D__law_take : Df P w K mg base "_law_take" ["_law_box_here", "_law_below"] 1 (spD K 1 F_take)) : FnG P w K mg base 3 f fd ["_law_box_here", "_law_most_here", "_law_high"] (spD K 103 F__law_line) := by
  unfold F__law_line
  exact okD F sc__law_line (s__law_line K) fun cdv A outer s H hG hr => (pss_cons (ps_asg (pe_tup (pa_cons (pe_df D__law_pick hG (hr.mono (by decide)) (by rfl) (pa_cons (pv 0) (pa_cons (pe_lst (pa_cons pe_str (pa_cons pe_str (pa_cons pe_str pa_nil)))) pa_nil))) (pa_cons (pe_df D__law_pick hG (hr.mono (by decide)) (by rfl) (pa_cons (pv 0) (pa_cons (pe_lst (pa_cons pe_int (pa_cons pe_int (pa_cons (pv 2) (pa_cons (pv 2) pa_nil))))) pa_nil))) pa_nil))) (pg_or (pg_tup rfl (pgs_cons (pg_name (i := 3) sc__law_line.nd rfl (by first | exact .inl rfl | exact .inr rfl)) (pgs_cons (pg_name (i := 4) sc__law_line.nd rfl (by first | exact .inl rfl | exact .inr rfl)) pgs_nil))) (pg_lst rfl (pgs_cons (pg_name (i := 3) sc__law_line.nd rfl (by first | exact .inl rfl | exact .inr rfl)) (pgs_cons (pg_name (i := 4) sc__law_line.nd rfl (by first | exact .inl rfl | exact .inr rfl)) pgs_nil))))) (pss_cons (ps_set (i := 5) sc__law_line.nd rfl (by first | exact .inl rfl | exact .inr rfl) (pe_op op_addX pe_int (pe_callTy call_int1 (by rfl) N.int (by decide +kernel) (pa_cons (pe_cmpR (op_eqX hr.units) (pv 3) pe_str (nomark _)) pa_nil)))) (pss_cons (ps_set (i := 6) sc__law_line.nd rfl (by first | exact .inl rfl | exact .inr rfl) (pe_op op_addX (pv 5) (pe_df D__law_take hG (hr.mono (by decide)) (by rfl) (pa_cons (pv 0) (pa_cons (pe_op op_sub (pe_op op_addX (pv 1) pe_int) (pv 5)) pa_nil))))) (pss_one (ps_ret (pe_tup (pa_cons (pv 3) (pa_cons (pe_tupleOf (by rfl) N.tuple (pe_lc (own := [("_law_k", 7)]) rfl sc__law_line.nd (pi_range1 (by rfl) N.range (pa_cons (pv 6) pa_nil)) (blkOk_by (N := ["_law_box_here", "_law_most_here", "_law_high", "_law_form", "_law_top", "_law_least_here", "_law_size", "_law_k"]) (sc := defScope (topS 30)) (by decide +kernel)) (fun _ _ _ _ _ => (pg_name (i := 7) sc__law_line.nd rfl (by first | exact .inl rfl | exact .inr rfl))) (fun _ _ _ _ _ => pts_nil) (fun _ _ _ _ _ => (pe_op op_addX pe_int (pe_df D__law_take hG (hr.mono (by decide)) (by rfl) (pa_cons (pv 0) (pa_cons (pv 4) pa_nil))))))) pa_nil))))))))
end
end Ke
namespace Ke
open PySem PySem.Spec PyProof.Rows L2 Xg Dv Kd
section
variable {P : Program} {w : World} {K : PySem.W.Frag} {mg : Str → Option Value} {base : Heap}
theorem sc__law_gates : FnScope ["_law_plan"] ["_law_plan"] (defScope (topS 31)) := ⟨rfl, rfl, rfl, by decide +kernel, rfl, by decide +kernel, by decide +kernel⟩
theorem ok__law_gates {f : Addr} {fd : FuncData} (F : Fun K "_law_gates" "_law_gates" (topS 31) f fd) (N : Nm mg) : FnG P w K mg base 1 f fd ["_law_plan"] (spD K 0 F__law_gates) := by
  unfold F__law_gates
  exact okD F sc__law_gates (s__law_gates K) fun cdv A outer s H hG hr => (pss_one (ps_ret (pe_op op_addX (pe_callB call_len (by rfl) N.len PySem.boot_len (pa_cons (pe_ix ix_seq (pv 0) pe_int (fun _ _ => rfl)) pa_nil)) (pe_callTy call_int1 (by rfl) N.int (by decide +kernel) (pa_cons (pe_cmpR (op_eqX hr.units) (pe_ix ix_seq (pv 0) pe_int (fun _ _ => rfl)) pe_str (nomark _)) pa_nil)))))
end
end Ke
namespace Ke
open PySem PySem.Spec PyProof.Rows L2 Xg Dv Kd
section
variable {P : Program} {w : World} {K : PySem.W.Frag} {mg : Str → Option Value} {base : Heap}
theorem sc__law_widths : FnScope ["_law_box_here", "_law_plan", "_law_high", "_law_some", "_law_found", "_law_door", "_law_width"] ["_law_box_here", "_law_plan", "_law_high"] (defScope (topS 32)) := ⟨rfl, rfl, rfl, by decide +kernel, rfl, by decide +kernel, by decide +kernel⟩
theorem ok__law_widths {f : Addr} {fd : FuncData} (F : Fun K "_law_widths" "_law_widths" (topS 32) f fd) (N : Nm mg) (D__law_gates : Df P w K mg base "_law_gates" ["_law_plan"] 1 (spD K 0 F__law_gates)) (D__law_pick : Df P w K mg base "_law_pick" ["_law_box_here", "_law_some"] 2 (spD K 1 F__law_pick)) (D__law_take : Df P w K mg base "_law_take" ["_law_box_here", "_law_below"] 1 (spD K 1 F_take)) : FnG P w K mg base 3 f fd ["_law_box_here", "_law_plan", "_law_high"] (spD K 202 F__law_widths) := by
  unfold F__law_widths
  exact okD F sc__law_widths (s__law_widths K) fun cdv A outer s H hG hr => (pss_cons (ps_set (i := 3) sc__law_widths.nd rfl (by first | exact .inl rfl | exact .inr rfl) (pe_df D__law_pick hG (hr.mono (by decide)) (by rfl) (pa_cons (pv 0) (pa_cons (pe_lst (pa_cons (pe_lst (pa_cons pe_non pa_nil)) (pa_cons (pe_lst (pa_cons pe_non (pa_cons pe_non (pa_cons (pv 2) pa_nil)))) (pa_cons (pe_lst (pa_cons (pv 2) pa_nil)) (pa_cons (pe_lst (pa_cons pe_int (pa_cons pe_int (pa_cons (pv 2) (pa_cons pe_non pa_nil))))) (pa_cons (pe_lst (pa_cons pe_int (pa_cons pe_int (pa_cons (pv 2) pa_nil)))) pa_nil)))))) pa_nil)))) (pss_cons (ps_set (i := 4) sc__law_widths.nd rfl (by first | exact .inl rfl | exact .inr rfl) (pe_lst pa_nil)) (pss_cons (ps_for PassesOwn.never rfl (pi_range1 (by rfl) N.range (pa_cons (pe_df D__law_gates hG (hr.mono (by decide)) (by rfl) (pa_cons (pv 1) pa_nil)) pa_nil)) (pg_name (i := 5) sc__law_widths.nd rfl (by first | exact .inl rfl | exact .inr rfl)) (pss_cons (ps_set (i := 6) sc__law_widths.nd rfl (by first | exact .inl rfl | exact .inr rfl) (pe_df D__law_pick hG (hr.mono (by decide)) (by rfl) (pa_cons (pv 0) (pa_cons (pv 3) pa_nil)))) (pss_one (ps_expr (pe_bm PySem.F.plainAttrs_list PySem.F.slot_list_append PySem.F.type_list_append mt_append (pv 4) (pa_cons (pe_ifExp (L2.PW.pt (pw_or (pt_cmpR op_isN (pv 6) pe_non (nomark _)) (pw_or1 (pt_cmpR op_lt (pv 6) pe_int (nomark _))))) (pv 6) (pe_op op_addX pe_int (pe_df D__law_take hG (hr.mono (by decide)) (by rfl) (pa_cons (pv 0) (pa_cons (pv 6) pa_nil))))) pa_nil)))))) (pss_cons (ps_if (L2.PW.pt (pw_and (pt_cmpR (op_eqX hr.units) (pe_ix ix_seq (pv 1) pe_int (fun _ _ => rfl)) pe_str (nomark _)) (pw_and1 (pt_cmpR (op_eqX hr.units) (pe_df D__law_take hG (hr.mono (by decide)) (by rfl) (pa_cons (pv 0) (pa_cons pe_int pa_nil))) pe_int (nomark _))))) (pss_one (ps_set (i := 4) sc__law_widths.nd rfl (by first | exact .inl rfl | exact .inr rfl) (pe_op op_cat (pe_op op_addX (pe_lst (pa_cons pe_int pa_nil)) (pe_slice sl_X (pv 4) (po_some pe_int) (po_some (pe_un un_neg pe_int)))) (pe_lst (pa_cons pe_int pa_nil))))) pss_nil) (pss_one (ps_ret (pe_tupleOf (by rfl) N.tuple (pv 4))))))))
end
end Ke
namespace Ke
open PySem PySem.Spec PyProof.Rows L2 Xg Dv Kd
section
variable {P : Program} {w : World} {K : PySem.W.Frag} {mg : Str → Option Value} {base : Heap}
theorem sc__law_lot : FnScope ["_law_box_here", "_law_plan", "_law_way", "_law_found", "_law_room", "_law_part"] ["_law_box_here", "_law_plan"] (defScope (topS 33)) := ⟨rfl, rfl, rfl, by decide +kernel, rfl, by decide +kernel, by decide +kernel⟩
theorem ok__law_lot {f : Addr} {fd : FuncData} (F : Fun K "_law_lot" "_law_lot" (topS 33) f fd) (N : Nm mg) (D__law_take : Df P w K mg base "_law_take" ["_law_box_here", "_law_below"] 1 (spD K 1 F_take)) : FnG P w K mg base 2 f fd ["_law_box_here", "_law_plan"] (spD K 201 F__law_lot) := by
  unfold F__law_lot
  exact okD F sc__law_lot (s__law_lot K) fun cdv A outer s H hG hr => (pss_cons (ps_set (i := 2) sc__law_lot.nd rfl (by first | exact .inl rfl | exact .inr rfl) (pe_df D__law_take hG (hr.mono (by decide)) (by rfl) (pa_cons (pv 0) (pa_cons pe_int pa_nil)))) (pss_cons (ps_set (i := 3) sc__law_lot.nd rfl (by first | exact .inl rfl | exact .inr rfl) (pe_lst pa_nil)) (pss_cons (ps_for PassesOwn.never rfl (Pw.pi_seq (pe_ix ix_seq (pv 1) pe_int (fun _ _ => rfl))) (pg_name (i := 4) sc__law_lot.nd rfl (by first | exact .inl rfl | exact .inr rfl)) (pss_cons (ps_set (i := 5) sc__law_lot.nd rfl (by first | exact .inl rfl | exact .inr rfl) (pe_df D__law_take hG (hr.mono (by decide)) (by rfl) (pa_cons (pv 0) (pa_cons (pe_op op_addX (pv 4) pe_int) pa_nil)))) (pss_one (ps_expr (pe_bm PySem.F.plainAttrs_list PySem.F.slot_list_append PySem.F.type_list_append mt_append (pv 3) (pa_cons (pe_ifExp (pt_cmpR (op_eqX hr.units) (pv 2) pe_int (nomark _)) (pe_ix ix_seq (pe_lst (pa_cons (pv 5) (pa_cons pe_int (pa_cons (pv 4) pa_nil)))) (pe_df D__law_take hG (hr.mono (by decide)) (by rfl) (pa_cons (pv 0) (pa_cons pe_int pa_nil))) (fun _ _ => rfl)) (pv 5)) pa_nil)))))) (pss_one (ps_ret (pe_tupleOf (by rfl) N.tuple (pv 3)))))))
end
end Ke
namespace Ke
open PySem PySem.Spec PyProof.Rows L2 Xg Dv Kd
section
variable {P : Program} {w : World} {K : PySem.W.Frag} {mg : Str → Option Value} {base : Heap}
theorem sc__law_step : FnScope ["_law_plan", "_law_wides", "_law_lot_here", "_law_one", "_law_mate", "_law_size", "_law_found"] ["_law_plan", "_law_wides", "_law_lot_here", "_law_one", "_law_mate"] (defScope (topS 34)) := ⟨rfl, rfl, rfl, by decide +kernel, rfl, by decide +kernel, by decide +kernel⟩
theorem ok__law_step {f : Addr} {fd : FuncData} (F : Fun K "_law_step" "_law_step" (topS 34) f fd) (N : Nm mg) (D__law_gates : Df P w K mg base "_law_gates" ["_law_plan"] 1 (spD K 0 F__law_gates)) : FnG P w K mg base 2 f fd ["_law_plan", "_law_wides", "_law_lot_here", "_law_one", "_law_mate"] (spD K 0 F__law_step) := by
  unfold F__law_step
  exact okD F sc__law_step (s__law_step K) fun cdv A outer s H hG hr => (pss_cons (ps_par (i := 5) (j := 6) rfl sc__law_step.nd rfl rfl (by decide) rfl rfl (pa_cons (pe_df D__law_gates hG (hr.mono (by decide)) (by rfl) (pa_cons (pv 0) pa_nil)) (pa_cons (pe_lst pa_nil) pa_nil)) (by rfl)) (pss_cons (ps_if (L2.PW.pt (pw_and (pt_cmpR (op_eqX hr.units) (pv 3) (pv 4) (nomark _)) (pw_and1 (pt_cmpR op_notN (pe_ix ix_seq (pv 1) (pv 3) (fun _ _ => rfl)) pe_non (nomark _))))) (pss_one (ps_expr (pe_bm PySem.F.plainAttrs_list PySem.F.slot_list_append PySem.F.type_list_append mt_append (pv 6) (pa_cons (pe_ix ix_seq (pv 1) (pv 3) (fun _ _ => rfl)) pa_nil)))) pss_nil) (pss_cons (ps_if (L2.PW.pt (pw_and (L2.PW.pt (pw_or (pt_cmpR (op_eqX hr.units) (pe_ix ix_seq (pv 0) pe_int (fun _ _ => rfl)) pe_str (nomark _)) (pw_or1 (pt_cmpR op_gt (pv 3) pe_int (nomark _))))) (pw_and1 (pt_cmpR (op_eqX hr.units) (pv 4) (pe_op op_mod (pe_op op_sub (pv 3) pe_int) (pv 5)) (nomark _))))) (pss_one (ps_expr (pe_bm PySem.F.plainAttrs_list PySem.F.slot_list_append PySem.F.type_list_append mt_append (pv 6) (pa_cons (pe_ix ix_seq (pv 2) (pe_op op_sub (pv 3) pe_int) (fun _ _ => rfl)) pa_nil)))) pss_nil) (pss_cons (ps_if (L2.PW.pt (pw_and (L2.PW.pt (pw_or (pt_cmpR (op_eqX hr.units) (pe_ix ix_seq (pv 0) pe_int (fun _ _ => rfl)) pe_str (nomark _)) (pw_or1 (pt_cmpR op_lt (pv 3) (pe_callB call_len (by rfl) N.len PySem.boot_len (pa_cons (pe_ix ix_seq (pv 0) pe_int (fun _ _ => rfl)) pa_nil)) (nomark _))))) (pw_and1 (pt_cmpR (op_eqX hr.units) (pv 4) (pe_op op_mod (pe_op op_addX (pv 3) pe_int) (pv 5)) (nomark _))))) (pss_one (ps_expr (pe_bm PySem.F.plainAttrs_list PySem.F.slot_list_append PySem.F.type_list_append mt_append (pv 6) (pa_cons (pe_op op_sub (pe_ix ix_seq (pe_ix ix_seq (pv 0) pe_int (fun _ _ => rfl)) (pv 3) (fun _ _ => rfl)) (pe_ix ix_seq (pv 2) (pv 3) (fun _ _ => rfl))) pa_nil)))) pss_nil) (pss_one (ps_ret (pe_ifExp (pt_cmpR (op_neX hr.units) (pv 6) (pe_lst pa_nil) (nomark _)) (pe_callB (cr_minX rfl) (by rfl) N.min (by decide +kernel) (pa_cons (pv 6) pa_nil)) pe_non)))))))
end
end Ke
namespace Ke
open PySem PySem.Spec PyProof.Rows L2 Xg Dv Kd
section
variable {P : Program} {w : World} {K : PySem.W.Frag} {mg : Str → Option Value} {base : Heap}
theorem sc__law_prices : FnScope ["_law_plan", "_law_wides", "_law_lot_here", "_law_often", "_law_size", "_law_steps", "_law_found", "_law_turn", "_law_later", "_law_row", "_law_ends", "_law_mate", "_law_some", "_law_one", "_law_mid", "_law_part"] ["_law_plan", "_law_wides", "_law_lot_here", "_law_often"] (defScope (topS 35)) := ⟨rfl, rfl, rfl, by decide +kernel, rfl, by decide +kernel, by decide +kernel⟩
theorem ok__law_prices {f : Addr} {fd : FuncData} (F : Fun K "_law_prices" "_law_prices" (topS 35) f fd) (N : Nm mg) (D__law_gates : Df P w K mg base "_law_gates" ["_law_plan"] 1 (spD K 0 F__law_gates)) (D__law_step : Df P w K mg base "_law_step" ["_law_plan", "_law_wides", "_law_lot_here", "_law_one", "_law_mate"] 2 (spD K 0 F__law_step)) : FnG P w K mg base 3 f fd ["_law_plan", "_law_wides", "_law_lot_here", "_law_often"] (spD K 0 F__law_prices) := by
  unfold F__law_prices
  exact okD F sc__law_prices (s__law_prices K) fun cdv A outer s H hG hr => (pss_cons (ps_set (i := 4) sc__law_prices.nd rfl (by first | exact .inl rfl | exact .inr rfl) (pe_df D__law_gates hG (hr.mono (by decide)) (by rfl) (pa_cons (pv 0) pa_nil))) (pss_cons (ps_set (i := 5) sc__law_prices.nd rfl (by first | exact .inl rfl | exact .inr rfl) (pe_lc (own := [("_law_one", 13)]) rfl sc__law_prices.nd (pi_range1 (by rfl) N.range (pa_cons (pv 4) pa_nil)) (blkOk_by (N := ["_law_plan", "_law_wides", "_law_lot_here", "_law_often", "_law_size", "_law_steps", "_law_found", "_law_turn", "_law_later", "_law_row", "_law_ends", "_law_mate", "_law_some", "_law_one", "_law_mid", "_law_part"]) (sc := defScope (topS 35)) (by decide +kernel)) (fun _ _ _ _ _ => (pg_name (i := 13) sc__law_prices.nd rfl (by first | exact .inl rfl | exact .inr rfl))) (fun _ _ _ _ _ => pts_nil) (fun _ _ _ _ _ => (pe_lc (own := [("_law_mate", 11)]) rfl sc__law_prices.nd (pi_range1 (by rfl) N.range (pa_cons (pv 4) pa_nil)) (blkOk_by (N := ["_law_plan", "_law_wides", "_law_lot_here", "_law_often", "_law_size", "_law_steps", "_law_found", "_law_turn", "_law_later", "_law_row", "_law_ends", "_law_mate", "_law_some", "_law_one", "_law_mid", "_law_part"]) (sc := relS _ (defScope (topS 35))) (by decide +kernel)) (fun _ _ _ _ _ => (pg_name (i := 11) sc__law_prices.nd rfl (by first | exact .inl rfl | exact .inr rfl))) (fun _ _ _ _ _ => pts_nil) (fun _ _ _ _ _ => (pe_df D__law_step hG (hr.mono (by decide)) (by rfl) (pa_cons (pv 0) (pa_cons (pv 1) (pa_cons (pv 2) (pa_cons (pv 13) (pa_cons (pv 11) pa_nil))))))))))) (pss_cons (ps_setLc (i := 6) (own := [("_law_one", 13)]) rfl sc__law_prices.nd rfl rfl (sw_true rfl rfl rfl (by decide +kernel)) (pi_range1 (by rfl) N.range (pa_cons (pv 4) pa_nil)) (blkOk_by (N := ["_law_plan", "_law_wides", "_law_lot_here", "_law_often", "_law_size", "_law_steps", "_law_found", "_law_turn", "_law_later", "_law_row", "_law_ends", "_law_mate", "_law_some", "_law_one", "_law_mid", "_law_part"]) (sc := defScope (topS 35)) (by decide +kernel)) (fun _ _ _ _ _ => (pg_name (i := 13) sc__law_prices.nd rfl (by first | exact .inl rfl | exact .inr rfl))) (fun _ _ _ _ _ => pts_nil) (fun _ _ _ _ _ => (pe_lc (own := [("_law_mate", 11)]) rfl sc__law_prices.nd (pi_range1 (by rfl) N.range (pa_cons (pv 4) pa_nil)) (blkOk_by (N := ["_law_plan", "_law_wides", "_law_lot_here", "_law_often", "_law_size", "_law_steps", "_law_found", "_law_turn", "_law_later", "_law_row", "_law_ends", "_law_mate", "_law_some", "_law_one", "_law_mid", "_law_part"]) (sc := relS _ (defScope (topS 35))) (by decide +kernel)) (fun _ _ _ _ _ => (pg_name (i := 11) sc__law_prices.nd rfl (by first | exact .inl rfl | exact .inr rfl))) (fun _ _ _ _ _ => pts_nil) (fun _ _ _ _ _ => (pe_ifExp (pt_cmpR (op_eqX hr.units) (pv 13) (pv 11) (nomark _)) pe_int pe_non))))) (pss_cons (ps_for PassesOwn.never rfl (pi_range1 (by rfl) N.range (pa_cons (pv 3) pa_nil)) (pg_name (i := 7) sc__law_prices.nd rfl (by first | exact .inl rfl | exact .inr rfl)) (pss_cons (ps_set (i := 8) sc__law_prices.nd rfl (by first | exact .inl rfl | exact .inr rfl) (pe_lst pa_nil)) (pss_cons (ps_for PassesOwn.never rfl (Pw.pi_seq (pv 6)) (pg_name (i := 9) sc__law_prices.nd rfl (by first | exact .inl rfl | exact .inr rfl)) (pss_cons (ps_set (i := 10) sc__law_prices.nd rfl (by first | exact .inl rfl | exact .inr rfl) (pe_lst pa_nil)) (pss_cons (ps_for PassesOwn.never rfl (pi_range1 (by rfl) N.range (pa_cons (pv 4) pa_nil)) (pg_name (i := 11) sc__law_prices.nd rfl (by first | exact .inl rfl | exact .inr rfl)) (pss_cons (ps_setLc (i := 12) (own := [("_law_mid", 14), ("_law_part", 15)]) rfl sc__law_prices.nd rfl rfl (sw_true rfl rfl rfl (by decide +kernel)) (Pw.pi_enumX (by rfl) N.enumerate (pa_cons (pv 9) pa_nil)) (blkOk_by (N := ["_law_plan", "_law_wides", "_law_lot_here", "_law_often", "_law_size", "_law_steps", "_law_found", "_law_turn", "_law_later", "_law_row", "_law_ends", "_law_mate", "_law_some", "_law_one", "_law_mid", "_law_part"]) (sc := defScope (topS 35)) (by decide +kernel)) (fun _ _ _ _ _ => (pg_or (pg_tup rfl (pgs_cons (pg_name (i := 14) sc__law_prices.nd rfl (by first | exact .inl rfl | exact .inr rfl)) (pgs_cons (pg_name (i := 15) sc__law_prices.nd rfl (by first | exact .inl rfl | exact .inr rfl)) pgs_nil))) (pg_lst rfl (pgs_cons (pg_name (i := 14) sc__law_prices.nd rfl (by first | exact .inl rfl | exact .inr rfl)) (pgs_cons (pg_name (i := 15) sc__law_prices.nd rfl (by first | exact .inl rfl | exact .inr rfl)) pgs_nil))))) (fun _ _ _ _ _ => (pts_one (L2.PW.pt (pw_and (pt_cmpR op_notN (pv 15) pe_non (nomark _)) (pw_and1 (pt_cmpR op_notN (pe_ix ix_seq (pe_ix ix_seq (pv 5) (pv 14) (fun _ _ => rfl)) (pv 11) (fun _ _ => rfl)) pe_non (nomark _))))))) (fun _ _ _ _ _ => (pe_op op_addX (pv 15) (pe_ix ix_seq (pe_ix ix_seq (pv 5) (pv 14) (fun _ _ => rfl)) (pv 11) (fun _ _ => rfl))))) (pss_one (ps_expr (pe_bm PySem.F.plainAttrs_list PySem.F.slot_list_append PySem.F.type_list_append mt_append (pv 10) (pa_cons (pe_ifExp (pt_cmpR (op_neX hr.units) (pv 12) (pe_lst pa_nil) (nomark _)) (pe_callB (cr_minX rfl) (by rfl) N.min (by decide +kernel) (pa_cons (pv 12) pa_nil)) pe_non) pa_nil)))))) (pss_one (ps_expr (pe_bm PySem.F.plainAttrs_list PySem.F.slot_list_append PySem.F.type_list_append mt_append (pv 8) (pa_cons (pv 10) pa_nil))))))) (pss_one (ps_set (i := 6) sc__law_prices.nd rfl (by first | exact .inl rfl | exact .inr rfl) (pv 8)))))) (pss_one (ps_ret (pv 6)))))))
end
end Ke
namespace Ke
open PySem PySem.Spec PyProof.Rows L2 Xg Dv Kd
section
variable {P : Program} {w : World} {K : PySem.W.Frag} {mg : Str → Option Value} {base : Heap}
theorem sc__law_least : FnScope ["_law_row", "_law_numbers", "_law_part", "_law_number"] ["_law_row", "_law_numbers"] (defScope (topS 36)) := ⟨rfl, rfl, rfl, by decide +kernel, rfl, by decide +kernel, by decide +kernel⟩
theorem ok__law_least {f : Addr} {fd : FuncData} (F : Fun K "_law_least" "_law_least" (topS 36) f fd) (N : Nm mg) : FnG P w K mg base 1 f fd ["_law_row", "_law_numbers"] (spD K 0 F__law_least) := by
  unfold F__law_least
  exact okD F sc__law_least (s__law_least K) fun cdv A outer s H hG hr => (pss_one (ps_ret (pe_callB (cr_min rfl) (by rfl) N.min (by decide +kernel) (pa_cons (pe_lc (own := [("_law_part", 2), ("_law_number", 3)]) rfl sc__law_least.nd (Pw.pi_zipX (by rfl) N.zip (pa_cons (pv 0) (pa_cons (pv 1) pa_nil))) (blkOk_by (N := ["_law_row", "_law_numbers", "_law_part", "_law_number"]) (sc := defScope (topS 36)) (by decide +kernel)) (fun _ _ _ _ _ => (pg_or (pg_tup rfl (pgs_cons (pg_name (i := 2) sc__law_least.nd rfl (by first | exact .inl rfl | exact .inr rfl)) (pgs_cons (pg_name (i := 3) sc__law_least.nd rfl (by first | exact .inl rfl | exact .inr rfl)) pgs_nil))) (pg_lst rfl (pgs_cons (pg_name (i := 2) sc__law_least.nd rfl (by first | exact .inl rfl | exact .inr rfl)) (pgs_cons (pg_name (i := 3) sc__law_least.nd rfl (by first | exact .inl rfl | exact .inr rfl)) pgs_nil))))) (fun _ _ _ _ _ => (pts_one (pt_cmpR op_notN (pv 2) pe_non (nomark _)))) (fun _ _ _ _ _ => (pe_op op_addX (pv 2) (pv 3)))) pa_nil))))
end
end Ke
namespace Ke
open PySem PySem.Spec PyProof.Rows L2 Xg Dv Kd
section
variable {P : Program} {w : World} {K : PySem.W.Frag} {mg : Str → Option Value} {base : Heap}
theorem sc__law_most : FnScope ["_law_column", "_law_numbers", "_law_part", "_law_number"] ["_law_column", "_law_numbers"] (defScope (topS 37)) := ⟨rfl, rfl, rfl, by decide +kernel, rfl, by decide +kernel, by decide +kernel⟩
theorem ok__law_most {f : Addr} {fd : FuncData} (F : Fun K "_law_most" "_law_most" (topS 37) f fd) (N : Nm mg) : FnG P w K mg base 1 f fd ["_law_column", "_law_numbers"] (spD K 0 F__law_most) := by
  unfold F__law_most
  exact okD F sc__law_most (s__law_most K) fun cdv A outer s H hG hr => (pss_one (ps_ret (pe_callB (cr_max rfl) (by rfl) N.max (by decide +kernel) (pa_cons (pe_lc (own := [("_law_part", 2), ("_law_number", 3)]) rfl sc__law_most.nd (Pw.pi_zipX (by rfl) N.zip (pa_cons (pv 0) (pa_cons (pv 1) pa_nil))) (blkOk_by (N := ["_law_column", "_law_numbers", "_law_part", "_law_number"]) (sc := defScope (topS 37)) (by decide +kernel)) (fun _ _ _ _ _ => (pg_or (pg_tup rfl (pgs_cons (pg_name (i := 2) sc__law_most.nd rfl (by first | exact .inl rfl | exact .inr rfl)) (pgs_cons (pg_name (i := 3) sc__law_most.nd rfl (by first | exact .inl rfl | exact .inr rfl)) pgs_nil))) (pg_lst rfl (pgs_cons (pg_name (i := 2) sc__law_most.nd rfl (by first | exact .inl rfl | exact .inr rfl)) (pgs_cons (pg_name (i := 3) sc__law_most.nd rfl (by first | exact .inl rfl | exact .inr rfl)) pgs_nil))))) (fun _ _ _ _ _ => (pts_one (pt_cmpR op_notN (pv 2) pe_non (nomark _)))) (fun _ _ _ _ _ => (pe_op op_sub (pv 3) (pv 2)))) pa_nil))))
end
end Ke
namespace Ke
open PySem PySem.Spec PyProof.Rows L2 Xg Dv Kd
section
variable {P : Program} {w : World} {K : PySem.W.Frag} {mg : Str → Option Value} {base : Heap}
theorem sc_Table : FnScope ["self", "line", "widths", "standing", "many", "form", "rooms"] ["self", "line", "widths", "standing", "many"] (defScope (inClass (topS 14) 0)) := ⟨rfl, rfl, rfl, by decide +kernel, rfl, by decide +kernel, by decide +kernel⟩
theorem ok_Table {f : Addr} {fd : FuncData} (F : Fun K "__init__" "Table.__init__" (inClass (topS 14) 0) f fd) (N : Nm mg) (D_grid_of : Df P w K mg base "grid_of" ["line", "widths", "standing", "many"] 6 (spD K 0 F_grid_of)) (DN_grid_of : Df P w K mg base "grid_of" ["line", "widths", "standing", "many"] 6 (spN K 0 N_grid_of)) : FnG P w K mg base 7 f fd ["self", "line", "widths", "standing", "many"] (spI K 0 F_Table) := by
  unfold F_Table
  exact okI F sc_Table rfl rfl (sM_Table K) (sG_Table K) fun cdv A outer s H hG hr => (pss_cons (ps_asg (pv 1) (pg_or (pg_tup rfl (pgs_cons (pg_name (i := 5) sc_Table.nd rfl (by first | exact .inl rfl | exact .inr rfl)) (pgs_cons (pg_name (i := 6) sc_Table.nd rfl (by first | exact .inl rfl | exact .inr rfl)) pgs_nil))) (pg_lst rfl (pgs_cons (pg_name (i := 5) sc_Table.nd rfl (by first | exact .inl rfl | exact .inr rfl)) (pgs_cons (pg_name (i := 6) sc_Table.nd rfl (by first | exact .inl rfl | exact .inr rfl)) pgs_nil))))) (pss_cons (ps_fld (pv 0) (pe_tup (pa_cons (pe_tup (pa_cons (pv 5) (pa_cons (pe_tupleOf (by rfl) N.tuple (pv 6)) pa_nil))) (pa_cons (pe_tupleOf (by rfl) N.tuple (pv 2)) (pa_cons (pe_tupleOf (by rfl) N.tuple (pv 3)) pa_nil)))) rfl) (pss_cons (ps_fld (pv 0) (pv 4) rfl) (pss_one (ps_fld (pv 0) (pe_df D_grid_of hG (hr.mono (by decide)) (by rfl) (pa_cons (pv 1) (pa_cons (pv 2) (pa_cons (pv 3) (pa_cons (pv 4) pa_nil))))) rfl)))))
theorem okN_Table {f : Addr} {fd : FuncData} (F : Fun K "__init__" "Table.__init__" (inClass (topS 14) 0) f fd) (N : Nm mg) (D_grid_of : Df P w K mg base "grid_of" ["line", "widths", "standing", "many"] 6 (spD K 0 F_grid_of)) (DN_grid_of : Df P w K mg base "grid_of" ["line", "widths", "standing", "many"] 6 (spN K 0 N_grid_of)) : FnG P w K mg base 7 f fd ["self", "line", "widths", "standing", "many"] (spIN K 0 FI_Table) := by
  unfold FI_Table
  exact okIN F sc_Table rfl rfl (sM_Table K) (sN_Table K) fun cdv A outer s H hG hr => (pss_cons (ps_asg (pv 1) (pg_or (pg_tup rfl (pgs_cons (pg_name (i := 5) sc_Table.nd rfl (by first | exact .inl rfl | exact .inr rfl)) (pgs_cons (pg_name (i := 6) sc_Table.nd rfl (by first | exact .inl rfl | exact .inr rfl)) pgs_nil))) (pg_lst rfl (pgs_cons (pg_name (i := 5) sc_Table.nd rfl (by first | exact .inl rfl | exact .inr rfl)) (pgs_cons (pg_name (i := 6) sc_Table.nd rfl (by first | exact .inl rfl | exact .inr rfl)) pgs_nil))))) (pss_cons (ps_fld (pv 0) (pe_tup (pa_cons (pe_tup (pa_cons (pv 5) (pa_cons (pe_tupleOf (by rfl) N.tuple (pv 6)) pa_nil))) (pa_cons (pe_tupleOf (by rfl) N.tuple (pv 2)) (pa_cons (pe_tupleOf (by rfl) N.tuple (pv 3)) pa_nil)))) rfl) (pss_cons (ps_fld (pv 0) (pv 4) rfl) (pss_one (ps_fld (pv 0) (pe_df DN_grid_of hG (hr.mono (by decide)) (by rfl) (pa_cons (pv 1) (pa_cons (pv 2) (pa_cons (pv 3) (pa_cons (pv 4) pa_nil))))) rfl)))))
end
end Ke
namespace Ke
open PySem PySem.Spec PyProof.Rows L2 Xg Dv Kd
section
variable {P : Program} {w : World} {K : PySem.W.Frag} {mg : Str → Option Value} {base : Heap}
theorem sc_Table_price : FnScope ["self", "gate", "other"] ["self", "gate", "other"] (defScope (inClass (topS 14) 2)) := ⟨rfl, rfl, rfl, by decide +kernel, rfl, by decide +kernel, by decide +kernel⟩
theorem ok_Table_price {f : Addr} {fd : FuncData} (F : Fun K "price" "Table.price" (inClass (topS 14) 2) f fd) (N : Nm mg) : FnG P w K mg base 1 f fd ["self", "gate", "other"] (spD K 0 F_Table_price) := by
  unfold F_Table_price
  exact okD F sc_Table_price (s_Table_price K) fun cdv A outer s H hG hr => (pss_one (ps_ret (pe_ix ix_seq (pe_ix ix_seq (pe_fld (pv 0) rfl) (pv 1) (fun _ _ => rfl)) (pv 2) (fun _ _ => rfl))))
end
end Ke
namespace Ke
open PySem PySem.Spec PyProof.Rows L2 Xg Dv Kd
section
variable {P : Program} {w : World} {K : PySem.W.Frag} {mg : Str → Option Value} {base : Heap}
theorem sc_Table_steps : FnScope ["self"] ["self"] (defScope (inClass (topS 14) 1)) := ⟨rfl, rfl, rfl, by decide +kernel, rfl, by decide +kernel, by decide +kernel⟩
theorem ok_Table_steps {f : Addr} {fd : FuncData} (F : Fun K "steps" "Table.steps" (inClass (topS 14) 1) f fd) (N : Nm mg) : FnG P w K mg base 1 f fd ["self"] (spD K 0 F_Table_steps) := by
  unfold F_Table_steps
  exact okD F sc_Table_steps (s_Table_steps K) fun cdv A outer s H hG hr => (pss_one (ps_ret (pe_fld (pv 0) rfl)))
end
end Ke
namespace Ke
open PySem PySem.Spec PyProof.Rows L2 Xg Dv Kd
section
variable {P : Program} {w : World} {K : PySem.W.Frag} {mg : Str → Option Value} {base : Heap}
theorem sc_Table_led : FnScope ["self", "counts"] ["self", "counts"] (defScope (inClass (topS 14) 5)) := ⟨rfl, rfl, rfl, by decide +kernel, rfl, by decide +kernel, by decide +kernel⟩
theorem ok_Table_led {f : Addr} {fd : FuncData} (F : Fun K "led" "Table.led" (inClass (topS 14) 5) f fd) (N : Nm mg) (D_led_by : Df P w K mg base "led_by" ["grid", "numbers"] 2 (spD K 0 F_led_by)) (DL_led_by : Df P w K mg base "led_by" ["grid", "numbers"] 2 (spL K 0 L_led_by)) : FnG P w K mg base 3 f fd ["self", "counts"] (spD K 0 F_Table_led) := by
  unfold F_Table_led
  exact okD F sc_Table_led (s_Table_led K) fun cdv A outer s H hG hr => (pss_one (ps_ret (pe_tupleOf (by rfl) N.tuple (pe_df D_led_by hG (hr.mono (by decide)) (by rfl) (pa_cons (pe_fld (pv 0) rfl) (pa_cons (pv 1) pa_nil))))))
end
end Ke
namespace Ke
open PySem PySem.Spec PyProof.Rows L2 Xg Dv Kd
section
variable {P : Program} {w : World} {K : PySem.W.Frag} {mg : Str → Option Value} {base : Heap}
theorem sc_Table_counts : FnScope ["self"] ["self"] (defScope (inClass (topS 14) 3)) := ⟨rfl, rfl, rfl, by decide +kernel, rfl, by decide +kernel, by decide +kernel⟩
theorem ok_Table_counts {f : Addr} {fd : FuncData} (F : Fun K "counts" "Table.counts" (inClass (topS 14) 3) f fd) (N : Nm mg) (M_Table_led : Mf P w K mg base "led" ["self", "counts"] 3 (spD K 0 F_Table_led)) : FnG P w K mg base 4 f fd ["self"] (spD K 0 F_Table_counts) := by
  unfold F_Table_counts
  exact okD F sc_Table_counts (s_Table_counts K) fun cdv A outer s H hG hr => (pss_one (ps_ret (pe_methT M_Table_led (pv 0) hG (hr.mono (by decide)) (pa_cons (pe_op op_mulX (pe_lst (pa_cons pe_int pa_nil)) (pe_callB call_len (by rfl) N.len PySem.boot_len (pa_cons (pe_fld (pv 0) rfl) pa_nil))) pa_nil))))
end
end Ke
namespace Ke
open PySem PySem.Spec PyProof.Rows L2 Xg Dv Kd
section
variable {P : Program} {w : World} {K : PySem.W.Frag} {mg : Str → Option Value} {base : Heap}
theorem sc_Table_led_back : FnScope ["self", "counts"] ["self", "counts"] (defScope (inClass (topS 14) 6)) := ⟨rfl, rfl, rfl, by decide +kernel, rfl, by decide +kernel, by decide +kernel⟩
theorem ok_Table_led_back {f : Addr} {fd : FuncData} (F : Fun K "led_back" "Table.led_back" (inClass (topS 14) 6) f fd) (N : Nm mg) (D_led_back_by : Df P w K mg base "led_back_by" ["grid", "numbers"] 2 (spD K 0 F_led_back_by)) (DL_led_back_by : Df P w K mg base "led_back_by" ["grid", "numbers"] 2 (spL K 0 L_led_back_by)) : FnG P w K mg base 3 f fd ["self", "counts"] (spD K 0 F_Table_led_back) := by
  unfold F_Table_led_back
  exact okD F sc_Table_led_back (s_Table_led_back K) fun cdv A outer s H hG hr => (pss_one (ps_ret (pe_tupleOf (by rfl) N.tuple (pe_df D_led_back_by hG (hr.mono (by decide)) (by rfl) (pa_cons (pe_fld (pv 0) rfl) (pa_cons (pv 1) pa_nil))))))
end
end Ke
namespace Ke
open PySem PySem.Spec PyProof.Rows L2 Xg Dv Kd
section
variable {P : Program} {w : World} {K : PySem.W.Frag} {mg : Str → Option Value} {base : Heap}
theorem sc__law_right : FnScope ["_law_box_here", "_law_turn", "_law_plan", "_law_wides", "_law_lot_here", "_law_often", "_law_size", "_law_due", "_law_given", "_law_numbers", "_law_both", "_law_tab", "_law_found", "_law_ends", "_law_door", "_law_one", "_law_some", "_law_mate", "_law_row"] ["_law_box_here"] (defScope (topS 38)) := ⟨rfl, rfl, rfl, by decide +kernel, rfl, by decide +kernel, by decide +kernel⟩
theorem ok__law_right {f : Addr} {fd : FuncData} (F : Fun K "_law_right" "_law_right" (topS 38) f fd) (N : Nm mg) (MI_Table : Mi P w K mg base ["self", "line", "widths", "standing", "many"] 7 (spI K 0 F_Table)) (M_Table_counts : Mf P w K mg base "counts" ["self"] 4 (spD K 0 F_Table_counts)) (M_Table_led : Mf P w K mg base "led" ["self", "counts"] 3 (spD K 0 F_Table_led)) (M_Table_led_back : Mf P w K mg base "led_back" ["self", "counts"] 3 (spD K 0 F_Table_led_back)) (M_Table_price : Mf P w K mg base "price" ["self", "gate", "other"] 1 (spD K 0 F_Table_price)) (M_Table_steps : Mf P w K mg base "steps" ["self"] 1 (spD K 0 F_Table_steps)) (D__law_gates : Df P w K mg base "_law_gates" ["_law_plan"] 1 (spD K 0 F__law_gates)) (D__law_least : Df P w K mg base "_law_least" ["_law_row", "_law_numbers"] 1 (spD K 0 F__law_least)) (D__law_line : Df P w K mg base "_law_line" ["_law_box_here", "_law_most_here", "_law_high"] 3 (spD K 103 F__law_line)) (D__law_lot : Df P w K mg base "_law_lot" ["_law_box_here", "_law_plan"] 2 (spD K 201 F__law_lot)) (D__law_most : Df P w K mg base "_law_most" ["_law_column", "_law_numbers"] 1 (spD K 0 F__law_most)) (D__law_prices : Df P w K mg base "_law_prices" ["_law_plan", "_law_wides", "_law_lot_here", "_law_often"] 3 (spD K 0 F__law_prices)) (D__law_same : Df P w K mg base "_law_same" ["_law_found", "_law_due"] 6 (spD K 0 F_same)) (D__law_take : Df P w K mg base "_law_take" ["_law_box_here", "_law_below"] 1 (spD K 1 F_take)) (D__law_widths : Df P w K mg base "_law_widths" ["_law_box_here", "_law_plan", "_law_high"] 3 (spD K 202 F__law_widths)) (MIN_Table : Mi P w K mg base ["self", "line", "widths", "standing", "many"] 7 (spIN K 0 FI_Table)) (MIK_Table : MiK P w K mg base ["self", "line", "widths", "standing", "many"] ["many", "standing", "widths", "line"] 7 (spI K 0 F_Table)) (MV_Table_led_back : MfR P w K mg base "led_back" ["self", "counts"] ["counts"] 3 (spD K 0 F_Table_led_back)) (MV_Table_price : MfR P w K mg base "price" ["self", "gate", "other"] ["other", "gate"] 1 (spD K 0 F_Table_price)) : FnG P w K mg base 9 f fd ["_law_box_here"] (spD K 1824 F__law_right) := by
  unfold F__law_right
  exact okD F sc__law_right (s__law_right K) fun cdv A outer s H hG hr => (pss_cons (ps_for PassesOwn.never rfl (pi_range1 (by rfl) N.range (pa_cons pe_int pa_nil)) (pg_name (i := 1) sc__law_right.nd rfl (by first | exact .inl rfl | exact .inr rfl)) (pss_cons (ps_set (i := 2) sc__law_right.nd rfl (by first | exact .inl rfl | exact .inr rfl) (pe_df D__law_line hG (hr.mono (by decide)) (by rfl) (pa_cons (pv 0) (pa_cons pe_int (pa_cons (pe_ix ix_seq (pe_lst (pa_cons pe_int (pa_cons (pe_op op_pow pe_int pe_int) pa_nil))) (pe_df D__law_take hG (hr.mono (by decide)) (by rfl) (pa_cons (pv 0) (pa_cons pe_int pa_nil))) (fun _ _ => rfl)) pa_nil))))) (pss_cons (ps_par3 (i := 3) (j := 4) (l := 5) rfl sc__law_right.nd rfl rfl rfl (by decide) (by decide) (by decide) rfl rfl rfl (pa_cons (pe_df D__law_widths hG (hr.mono (by decide)) (by rfl) (pa_cons (pv 0) (pa_cons (pv 2) (pa_cons pe_int pa_nil)))) (pa_cons (pe_df D__law_lot hG (hr.mono (by decide)) (by rfl) (pa_cons (pv 0) (pa_cons (pv 2) pa_nil))) (pa_cons (pe_df D__law_take hG (hr.mono (by decide)) (by rfl) (pa_cons (pv 0) (pa_cons pe_int pa_nil))) pa_nil))) (by rfl)) (pss_cons (ps_set (i := 6) sc__law_right.nd rfl (by first | exact .inl rfl | exact .inr rfl) (pe_df D__law_gates hG (hr.mono (by decide)) (by rfl) (pa_cons (pv 2) pa_nil))) (pss_cons (ps_set (i := 7) sc__law_right.nd rfl (by first | exact .inl rfl | exact .inr rfl) (pe_df D__law_prices hG (hr.mono (by decide)) (by rfl) (pa_cons (pv 2) (pa_cons (pv 3) (pa_cons (pv 4) (pa_cons (pv 5) pa_nil)))))) (pss_cons (ps_set (i := 8) sc__law_right.nd rfl (by first | exact .inl rfl | exact .inr rfl) (pe_lst (pa_cons (pe_lst (pa_cons (pe_ix ix_seq (pv 2) pe_int (fun _ _ => rfl)) (pa_cons (pe_callTy call_list_of (by rfl) N.list (by decide +kernel) (pa_cons (pe_ix ix_seq (pv 2) pe_int (fun _ _ => rfl)) pa_nil)) pa_nil))) (pa_cons (pe_callTy call_list_of (by rfl) N.list (by decide +kernel) (pa_cons (pv 3) pa_nil)) (pa_cons (pe_callTy call_list_of (by rfl) N.list (by decide +kernel) (pa_cons (pv 4) pa_nil)) pa_nil))))) (pss_cons (ps_set (i := 9) sc__law_right.nd rfl (by first | exact .inl rfl | exact .inr rfl) (pe_lc (own := [("_law_door", 14)]) rfl sc__law_right.nd (pi_range1 (by rfl) N.range (pa_cons (pv 6) pa_nil)) (blkOk_by (N := ["_law_box_here", "_law_turn", "_law_plan", "_law_wides", "_law_lot_here", "_law_often", "_law_size", "_law_due", "_law_given", "_law_numbers", "_law_both", "_law_tab", "_law_found", "_law_ends", "_law_door", "_law_one", "_law_some", "_law_mate", "_law_row"]) (sc := defScope (topS 38)) (by decide +kernel)) (fun _ _ _ _ _ => (pg_name (i := 14) sc__law_right.nd rfl (by first | exact .inl rfl | exact .inr rfl))) (fun _ _ _ _ _ => pts_nil) (fun _ _ _ _ _ => (pe_op op_sub (pe_df D__law_take hG (hr.mono (by decide)) (by rfl) (pa_cons (pv 0) (pa_cons pe_int pa_nil))) pe_int)))) (pss_cons (ps_set (i := 10) sc__law_right.nd rfl (by first | exact .inl rfl | exact .inr rfl) (pe_lst (pa_cons (pe_makeT MIN_Table hG (hr.mono (by decide)) (by rfl) (pa_cons (pe_ix ix_seq (pv 8) pe_int (fun _ _ => rfl)) (pa_cons (pe_ix ix_seq (pv 8) pe_int (fun _ _ => rfl)) (pa_cons (pe_ix ix_seq (pv 8) pe_int (fun _ _ => rfl)) (pa_cons (pv 5) pa_nil))))) (pa_cons (pe_makeTK MIK_Table hG (hr.mono (by decide)) (by rfl) (pk_cons (pv 5) (pk_cons (pv 4) (pk_cons (pv 3) (pk_cons (pv 2) pk_nil))))) pa_nil)))) (pss_cons (ps_expr (pe_bm PySem.F.plainAttrs_list PySem.F.slot_list_append PySem.F.type_list_append mt_append (pe_ix ix_seq (pe_ix ix_seq (pv 8) pe_int (fun _ _ => rfl)) pe_int (fun _ _ => rfl)) (pa_cons pe_int pa_nil))) (pss_cons (ps_expr (pe_bm PySem.F.plainAttrs_list PySem.F.slot_list_append PySem.F.type_list_append mt_append (pe_ix ix_seq (pv 8) pe_int (fun _ _ => rfl)) (pa_cons pe_int pa_nil))) (pss_cons (ps_expr (pe_bm PySem.F.plainAttrs_list PySem.F.slot_list_append PySem.F.type_list_append mt_append (pe_ix ix_seq (pv 8) pe_int (fun _ _ => rfl)) (pa_cons pe_int pa_nil))) (pss_one (ps_for PassesOwn.never rfl (Pw.pi_seq (pv 10)) (pg_name (i := 11) sc__law_right.nd rfl (by first | exact .inl rfl | exact .inr rfl)) (pss_cons (ps_setLc (i := 12) (own := [("_law_one", 15)]) rfl sc__law_right.nd rfl rfl (sw_true rfl rfl rfl (by decide +kernel)) (pi_range1 (by rfl) N.range (pa_cons (pv 6) pa_nil)) (blkOk_by (N := ["_law_box_here", "_law_turn", "_law_plan", "_law_wides", "_law_lot_here", "_law_often", "_law_size", "_law_due", "_law_given", "_law_numbers", "_law_both", "_law_tab", "_law_found", "_law_ends", "_law_door", "_law_one", "_law_some", "_law_mate", "_law_row"]) (sc := defScope (topS 38)) (by decide +kernel)) (fun _ _ _ _ _ => (pg_name (i := 15) sc__law_right.nd rfl (by first | exact .inl rfl | exact .inr rfl))) (fun _ _ _ _ _ => pts_nil) (fun _ _ _ _ _ => (pe_lc (own := [("_law_mate", 17)]) rfl sc__law_right.nd (pi_range1 (by rfl) N.range (pa_cons (pv 6) pa_nil)) (blkOk_by (N := ["_law_box_here", "_law_turn", "_law_plan", "_law_wides", "_law_lot_here", "_law_often", "_law_size", "_law_due", "_law_given", "_law_numbers", "_law_both", "_law_tab", "_law_found", "_law_ends", "_law_door", "_law_one", "_law_some", "_law_mate", "_law_row"]) (sc := relS _ (defScope (topS 38))) (by decide +kernel)) (fun _ _ _ _ _ => (pg_name (i := 17) sc__law_right.nd rfl (by first | exact .inl rfl | exact .inr rfl))) (fun _ _ _ _ _ => pts_nil) (fun _ _ _ _ _ => (pe_methT M_Table_price (pv 11) hG (hr.mono (by decide)) (pa_cons (pv 15) (pa_cons (pv 17) pa_nil))))))) (pss_cons (ps_set (i := 12) sc__law_right.nd rfl (by first | exact .inl rfl | exact .inr rfl) (pe_op op_addX (pv 12) (pe_lst (pa_cons (pe_methT0 M_Table_steps (pv 11) hG (hr.mono (by decide))) (pa_cons (pe_methTR MV_Table_price (pv 11) hG (hr.mono (by decide)) (pk_cons pe_int (pk_cons (pe_op op_sub (pv 6) pe_int) pk_nil))) pa_nil))))) (pss_cons (ps_if (pt_not (pt_val (pe_df D__law_same hG (hr.mono (by decide)) (by rfl) (pa_cons (pv 12) (pa_cons (pe_op op_addX (pv 7) (pe_lst (pa_cons (pv 5) (pa_cons (pe_ix ix_seq (pe_ix ix_seq (pv 7) (pe_op op_sub (pv 6) pe_int) (fun _ _ => rfl)) pe_int (fun _ _ => rfl)) pa_nil)))) pa_nil))))) (pss_one (ps_ret pe_bl)) pss_nil) (pss_cons (ps_setLc (i := 13) (own := [("_law_some", 16)]) rfl sc__law_right.nd rfl rfl (sw_true rfl rfl rfl (by decide +kernel)) (Pw.pi_seq (pe_tup (pa_cons (pe_op op_mulX (pe_lst (pa_cons pe_int pa_nil)) (pv 6)) (pa_cons (pv 9) pa_nil)))) (blkOk_by (N := ["_law_box_here", "_law_turn", "_law_plan", "_law_wides", "_law_lot_here", "_law_often", "_law_size", "_law_due", "_law_given", "_law_numbers", "_law_both", "_law_tab", "_law_found", "_law_ends", "_law_door", "_law_one", "_law_some", "_law_mate", "_law_row"]) (sc := defScope (topS 38)) (by decide +kernel)) (fun _ _ _ _ _ => (pg_name (i := 16) sc__law_right.nd rfl (by first | exact .inl rfl | exact .inr rfl))) (fun _ _ _ _ _ => pts_nil) (fun _ _ _ _ _ => (pe_tupleOf (by rfl) N.tuple (pe_lc (own := [("_law_row", 18)]) rfl sc__law_right.nd (Pw.pi_seq (pv 7)) (blkOk_by (N := ["_law_box_here", "_law_turn", "_law_plan", "_law_wides", "_law_lot_here", "_law_often", "_law_size", "_law_due", "_law_given", "_law_numbers", "_law_both", "_law_tab", "_law_found", "_law_ends", "_law_door", "_law_one", "_law_some", "_law_mate", "_law_row"]) (sc := relS _ (defScope (topS 38))) (by decide +kernel)) (fun _ _ _ _ _ => (pg_name (i := 18) sc__law_right.nd rfl (by first | exact .inl rfl | exact .inr rfl))) (fun _ _ _ _ _ => pts_nil) (fun _ _ _ _ _ => (pe_df D__law_least hG (hr.mono (by decide)) (by rfl) (pa_cons (pv 18) (pa_cons (pv 16) pa_nil)))))))) (pss_cons (ps_expr (pe_bm PySem.F.plainAttrs_list PySem.F.slot_list_append PySem.F.type_list_append mt_append (pv 13) (pa_cons (pe_tupleOf (by rfl) N.tuple (pe_lc (own := [("_law_door", 14)]) rfl sc__law_right.nd (pi_range1 (by rfl) N.range (pa_cons (pv 6) pa_nil)) (blkOk_by (N := ["_law_box_here", "_law_turn", "_law_plan", "_law_wides", "_law_lot_here", "_law_often", "_law_size", "_law_due", "_law_given", "_law_numbers", "_law_both", "_law_tab", "_law_found", "_law_ends", "_law_door", "_law_one", "_law_some", "_law_mate", "_law_row"]) (sc := defScope (topS 38)) (by decide +kernel)) (fun _ _ _ _ _ => (pg_name (i := 14) sc__law_right.nd rfl (by first | exact .inl rfl | exact .inr rfl))) (fun _ _ _ _ _ => pts_nil) (fun _ _ _ _ _ => (pe_df D__law_most hG (hr.mono (by decide)) (by rfl) (pa_cons (pe_lc (own := [("_law_row", 18)]) rfl sc__law_right.nd (Pw.pi_seq (pv 7)) (blkOk_by (N := ["_law_box_here", "_law_turn", "_law_plan", "_law_wides", "_law_lot_here", "_law_often", "_law_size", "_law_due", "_law_given", "_law_numbers", "_law_both", "_law_tab", "_law_found", "_law_ends", "_law_door", "_law_one", "_law_some", "_law_mate", "_law_row"]) (sc := relS _ (defScope (topS 38))) (by decide +kernel)) (fun _ _ _ _ _ => (pg_name (i := 18) sc__law_right.nd rfl (by first | exact .inl rfl | exact .inr rfl))) (fun _ _ _ _ _ => pts_nil) (fun _ _ _ _ _ => (pe_ix ix_seq (pv 18) (pv 14) (fun _ _ => rfl)))) (pa_cons (pv 9) pa_nil)))))) pa_nil))) (pss_one (ps_if (pt_not (pt_val (pe_df D__law_same hG (hr.mono (by decide)) (by rfl) (pa_cons (pe_lst (pa_cons (pe_methT0 M_Table_counts (pv 11) hG (hr.mono (by decide))) (pa_cons (pe_methT M_Table_led (pv 11) hG (hr.mono (by decide)) (pa_cons (pv 9) pa_nil)) (pa_cons (pe_methTR MV_Table_led_back (pv 11) hG (hr.mono (by decide)) (pk_cons (pe_tupleOf (by rfl) N.tuple (pv 9)) pk_nil)) pa_nil)))) (pa_cons (pv 13) pa_nil))))) (pss_one (ps_ret pe_bl)) pss_nil)))))))))))))))))))) (pss_one (ps_ret pe_bl)))
end
end Ke
namespace Ke
open PySem PySem.Spec PyProof.Rows L2 Xg Dv Kd
section
variable {P : Program} {w : World} {K : PySem.W.Frag} {mg : Str → Option Value} {base : Heap}
theorem sc_law : FnScope ["_law_script", "_law_k"] ["_law_script"] (defScope (topS 39)) := ⟨rfl, rfl, rfl, by decide +kernel, rfl, by decide +kernel, by decide +kernel⟩
theorem ok_law {f : Addr} {fd : FuncData} (F : Fun K "law" "law" (topS 39) f fd) (N : Nm mg) (D__law_box : Df P w K mg base "_law_box" ["_law_script", "_law_k"] 1 (spBx K)) (D__law_right : Df P w K mg base "_law_right" ["_law_box_here"] 9 (spD K 1824 F__law_right)) : FnG P w K mg base 10 f fd ["_law_script"] (spD K 182400 F_law) := by
  unfold F_law
  exact okD F sc_law (s_law K) fun cdv A outer s H hG hr => (pss_one (ps_ret (pe_callB (cr_all rfl) (by rfl) N.all (by decide +kernel) (pa_cons (pe_lc (own := [("_law_k", 1)]) rfl sc_law.nd (pi_range1 (by rfl) N.range (pa_cons (pe_op op_addX pe_int (pe_callB (call_min2 rfl) (by rfl) N.min (by decide +kernel) (pa_cons pe_int (pa_cons (pe_callB call_len (by rfl) N.len PySem.boot_len (pa_cons (pv 0) pa_nil)) pa_nil)))) pa_nil)) (blkOk_by (N := ["_law_script", "_law_k"]) (sc := defScope (topS 39)) (by decide +kernel)) (fun _ _ _ _ _ => (pg_name (i := 1) sc_law.nd rfl (by first | exact .inl rfl | exact .inr rfl))) (fun _ _ _ _ _ => pts_nil) (fun _ _ _ _ _ => (pe_df D__law_right hG (hr.mono (by decide)) (by rfl) (pa_cons (pe_df D__law_box hG (hr.mono (by decide)) (by rfl) (pa_cons (pv 0) (pa_cons (pv 1) pa_nil))) pa_nil)))) pa_nil))))
end
end Ke
namespace Kd
open PySem PySem.Spec PyProof.Rows L2 Xg Dv
section
variable {row b : Bool} {rooms hs x y : List Int} {ws : List (Option Int)} {Q : PyData → Prop} {k m : Nat}
end
end Kd
namespace Wl
open PySem PySem.Spec PyProof.Rows L2
theorem en_nolen : typeLookup (.type "enumerate") "__len__" = pure none := by rw [typeLookup_type, builtinLookup_eq_fast]; kernel_rfl
theorem en_nohint : typeLookup (.type "enumerate") "__length_hint__" = pure none := by rw [typeLookup_type, builtinLookup_eq_fast]; kernel_rfl
def At (h : Heap) (e it l S : Addr) (items : Array Value) (i : Nat) : Prop :=
  h.IsListIter it l i ∧ h.IsList l items ∧ ((∃ old, IsEnum h e it i old) ∨ ∃ old T f oT, IsEnumHeld h e it i old T f ∧ h.get? T = some oT ∧ T ≠ e ∧ T ≠ it ∧ T ≠ S)
structure Told (h : Heap) (lo : Nat) (items acc : Array Value) (ts : List Addr) : Prop where
  acc : acc.toList = ts.map Value.ref
  above : ∀ t ∈ ts, lo ≤ t
  nd : ts.Nodup
  at_ : ∀ (j : Nat) (t : Addr), ts[j]? = some t → ∃ u x, items[j]? = some x ∧ h.get? t = some { cls := .type "tuple", data := .seq #[.int j u, x] }
abbrev LstO (acc : Array Value) (c : Nat) : Obj := { cls := .type "list", dict := none, data := .seq acc c, slots := #[] }
section
variable {prog : Program} {w : World} {A : Around} {R : Result → Shared → Prop} {e it l S : Addr} {items : Array Value} {lo : Nat}
theorem loop (hh : A.handled = none) (hei : e ≠ it) (hle : l ≠ e) (hli : l ≠ it) (hSe : S ≠ e) (hSi : S ≠ it) (hSl : S ≠ l) (le : e < lo) (li : it < lo) (lS : S < lo) (res : Value) (hn : items.size ≤ 1000000) :
    ∀ (k i : Nat) (s : Shared) (acc : Array Value) (c : Nat) (ts : List Addr), items.size - i = k → i ≤ items.size → lo ≤ s.heap.objs.size → At s.heap e it l S items i → s.heap.get? S = some (LstO acc c) → ts.length = i → Told s.heap lo items acc ts →
      (∀ (h' : Heap) (tk : Nat) (acc' : Array Value) (c' : Nat) (ts' : List Addr), (∀ b o, b < lo → b ≠ e → b ≠ it → b ≠ S → s.heap.get? b = some o → h'.get? b = some o) → h'.get? S = some (LstO acc' c') → ts'.length = items.size → Told h' lo items acc' ts' → R (.ok (.ret res)) { s with heap := h', toks := tk }) →
      codeAny (model prog w) A (.builtin "list.extend.loop" ⟨[.ref S, .ref e, res], []⟩) R s := by
  intro k
  induction k with
  | zero =>
    intro i s acc c ts hk hi hlo st hS hl T hR
    obtain ⟨hit, hlst, he⟩ := st
    have ex : items[i]? = none := Array.getElem?_eq_none (by omega)
    refine codeAny_builtin F.entry_extend_loop ?_
    rw [Around.under_plainId F.plain_extend_loop _]
    show wpAny _ A.in1 (pyNext (.ref e) >>= fun _ => _) _ _ s
    have fin : ∀ h', Heap.ExtBut it s.heap h' → R (.ok (.ret res)) { s with heap := h' } := fun h' x =>
      hR h' s.toks acc c ts (fun b o _ _ n2 _ y => x b o n2 y) (x S _ hSi hS) (by omega) ⟨T.acc, T.above, T.nd, fun j t y => let ⟨u, v, a, b⟩ := T.at_ j t y; ⟨u, v, a, x t _ (fun z => by have := T.above t (List.mem_of_getElem? y); rw [z] at this; exact absurd li (Nat.not_lt.mpr this)) b⟩⟩
    rcases he with ⟨old, he⟩ | ⟨old, T1, f, oT, he, hT, r1, r2, r3⟩
    · exact wpAny_bind (wpAny_pyNext_enum_end (A := A.in1) hh he hit hlst ex fun h' x => wpAny_pure (fin h' x))
    · exact wpAny_bind (wpAny_pyNext_enum_end_held (A := A.in1) hh he hit hlst ex fun h' x => wpAny_pure (fin h' x))
  | succ k ih =>
    intro i s acc c ts hk hi hlo st hS hl T hR
    obtain ⟨hit, hlst, he⟩ := st
    have lt : i < items.size := by omega
    have ex := Array.getElem?_eq_getElem lt
    refine codeAny_builtin F.entry_extend_loop ?_
    rw [Around.under_plainId F.plain_extend_loop _]
    show wpAny _ A.in1 (pyNext (.ref e) >>= fun _ => _) _ _ s
    have accn : acc.size = i := by
      have := congrArg List.length T.acc
      rw [List.length_map, Array.length_toList] at this
      omega
    have go : ∀ (h' : Heap) (tk : Nat) (u : Tok), h'.IsListIter it l (i + 1) → ((∃ old, IsEnum h' e it ((i + 1 : Nat) : Int) old) ∨ ∃ old T f oT, IsEnumHeld h' e it ((i + 1 : Nat) : Int) old T f ∧ h'.get? T = some oT ∧ T ≠ e ∧ T ≠ it ∧ T ≠ S) →
        h'.get? s.heap.objs.size = some { cls := .type "tuple", data := .seq #[.int i u, items[i]] } → h'.objs.size = s.heap.objs.size + 1 → (∀ b o, b ≠ e → b ≠ it → s.heap.get? b = some o → h'.get? b = some o) →
        wpAny (model prog w) A.in1 (updateSeq S (·.push (.ref s.heap.objs.size)) >>= fun _ => again (.builtin "list.extend.loop" ⟨[.ref S, .ref e, res], []⟩))
          (fun fin s' => match fin with | .done f => R (.ok f) s' | .again c' => c'.quiet = true ∧ codeAny (model prog w) A c' R s') (fun e s' => R (.error e) s') { s with heap := h', toks := tk } := fun h' tk u hit' he' hT hsz hk' => by
      have hS' := hk' S _ hSe hSi hS
      have oth : ∀ b o, b ≠ S → h'.get? b = some o → (h'.update S (Obj.mapSeq (·.push (.ref s.heap.objs.size)))).get? b = some o := fun b o hb y => (Heap.get?_update_other _ _ (Ne.symm hb)).trans y
      have up := Heap.get?_update_self (Obj.mapSeq (·.push (Value.ref s.heap.objs.size))) hS' rfl
      have nS : s.heap.objs.size ≠ S := fun z => by rw [z] at hlo; exact absurd lS (Nat.not_lt.mpr hlo)
      have upz : (h'.update S (Obj.mapSeq (·.push (.ref s.heap.objs.size)))).objs.size = h'.objs.size := Heap.size_update ..
      refine wpAny_bind (wpAny_updateSeq hS' rfl (wpAny_pure ⟨plainId_quiet F.plain_extend_loop _, ?_⟩) (by show acc.size ≤ sizeLine; rw [accn]; exact Nat.le_trans (Nat.le_of_lt (Nat.lt_of_lt_of_le lt hn)) (by decide)) (by show (acc.push _).size ≤ sizeLine + 1; rw [Array.size_push, accn]; exact Nat.succ_le_succ (Nat.le_trans (Nat.le_of_lt (Nat.lt_of_lt_of_le lt hn)) (by decide))))
      refine ih (i + 1) _ (acc.push (.ref s.heap.objs.size)) _ (ts ++ [s.heap.objs.size]) (by omega) lt ?_ ⟨?_, ?_, ?_⟩ up (by rw [List.length_append, hl]; rfl) ⟨?_, ?_, ?_, ?_⟩ fun h2 tk2 acc2 c2 ts2 kp q1 q2 q3 => hR h2 tk2 acc2 c2 ts2 (fun b o b1 b2 b3 b4 y => kp b o b1 b2 b3 b4 (oth b o b4 (hk' b o b2 b3 y))) q1 q2 q3
      · show lo ≤ (h'.update S _).objs.size
        rw [upz, hsz]
        omega
      · exact hit'.at fun o y => oth it o (Ne.symm hSi) y
      · exact (hlst.at fun o y => hk' l o hle hli y).at fun o y => oth l o (Ne.symm hSl) y
      · rcases he' with ⟨old, y⟩ | ⟨old, T1, f, oT, y, hT1, r1, r2, r3⟩
        · exact .inl ⟨old, oth _ _ (Ne.symm hSe) y⟩
        · exact .inr ⟨old, T1, f, oT, oth _ _ (Ne.symm hSe) y, oth _ _ r3 hT1, r1, r2, r3⟩
      · rw [Array.toList_push, T.acc, List.map_append]
        rfl
      · intro t m
        rcases List.mem_append.mp m with m | m
        · exact T.above t m
        · rw [List.mem_singleton.mp m]
          exact hlo
      · refine List.nodup_append.mpr ⟨T.nd, List.nodup_cons.mpr ⟨List.not_mem_nil, .nil⟩, fun a ma b mb z => ?_⟩
        rw [List.mem_singleton.mp mb] at z
        obtain ⟨j, hj⟩ := List.mem_iff_getElem?.mp ma
        obtain ⟨_, _, _, y⟩ := T.at_ j a hj
        rw [z] at y
        exact absurd (Heap.lt_size y) (Nat.lt_irrefl _)
      · intro j t y
        by_cases hj : j < ts.length
        · rw [List.getElem?_append_left hj] at y
          obtain ⟨u', x, a, b⟩ := T.at_ j t y
          have la := T.above t (List.mem_of_getElem? y)
          have n1 : t ≠ e := fun z => by rw [z] at la; exact absurd le (Nat.not_lt.mpr la)
          have n2 : t ≠ it := fun z => by rw [z] at la; exact absurd li (Nat.not_lt.mpr la)
          have n3 : t ≠ S := fun z => by rw [z] at la; exact absurd lS (Nat.not_lt.mpr la)
          exact ⟨u', x, a, oth t _ n3 (hk' t _ n1 n2 b)⟩
        · rw [List.getElem?_append_right (by omega)] at y
          have z : j - ts.length = 0 := by
            cases q : j - ts.length with
            | zero => rfl
            | succ m => rw [q] at y; simp at y
          rw [z] at y
          cases y
          have ej : j = i := by omega
          subst ej
          exact ⟨u, _, ex, oth _ _ nS hT⟩
    have ec : ((i + 1 : Nat) : Int) = (i : Int) + 1 := by omega
    have nit : s.heap.objs.size ≠ it := let ⟨_, x, _⟩ := hit; Nat.ne_of_gt (Heap.lt_size x)
    have nS : s.heap.objs.size ≠ S := Nat.ne_of_gt (Heap.lt_size hS)
    rcases he with ⟨old, he⟩ | ⟨old, T1, f, oT, he, hT, r1, r2, r3⟩
    · refine wpAny_bind (wpAny_pyNext_enum_item (A := A.in1) he hit hlst ex hei fun h' ho hit' hT hsz hk' => ?_)
      exact go h' _ _ hit' (.inr ⟨_, s.heap.objs.size, false, _, by rw [ec]; exact ho, hT, Nat.ne_of_gt (Heap.lt_size he), nit, nS⟩) hT hsz hk'
    · refine wpAny_bind (wpAny_pyNext_enum_item_held (A := A.in1) he hT r1 r2 hit hlst ex hei fun h' ho hit' hT' hsz hk' => ?_)
      exact go h' _ _ hit' (.inr ⟨old, T1, true, oT, by rw [ec]; exact ho, hk' _ _ r1 r2 hT, r1, r2, r3⟩) hT' hsz hk'
end
section
variable {prog : Program} {w : World} {A : Around} {E : Value → Shared → Prop} {s : Shared} {e it l : Addr} {items : Array Value}
theorem hint {A : Around} {E : Value → Shared → Prop} {Q : Bool → Shared → Prop} (hT : s.TypeIs (.ref e) "enumerate") (h : Q true s) : wpAny (model prog w) A (Builtin.List.listLengthHint (.ref e)) Q E s := by
  unfold Builtin.List.listLengthHint
  refine wpAny_bind (wpAny_specialOf hT en_nolen ?_)
  show wpAny _ A (specialOf (Value.ref e) (Str.ofString "__length_hint__") >>= _) _ _ _
  exact wpAny_bind (wpAny_specialOf hT en_nohint (wpAny_pure h))
theorem call {Q : Value → Shared → Prop} (hh : A.handled = none) (he : IsEnum s.heap e it 0 .none) (hit : s.heap.IsListIter it l 0) (hl : s.heap.IsList l items) (hei : e ≠ it) (hle : l ≠ e) (hli : l ≠ it) (hn : items.size ≤ 1000000)
    (q : ∀ (h' : Heap) (tk : Nat) (acc : Array Value) (c : Nat) (ts : List Addr), (∀ b o, b ≠ e → b ≠ it → s.heap.get? b = some o → h'.get? b = some o) → h'.get? s.heap.objs.size = some (LstO acc c) → ts.length = items.size → Told h' (s.heap.objs.size + 1) items acc ts → Q (.ref s.heap.objs.size) { s with heap := h', toks := tk }) :
    wpAny (model prog w) A (PySem.call (.type "list") [.ref e]) Q E s := by
  have le := Heap.lt_size he
  have li : it < s.heap.objs.size := let ⟨_, x, _⟩ := hit; Heap.lt_size x
  have ll : l < s.heap.objs.size := let ⟨_, x, _⟩ := hl; Heap.lt_size x
  refine callType_codes (Q₁ := fun obj s1 => obj = .ref s.heap.objs.size ∧ s1 = { s with heap := s.heap.push { cls := .type "list", data := .seq #[] } }) F.called_list (F.typeCall_list_1 _) F.entry_list_init (code_list_new _ ⟨rfl, rfl⟩) fun obj s1 h1 => ?_
  obtain ⟨rfl, rfl⟩ := h1
  have S0 : (s.heap.push { cls := .type "list", data := .seq #[] }).get? s.heap.objs.size = some { cls := .type "list", data := .seq #[] } := Heap.get?_push_size _ rfl
  have old0 : ∀ b o, s.heap.get? b = some o → (s.heap.push { cls := .type "list", data := .seq #[] }).get? b = some o := fun b o y => Heap.get?_push_of_some _ y
  refine ⟨⟨_, S0, rfl⟩, F.args_list_init_2 _ _, ?_⟩
  show wpAny _ A.in1.in1 (do let old ← Builtin.List.listItems (.ref s.heap.objs.size); Builtin.List.listUpdate (.ref s.heap.objs.size) (fun _ => #[]); letGo old.toList.reverse; Builtin.List.listExtendWith (.ref s.heap.objs.size) (.ref e) .none) _ _ _
  refine wpAny_bind ?_
  unfold Builtin.List.listItems
  refine wpAny_bind (wpAny_seqItems S0 rfl (wpAny_pure ?_))
  refine wpAny_bind (wpAny_updateSeq S0 rfl ?_)
  have S1 := Heap.get?_update_self (Obj.mapSeq (fun _ => (#[] : Array Value))) S0 rfl
  have old1 : ∀ b o, s.heap.get? b = some o → ((s.heap.push { cls := .type "list", data := .seq #[] }).update s.heap.objs.size (Obj.mapSeq (fun _ => (#[] : Array Value)))).get? b = some o := fun b o y => (Heap.get?_update_other _ _ (Nat.ne_of_gt (Heap.lt_size y))).trans (old0 b o y)
  have z1 : ((s.heap.push { cls := .type "list", data := .seq #[] }).update s.heap.objs.size (Obj.mapSeq (fun _ => (#[] : Array Value)))).objs.size = s.heap.objs.size + 1 := by rw [Heap.size_update, Heap.size_push]
  refine wpAny_bind (wpAny_letGo ?_)
  generalize hg1 : (s.heap.push { cls := .type "list", data := .seq #[] }).update s.heap.objs.size (Obj.mapSeq (fun _ => (#[] : Array Value))) = g1 at S1 old1 z1
  have ty1 : ({ s with heap := g1 } : Shared).TypeIs (.ref e) "enumerate" := ⟨_, old1 _ _ he, rfl⟩
  unfold Builtin.List.listExtendWith
  refine wpAny_bind (wpAny_typeOf ty1 ?_)
  have n1 : Builtin.List.listSameRef (.ref s.heap.objs.size) (.ref e) = false := by simp [Builtin.List.listSameRef, Nat.ne_of_gt le]
  have n2 : (Value.type "enumerate" == Value.type "list") = false := by decide
  have n3 : (Value.type "enumerate" == Value.type "tuple") = false := by decide
  simp only [n1, n2, n3, Bool.or_false, Bool.false_eq_true, if_false]
  refine wpAny_bind (wpAny_pyIter_enum (s := { s with heap := g1 }) (old1 _ _ he) ?_)
  refine wpAny_bind (wpAny_holding (hint (s := { s with heap := g1 }) ty1 ?_))
  show wpAny _ A.in1.in1 (rule "list.extend.makes-room" >>= fun _ => Builtin.List.listTouch (.ref s.heap.objs.size) >>= fun _ => again (.builtin "list.extend.loop" ⟨[.ref s.heap.objs.size, .ref e, .none], []⟩)) _ _ _
  refine wpAny_bind (wpAny_rule (wpAny_bind ?_))
  show wpAny _ A.in1.in1 (updateSeq s.heap.objs.size (·.push .none) >>= fun _ => updateSeq s.heap.objs.size (·.pop)) _ _ _
  refine wpAny_bind (wpAny_updateSeq (s := { s with heap := g1 }) S1 rfl ?_)
  have S2 := Heap.get?_update_self (Obj.mapSeq (·.push Value.none)) S1 rfl
  refine wpAny_updateSeq S2 rfl ?_
  have S3 := Heap.get?_update_self (Obj.mapSeq (·.pop)) S2 rfl
  have old3 : ∀ b o, s.heap.get? b = some o → ((g1.update s.heap.objs.size (Obj.mapSeq (·.push Value.none))).update s.heap.objs.size (Obj.mapSeq (·.pop))).get? b = some o := fun b o y =>
    (Heap.get?_update_other _ _ (Nat.ne_of_gt (Heap.lt_size y))).trans ((Heap.get?_update_other _ _ (Nat.ne_of_gt (Heap.lt_size y))).trans (old1 b o y))
  have z3 : ((g1.update s.heap.objs.size (Obj.mapSeq (·.push Value.none))).update s.heap.objs.size (Obj.mapSeq (·.pop))).objs.size = s.heap.objs.size + 1 := by rw [Heap.size_update, Heap.size_update, z1]
  refine wpAny_pure ⟨plainId_quiet F.plain_extend_loop _, loop (A := A.in1) (lo := s.heap.objs.size + 1) hh hei hle hli (Nat.ne_of_gt le) (Nat.ne_of_gt li) (Nat.ne_of_gt ll) (Nat.lt_succ_of_lt le) (Nat.lt_succ_of_lt li) (Nat.lt_succ_self _) .none hn items.size 0 _ _ _ [] (Nat.sub_zero _) (Nat.zero_le _) (Nat.le_of_eq z3.symm) ⟨hit.at fun o y => old3 _ o y, hl.at fun o y => old3 _ o y, .inl ⟨_, old3 _ _ he⟩⟩ S3 rfl ⟨rfl, fun t m => (nomatch m), .nil, fun j t y => by simp at y⟩ fun h' tk acc' c' ts' kp hS' hlen hT => ?_⟩
  refine ⟨rfl, q h' tk acc' c' ts' (fun b o b1 b2 y => kp b o (Nat.lt_succ_of_lt (Heap.lt_size y)) b1 b2 (Nat.ne_of_lt (Heap.lt_size y)) (old3 b o y)) hS' hlen hT⟩
end
end Wl
namespace Dv
open PySem PySem.Spec PyProof.Rows L2 Xg
open Classical
section
variable {K : PySem.W.Frag} {ta : TE} {ca : Nat} {fa : FE} {md : Bool}
end
end Dv
namespace Dv
open PySem PySem.Spec PyProof.Rows L2 Xg NdefX
section
variable {P : Program} {w : World} {K : PySem.W.Frag} {mg : Str → Option Value} {base : Heap}
end
theorem tabIn_none {K : PySem.W.Frag} {x : Str} (a : PySem.W.nsIn K mainGlobals x = some none) : PySem.W.tabIn K x = none := by
  unfold PySem.W.tabIn
  rw [a]
def tabsOf (K : PySem.W.Frag) : List (Addr × Addr) := lamDefs.filterMap fun x => PySem.W.tabIn K x
theorem tbs_nil {K : PySem.W.Frag} {H : Hp} (h : ∀ p ∈ tabsOf K, H p.2 = some (.tbl #[])) : Tbs K H := fun p hp => by
  unfold Tof at hp
  obtain ⟨x, hx, e⟩ := List.mem_filterMap.mp hp
  cases q : PySem.W.tabIn K x with
  | none => rw [q] at e; cases e
  | some r =>
    rw [q] at e
    cases e
    exact LamX.TabS.nil (h r (List.mem_filterMap.mpr ⟨x, hx, q⟩))
theorem lawGT {P : Program} {w : World} {K : PySem.W.Frag} {mg mb : Str → Option Value} {k : Nat} {fa a : Addr} {fd : FuncData} {x : Str} {sp : Sp} {s1 : Shared} {vs : List Value} {ns : List Int}
    (inK : K.In s1.heap) (gl : s1.heap.Ns mainGlobals mg) (bl : s1.heap.Ns builtinsNs mb) (bb : ∀ x : Str, x ≠ "__name__" → mb x = bootBuiltins x) (noL : s1.heap.NoLimit) (gn : s1.gens = #[])
    (tb : ∀ p ∈ tabsOf K, s1.heap.get? p.2 = some { cls := .none, data := .fields #[] }) (tk : ∀ p ∈ tabsOf K, K.lookup p.2 = none) (tc : ∀ p ∈ tabsOf K, PySem.W.CodeHd s1.heap p.1 p.2)
    (bm : ∃ (m : Addr) (ob : Obj), mg "__builtins__" = some (.ref m) ∧ m ≠ builtinsNs ∧ s1.heap.get? m = some ob ∧ ob.cls = .type "module" ∧ ob.dict = some builtinsNs ∧ ob.data = .plain)
    (at_ : s1.heap.get? a = some { cls := .type "list", data := .seq vs.toArray }) (are : IntsAre vs ns) (few : ns.length ≤ sizeLine) (rm : Room k callerA)
    (F : ∀ base : Heap, K.In base → base.Ns mainGlobals mg → (∀ p ∈ tabsOf K, LamX.TabB base mg p.1 p.2) → FnG P w K mg base k fa fd [x] sp) (bd : ∀ (s : Shared) (u : Value), BindsTo s fd ⟨[u], []⟩ [(x, u)])
    (hsp : ∀ H : Hp, Tbs K H → SqL K H a (ns.map V.int) → sp [.ref a] H (fun v _ => v = .bl true) E0) :
    codeAny (model P w) callerA (.call (.ref fa) ⟨[.ref a], []⟩) (fun r s' => r = .ok (.ret (.bool true)) ∧ OldK s1.heap s'.heap ∧ s'.os = s1.os ∧ AllBare s'.gens) s1 := by
  have rel := L2.vals_ints are
  have ln := are.length
  let TA : List Addr := (tabsOf K).map (·.2)
  have tat : ∀ b, b ∈ TA → s1.heap.get? b = some { cls := .none, data := .fields #[] } := fun b hb => by
    obtain ⟨p, hp, rfl⟩ := List.mem_map.mp hb
    exact tb p hp
  have aT : a ∉ TA := fun z => by
    have q := tat a z
    rw [at_] at q
    have z1 : Data.seq vs.toArray _ = Data.fields #[] := congrArg Obj.data (Option.some.inj q)
    cases z1
  have main : ∀ H : Hp, (∀ p ∈ tabsOf K, H p.2 = some (.tbl #[])) → (∀ b, b ∉ TA → H b = none ∨ ∃ o xs, H b = some (.frz o (.lst xs))) → SqL K H a (ns.map V.int) → HOk P w H s1.heap → (∀ b, H b ≠ none → b = a ∨ b ∈ TA) → (H a ≠ none → K.lookup a = none) →
      codeAny (model P w) callerA (.call (.ref fa) ⟨[.ref a], []⟩) (fun r s' => r = .ok (.ret (.bool true)) ∧ OldK s1.heap s'.heap ∧ s'.os = s1.os ∧ AllBare s'.gens) s1 := by
    intro H tabs only sq ok here off
    have hid : ∀ {b : Addr} {o : Obj}, s1.heap.get? b = some o → H b = none → (hidT s1.heap H).get? b = some o := fun e n => hidT_get e n
    -- what is neither a list nor a bare record is untold
    have untold : ∀ {b : Addr} {o : Obj}, s1.heap.get? b = some o → (∀ us n, o.data ≠ .seq us n) → o.data ≠ .fields #[] → H b = none := fun {b o} e n1 n2 => by
      cases z : H b with
      | none => rfl
      | some u =>
        rcases here b (by rw [z]; simp) with e1 | m
        · subst e1
          rw [at_] at e
          cases e
          exact absurd rfl (n1 _ _)
        · rw [tat b m] at e
          cases e
          exact absurd rfl n2
    have dictFree : ∀ {b : Addr} {o : Obj} {es : Array DictEntry} {ep : Nat}, s1.heap.get? b = some o → o.data = .dict es ep → H b = none := fun {b o es ep} e d =>
      untold e (fun us n z => by rw [d] at z; cases z) fun z => by rw [d] at z; cases z
    have nsOk : ∀ {b : Addr} {m : Str → Option Value}, s1.heap.Ns b m → (hidT s1.heap H).Ns b m := fun {b m} ⟨o, es, ep, e, d, r⟩ => ⟨o, es, ep, hid e (dictFree e d), d, r⟩
    have inB : K.In (hidT s1.heap H) := fun b o e => hid (inK b o e) (by
      cases z : H b with
      | none => rfl
      | some u =>
        rcases here b (by rw [z]; simp) with e1 | m
        · subst e1
          rw [off (by rw [z]; simp)] at e
          cases e
        · obtain ⟨p, hp, rfl⟩ := List.mem_map.mp m
          rw [tk p hp] at e
          cases e)
    have md : Mod K mg (hidT s1.heap H) := ⟨inB, nsOk gl, ⟨mb, nsOk bl, bb⟩, let ⟨mc, h1, h2⟩ := noL; ⟨mc, nsOk h1, h2⟩⟩
    have tbb : ∀ p ∈ tabsOf K, LamX.TabB (hidT s1.heap H) mg p.1 p.2 := fun p hp => by
      refine ⟨?_, ?_, fun z => ?_⟩
      · obtain ⟨o, us, fl, tf, fg, tg, inF, tx, tt, e1, r1, r2, r3, rest⟩ := tc p hp
        refine ⟨o, us, fl, tf, fg, tg, inF, tx, tt, hid e1 (untold e1 (fun us' n z => by rw [r2] at z; cases z) fun z => ?_), r1, r2, r3, rest⟩
        rw [r2] at z
        cases z
        simp at r3
      · obtain ⟨m, ob, b1, b2, b3, b4, b5, b6⟩ := bm
        refine ⟨m, ob, b1, b2, fun z => ?_, fun z => ?_, hid b3 (untold b3 (fun us n z => by rw [b6] at z; cases z) fun z => by rw [b6] at z; cases z), b4, b5, b6⟩
        · obtain ⟨o, es, ep, e, hd, _⟩ := gl
          rw [z, e] at b3
          cases b3
          rw [hd] at b6
          cases b6
        · rw [z, tb p hp] at b3
          cases b3
          cases b6
      · obtain ⟨o, es, ep, e, hd, _⟩ := gl
        rw [z, tb p hp] at e
        cases e
        cases hd
    have ev : Env0 P w K mg (hidT s1.heap H) callerA [] s1 H :=
      ⟨rfl, md, fun b o e => of_hidT e, Nat.le_of_eq (hidT_size _ _), trivial, fun b hb => absurd (show b ∈ ([] : List Addr) from hb) (by simp), ok, .of_eq gn⟩
    refine codeAny_mono ((F _ inB (nsOk gl) tbb).run callerA [] s1 H ⟨[.ref a], []⟩ [.ref a] [.ref a] _ rfl rm ev (bd s1 (.ref a)) (.cons rfl .nil) (hsp H (tbs_nil tabs) sq)) fun r s' h => ?_
    cases r with
    | error e => exact h.elim
    | ok fl =>
      cases fl with
      | next => exact False.elim h
      | brk => exact False.elim h
      | cont => exact False.elim h
      | ret u =>
        obtain ⟨v, H', os, bare, un, ok', rv, z⟩ := h
        obtain rfl : v = .bl true := z
        obtain rfl : u = Value.bool true := rv
        have stay : ∀ b o, b ∉ TA → s1.heap.get? b = some o → s'.heap.get? b = some o := fun b o nb e => by
          rcases only b nb with n | ⟨ob, xs, z⟩
          · exact un.keep b o e n (fun z => absurd (show b ∈ ([] : List Addr) from z) (by simp)) (by simp)
          · have z2 := un.frzs b ob _ z
            obtain ⟨e1, _⟩ := ok b _ z
            obtain ⟨e2, _⟩ := ok' b _ z2
            rw [e] at e1
            cases e1
            exact e2
        have grew : ∀ p ∈ tabsOf K, ∃ more : Array Value, s'.heap.get? p.2 = some { cls := .none, data := .fields more } := fun p hp => by
          obtain ⟨more, z⟩ := un.tbls p.2 #[] (tabs p hp)
          exact ⟨_, ok' p.2 _ z⟩
        refine ⟨rfl, ⟨fun b o e => ?_, fun b o e => ?_⟩, os, bare⟩
        · by_cases m : b ∈ TA
          · obtain ⟨p, hp, rfl⟩ := List.mem_map.mp m
            obtain ⟨more, hm⟩ := grew p hp
            rw [tb p hp] at e
            cases e
            exact .inr (.inl ⟨((tc p hp).tab (tb p hp)).isCodeTable, rfl, #[], more, rfl, by rw [Array.empty_append]; exact hm⟩)
          · exact .inl (stay b o m e)
        · by_cases m : b ∈ TA
          · obtain ⟨p, hp, rfl⟩ := List.mem_map.mp m
            obtain ⟨more, hm⟩ := grew p hp
            exact ⟨_, hm⟩
          · exact ⟨o, stay b o m e⟩
  cases lk : K.lookup a with
  | some o =>
    have e := inK a o lk
    rw [at_] at e
    cases e
    refine main (fun b => if b ∈ TA then some (.tbl #[]) else none) (fun p hp => if_pos (List.mem_map.mpr ⟨p, hp, rfl⟩)) (fun b nb => .inl (if_neg nb)) (.inr ⟨_, vs.toArray, _, lk, rfl, rfl, rfl, by rw [List.size_toArray, ln]; exact few, by simpa using rel⟩)
      (fun b u z => ?_) (fun b z => ?_) fun z => absurd (if_neg aT) z
    · by_cases m : b ∈ TA
      · have z1 := (if_pos m).symm.trans z
        cases z1
        exact tat b m
      · have z1 := (if_neg m).symm.trans z
        cases z1
    · by_cases m : b ∈ TA
      · exact .inr m
      · exact absurd (if_neg m) z
  | none =>
    refine main (fun b => if b = a then some (.frz { cls := .type "list", data := .seq vs.toArray } (.lst (ns.map V.int))) else if b ∈ TA then some (.tbl #[]) else none) (fun p hp => ?_) (fun b nb => ?_)
      (.inl (.inr ⟨{ cls := .type "list", data := .seq vs.toArray }, if_pos rfl⟩)) (fun b u z => ?_) (fun b z => ?_) fun _ => lk
    · have m : p.2 ∈ TA := List.mem_map.mpr ⟨p, hp, rfl⟩
      exact (if_neg fun z => aT (by rw [← z]; exact m)).trans (if_pos m)
    · by_cases e : b = a
      · exact .inr ⟨_, _, if_pos e⟩
      · exact .inl ((if_neg e).trans (if_neg nb))
    · by_cases e : b = a
      · have z1 := (if_pos e).symm.trans z
        cases z1
        subst e
        exact ⟨at_, by rw [List.length_map]; exact few, vs, _, rel, at_⟩
      · by_cases m : b ∈ TA
        · have z1 := ((if_neg e).trans (if_pos m)).symm.trans z
          cases z1
          exact tat b m
        · have z1 := ((if_neg e).trans (if_neg m)).symm.trans z
          cases z1
    · by_cases e : b = a
      · exact .inl e
      · by_cases m : b ∈ TA
        · exact .inr m
        · exact absurd ((if_neg e).trans (if_neg m)) z
theorem walkGT {l : PySem.W.OpenLaw} {n k : Nat} {q : Program} {loose : List Str} {XP : (Str → Option Value) → Heap → Prop} {YP : World → Heap → Prop} {d : DefRec} {K : Params → PySem.W.Frag} {sp : World → Sp} {x : Str}
    (hn : l.most = some n) (hn2 : n ≤ sizeLine) (hdf : d.params.defaults = []) (rm : Room k callerA) (hY : ∀ (w : World) (h : Heap), YP w h → (K w.params).In h)
    (F : ∀ (w : World) (mg : Str → Option Value) (fa : Addr) (h : Heap), YP w h → (K w.params).In h → h.Ns mainGlobals mg → mg d.name = some (.ref fa) →
      (∀ p ∈ tabsOf (K w.params), h.get? p.2 = some { cls := .none, data := .fields #[] } ∧ (K w.params).lookup p.2 = none ∧ PySem.W.CodeHd h p.1 p.2) ∧ ∃ fd : FuncData, (∀ (s : Shared) (u : Value), BindsTo s fd ⟨[u], []⟩ [(x, u)]) ∧
        ∀ base : Heap, (K w.params).In base → base.Ns mainGlobals mg → (∀ p ∈ tabsOf (K w.params), LamX.TabB base mg p.1 p.2) → FnG l.prog w (K w.params) mg base k fa fd [x] (sp w))
    (hsp : ∀ (w : World) (H : Hp) (a : Addr) (ns : List Int), ns.length ≤ n → Tbs (K w.params) H → SqL (K w.params) H a (ns.map V.int) → sp w [.ref a] H (fun v _ => v = .bl true) E0) :
    PySem.W.WalkO q loose XP YP l.row.toRowW d [] (fun f vs => PySem.call f vs) := by
  refine Att.attach_call hn hdf fun w s0 s1 mg mb fa o pm cd doc a vs ns G Y ho hd hcd hmg at_ are few gn => ?_
  have inK := hY w _ Y
  obtain ⟨tt, fd, bd, hF⟩ := F w mg fa _ Y inK G.T.g hmg
  exact lawGT inK G.T.g G.T.b G.T.builtins G.T.nolimit gn (fun p hp => (tt p hp).1) (fun p hp => (tt p hp).2.1) (fun p hp => (tt p hp).2.2) G.T.bmain at_ are (Nat.le_trans few hn2) rm hF bd fun H T sq => hsp w H a ns few T sq
end Dv
namespace Kd
open PySem PySem.Spec PyProof.Rows L2 Xg Dv
end Kd
namespace Kd
open PySem PySem.Spec PyProof.Rows L2 Xg Dv
end Kd
namespace Kd
open PySem PySem.Spec PyProof.Rows L2 Xg Dv
section
variable {k kw ks row b : Bool} {rooms rooms' hs x y x' y' : List Int} {ws ws' : List (Option Int)} {Q : PyData → Prop} {m n L many : Nat}
def Wle (n : Nat) (ws ws' : List (Option Int)) : Prop := ∀ j a, j < n → ws'.getD j none = some a → ∃ c, ws.getD j none = some c ∧ c ≤ a
theorem Wle.refl : Wle n ws ws := fun j a _ e => ⟨a, e, Int.le_refl _⟩
end
end Kd
namespace Kd
open PySem PySem.Spec PyProof.Rows L2 Xg Dv
section
variable {k kw ks row : Bool} {rooms h0 x y : List Int} {ws : List (Option Int)} {Q : PyData → Prop} {kl : Nat} {ds : List PyData} {P : List Int → Bool}
def Tk (row : Bool) (rooms h0 : List Int) (ws : List (Option Int)) (b : Nat) : List Int := runX row rooms h0 (bws true ws b) (zr (nG row rooms))
theorem Tk_add {b c : Nat} : Tk row rooms h0 ws (b + c) = runX row rooms h0 (bws true ws c) (Tk row rooms h0 ws b) := run_add
theorem Tk_still {b : Nat} (h : Tk row rooms h0 ws (b + 1) = Tk row rooms h0 ws b) : ∀ d, Tk row rooms h0 ws (b + d) = Tk row rooms h0 ws b
  | 0 => rfl
  | d + 1 => by
    have e : Tk row rooms h0 ws (b + (d + 1)) = runX row rooms h0 (bws true ws 1) (Tk row rooms h0 ws (b + d)) := by rw [← Tk_add]; rfl
    rw [e, Tk_still h d, ← Tk_add, h]
structure LamS (kl : Nat) (ds : List PyData) (P : List Int → Bool) (n : Nat) : Prop where
  says : ∀ x : List Int, x.length = n → lamV kl ds (iq false x) = some (.bool (P x))
theorem LamS.w {n : Nat} (L : LamS kl ds P n) {R : PyData → Prop} (lx : x.length = n) (r : R (.bool (P x))) : lamW kl ds (iq false x) R := by
  unfold lamW
  rw [L.says x lx]
  exact r
structure Wh (row : Bool) (rooms h0 : List Int) (ws : List (Option Int)) (P : List Int → Bool) : Prop where
  up : ∀ b, P (Tk row rooms h0 ws b) = true → P (Tk row rooms h0 ws (b + 1)) = true
  en : ∃ B, B ≤ 2 ^ 10000 ∧ (P (Tk row rooms h0 ws B) = true ∨ Tk row rooms h0 ws (B + 1) = Tk row rooms h0 ws B)
theorem Wh.le (W : Wh row rooms h0 ws P) {b : Nat} (h : P (Tk row rooms h0 ws b) = true) : ∀ d, P (Tk row rooms h0 ws (b + d)) = true
  | 0 => h
  | d + 1 => W.up _ (W.le h d)
theorem Wh.le' (W : Wh row rooms h0 ws P) {b c : Nat} (h : P (Tk row rooms h0 ws b) = true) (l : b ≤ c) : P (Tk row rooms h0 ws c) = true := by
  have := W.le h (c - b)
  rwa [show b + (c - b) = c by omega] at this
theorem Wh.never (W : Wh row rooms h0 ws P) {b : Nat} (h : P (Tk row rooms h0 ws b) = false) (st : Tk row rooms h0 ws (b + 1) = Tk row rooms h0 ws b) : ∀ c, P (Tk row rooms h0 ws c) = false := fun c => by
  by_cases l : c ≤ b
  · cases e : P (Tk row rooms h0 ws c) with
    | false => rfl
    | true => rw [W.le' e l] at h; cases h
  · rw [show c = b + (c - b) by omega, Tk_still st, h]
end
end Kd
namespace Ke
open PySem PySem.Spec PyProof.Rows L2 Xg Dv Kd
section
variable {row k kw ks : Bool} {rooms h0 : List Int} {ws : List (Option Int)} {Q : PyData → Prop} {G : Gr} {m : Nat} {x : List Int}
def G0 : Gr := fun i j => if i = j then some 0 else none
theorem gk0 : Gk row rooms h0 ws 0 G0 := by
  refine ⟨fun x y lx ly => ?_, fun i hi => ⟨i, 0, hi, if_pos rfl⟩, fun j hj => ⟨j, 0, hj, if_pos rfl⟩⟩
  show Le (nG row rooms) y x ↔ _
  constructor
  · intro h i j a hi hj e
    unfold G0 at e
    split at e
    · rename_i z
      cases e
      subst z
      have := h i hi
      omega
    · cases e
  · intro h i hi
    have := h i i 0 hi hi (if_pos rfl)
    omega
theorem gridNone_of {n : Nat} (hn : n ≤ 1000) (q : Q (gd n G0)) : F_grid_of_none [.dt (.int (n : Nat))] Q := by
  unfold F_grid_of_none
  refine ⟨rfl, ⟨⟨by omega, by omega⟩, ?_⟩⟩
  rw [Int.toNat_natCast]
  refine ⟨by rw [range_len]; omega, comp_row (fun i => .list (rwd n (G0 i))) range_len (fun i d hi hd P hp => ?_) q⟩
  obtain ⟨_, rfl⟩ := rng_at hd
  refine ⟨⟨by omega, by omega⟩, ?_⟩
  rw [Int.toNat_natCast]
  refine ⟨by rw [range_len]; omega, comp_row (fun j => oI (G0 i j)) range_len (fun j d hj hd P hp => ?_) hp⟩
  obtain ⟨_, rfl⟩ := rng_at hd
  show if decide (((i : Nat) : Int) = ((j : Nat) : Int)) = true then P (.int 0) else P .none
  unfold G0 at hp
  by_cases z : i = j
  · rw [if_pos (decide_eq_true (by omega))]
    rw [if_pos z] at hp
    exact hp
  · rw [if_neg (by rw [decide_eq_true_eq]; omega)]
    rw [if_neg z] at hp
    exact hp
theorem gl_loop (F : Fg8 row rooms h0 ws) {many : Nat} {d0 d1 d2 d3 d4 : Sl} {E : DEnds} : ∀ (m t : Nat) (G : Gr) (s6 : Sl), Gk row rooms h0 ws (many % 2 ^ t) G →
    (∀ G s6, Gk row rooms h0 ws (many % 2 ^ (t + m)) G → E.nx [d0, d1, d2, d3, d4, .dt (gd (nG row rooms) G), s6]) →
    forD (gN 6) (sAsg (eCall F_chained (aCons (eVar 5) (aCons (eVar 6) aNil))) (gN 5)) ((List.range' t m).filterMap fun t => if bit many t = true then some (gd (nG row rooms) (pw row rooms h0 ws t)) else none) [d0, d1, d2, d3, d4, .dt (gd (nG row rooms) G), s6] E
  | 0, t, G, s6, g, q => q G s6 g
  | m + 1, t, G, s6, g, q => by
    have gb : 0 < nG row rooms ∧ nG row rooms ≤ 25 := by
      have n0 := F.n0
      have nz := F.nz
      show 0 < gts row rooms.length ∧ gts row rooms.length ≤ 25
      unfold gts
      split <;> omega
    have ms : many % 2 ^ (t + 1) = many % 2 ^ t + 2 ^ t * (many / 2 ^ t % 2) := Nat.mod_pow_succ
    have q' : ∀ G s6, Gk row rooms h0 ws (many % 2 ^ (t + 1 + m)) G → E.nx [d0, d1, d2, d3, d4, .dt (gd (nG row rooms) G), s6] := fun G s6 g => by
      rw [show t + 1 + m = t + (m + 1) by omega] at g
      exact q G s6 g
    rw [List.range'_succ]
    by_cases z : bit many t = true
    · rw [List.filterMap_cons_some (by rw [if_pos z])]
      have e1 : many / 2 ^ t % 2 = 1 := of_decide_eq_true z
      rw [e1, Nat.mul_one] at ms
      have gk := pw_gk F.n0 F.lh F.lw t
      refine chained_of gb.1 gb.2 ?_
      have gc := Gk.ch g gk
      rw [Nat.add_comm, ← ms] at gc
      exact gl_loop F m (t + 1) _ _ gc q'
    · rw [List.filterMap_cons_none (by rw [if_neg z])]
      have e1 : many / 2 ^ t % 2 = 0 := by
        have : many / 2 ^ t % 2 < 2 := Nat.mod_lt _ (by omega)
        have : ¬ many / 2 ^ t % 2 = 1 := fun h => z (decide_eq_true h)
        omega
      have ms2 : many % 2 ^ (t + 1) = many % 2 ^ t := by rw [ms, e1, Nat.mul_zero]; rfl
      rw [← ms2] at g
      exact gl_loop F m (t + 1) G s6 g q'
theorem gridOf_of {many : Nat} (F : Fg8 row rooms h0 ws) (hm : many < 2 ^ 1000) (q : ∀ G, Gk row rooms h0 ws many G → Q (gd (nG row rooms) G)) : F_grid_of [.dt (ln k row rooms), .dt (sqd kw (ws.map oI)), .dt (iq ks h0), .dt (.int (many : Nat))] Q := by
  have n0 := F.n0
  have nz := F.nz
  have gb : nG row rooms ≤ 25 := by show gts row rooms.length ≤ 25; unfold gts; split <;> omega
  have bb : Builtin.Int.intBits (many : Int) ≤ 1000 := PySem.intBits_le_iff.mpr (by rw [Int.natAbs_natCast]; exact hm)
  have bm : bl1 many ≤ 1000 := Nat.max_le.mpr ⟨by omega, bb⟩
  unfold F_grid_of
  refine ⟨rfl, doubled_of hm F.n0 F.nz F.lh F.lw ?_⟩
  refine gates_of ?_
  refine gridNone_of (n := gts row rooms.length) (by have : gts row rooms.length ≤ 25 := gb; omega) ?_
  refine gridsIn_of (by omega) ?_
  have lg : (gin row rooms h0 ws many (bl1 many)).length ≤ 1000 := by
    unfold gin
    refine Nat.le_trans (List.length_filterMap_le _ _) ?_
    rw [List.length_range]
    exact bm
  refine (show (gin row rooms h0 ws many (bl1 many)).length ≤ 1000000 ∧ _ from ⟨by omega, ?_⟩)
  unfold gin
  rw [List.range_eq_range']
  refine gl_loop F (bl1 many) 0 G0 _ (by rw [Nat.pow_zero, Nat.mod_one]; exact gk0) fun G s6 g => ?_
  rw [Nat.zero_add, Nat.mod_eq_of_lt (bl1_lt (Nat.le_refl _))] at g
  exact q G g
abbrev moD (row : Bool) (rooms h0 : List Int) (ws : List (Option Int)) : PyData := .tuple [ln true row rooms, sqd true (ws.map oI), iq true h0]
abbrev tbD (row : Bool) (rooms h0 : List Int) (ws : List (Option Int)) (many : Nat) (G : Gr) : PyData := .tuple [moD row rooms h0 ws, .int (many : Nat), gd (nG row rooms) G]
theorem table_of {many : Nat} (F : Fg8 row rooms h0 ws) (hm : many < 2 ^ 1000) (q : ∀ G, Gk row rooms h0 ws many G → Q (tbD row rooms h0 ws many G)) : F_Table [.dt (ln true row rooms), .dt (sqd true (ws.map oI)), .dt (iq true h0), .dt (.int (many : Nat))] Q := by
  unfold F_Table
  exact gridOf_of (k := true) (kw := true) (ks := true) F hm q
theorem ledL_of {x : List Int} (g : Gk row rooms h0 ws m G) (nz : rooms.length ≤ 900) (lx : x.length = nG row rooms) (q : Q (iq true (runX row rooms h0 (bws true ws m) x))) : F_Table_led [.op (tbD row rooms h0 ws m G), .dt (iq false x)] Q := by
  unfold F_Table_led
  refine ⟨rfl, ledBy_of g nz lx ?_⟩
  rw [g.led lx]
  exact q
theorem rep_zr : ∀ n : Nat, rep (n : Nat) [PyData.int 0] = (zr n).map PyData.int := fun n => by
  unfold rep zr vec
  rw [Int.toNat_natCast, List.map_map]
  induction n with
  | zero => rfl
  | succ n ih =>
    rw [List.replicate_succ', List.flatten_append, ih, List.range_succ, List.map_append]
    rfl
theorem counts_of (g : Gk row rooms h0 ws m G) (nz : rooms.length ≤ 900) (q : Q (iq true (Tk row rooms h0 ws m))) : F_Table_counts [.op (tbD row rooms h0 ws m G)] Q := by
  have gb : nG row rooms ≤ 901 := by show gts row rooms.length ≤ 901; unfold gts; split <;> omega
  unfold F_Table_counts
  refine ⟨rfl, ?_⟩
  have lg : ((List.range (nG row rooms)).map fun i => PyData.list (rwd (nG row rooms) (G i))).length = nG row rooms := by rw [List.length_map, List.length_range]
  refine (show (-(2 ^ 63) ≤ ((((List.range (nG row rooms)).map fun i => PyData.list (rwd (nG row rooms) (G i))).length : Nat) : Int) ∧ ((((List.range (nG row rooms)).map fun i => PyData.list (rwd (nG row rooms) (G i))).length : Nat) : Int) < 2 ^ 63 ∧ [PyData.int 0].length * ((((List.range (nG row rooms)).map fun i => PyData.list (rwd (nG row rooms) (G i))).length : Nat) : Int).toNat ≤ 1000000) ∧ F_Table_led [.op (tbD row rooms h0 ws m G), .dt (.list (rep ((((List.range (nG row rooms)).map fun i => PyData.list (rwd (nG row rooms) (G i))).length : Nat) : Int) [.int 0]))] _ from ⟨⟨by omega, by omega, by rw [Int.toNat_natCast, lg]; show 1 * _ ≤ _; omega⟩, ?_⟩)
  rw [rep_zr, lg]
  exact ledL_of g nz vec_len q
theorem steps_of (q : Q (.int (m : Nat))) : F_Table_steps [.op (tbD row rooms h0 ws m G)] Q := by
  unfold F_Table_steps
  exact ⟨rfl, q⟩
end
section
variable {row : Bool} {rooms h0 : List Int} {ws : List (Option Int)} {Q : PyData → Prop} {G G' G1 G2 : Gr} {m k : Nat}
theorem gk_le (g : Gk row rooms h0 ws k G) (g' : Gk row rooms h0 ws k G') {i j : Nat} {a : Int} (hi : i < nG row rooms) (hj : j < nG row rooms) (h : G i j = some a) : ∃ a', G' i j = some a' ∧ a' ≤ a := by
  by_cases c : ∃ a', G' i j = some a' ∧ a' ≤ a
  · exact c
  exfalso
  obtain ⟨low, hlow⟩ : ∃ low, mn ((List.range (nG row rooms)).filterMap (G' i)) = low := ⟨_, rfl⟩
  have lw : ∀ m b, m < nG row rooms → G' i m = some b → low ≤ b := fun m b hm hb => by
    rw [← hlow]
    exact mn_le (List.mem_filterMap.mpr ⟨m, List.mem_range.mpr hm, hb⟩)
  obtain ⟨x, hx⟩ : ∃ x, x = vec (nG row rooms) (fun m => if m = j then 0 else a + 1 - low) := ⟨_, rfl⟩
  have lx : x.length = nG row rooms := by rw [hx]; exact vec_len
  have gx : ∀ m, m < nG row rooms → x.getD m 0 = if m = j then 0 else a + 1 - low := fun m hm => by rw [hx]; exact vec_get hm
  have e : (ledG (nG row rooms) G x).getD i 0 = (ledG (nG row rooms) G' x).getD i 0 := by rw [g.led lx, g'.led lx]
  have r : a + 1 ≤ (ledG (nG row rooms) G' x).getD i 0 := (g'.le hi).mpr fun m b hm hb => by
    rw [gx m hm]
    by_cases z : m = j
    · subst z
      rw [if_pos rfl]
      have : ¬ b ≤ a := fun w => c ⟨b, hb, w⟩
      omega
    · rw [if_neg z]
      have := lw m b hm hb
      omega
  rw [← e] at r
  have := (g.le hi).mp r j a hj h
  rw [gx j hj, if_pos rfl] at this
  omega
theorem gk_eq (g : Gk row rooms h0 ws k G) (g' : Gk row rooms h0 ws k G') {i j : Nat} (hi : i < nG row rooms) (hj : j < nG row rooms) : G i j = G' i j := by
  cases e : G i j with
  | none =>
    cases e' : G' i j with
    | none => rfl
    | some b =>
      obtain ⟨a, h, _⟩ := gk_le g' g hi hj e'
      rw [e] at h
      cases h
  | some a =>
    obtain ⟨b, h, l⟩ := gk_le g g' hi hj e
    obtain ⟨c, h2, l2⟩ := gk_le g' g hi hj h
    rw [e] at h2
    cases h2
    rw [h, show b = a by omega]
theorem gd_eq (g : Gk row rooms h0 ws k G) (g' : Gk row rooms h0 ws k G') : gd (nG row rooms) G = gd (nG row rooms) G' := by
  unfold gd rwd
  refine congrArg PyData.list (List.map_congr_left fun i hi => congrArg PyData.list (List.map_congr_left fun j hj => ?_))
  rw [gk_eq g g' (List.mem_range.mp hi) (List.mem_range.mp hj)]
theorem price_of {i j : Nat} (hi : i < nG row rooms) (hj : j < nG row rooms) (q : Q (oI (G i j))) : F_Table_price [.op (tbD row rooms h0 ws m G), .dt (.int (i : Nat)), .dt (.int (j : Nat))] Q := by
  unfold F_Table_price
  refine ⟨rfl, ?_⟩
  show atQ (L2.atI ((List.range (nG row rooms)).map fun i => PyData.list (rwd (nG row rooms) (G i))) ((i : Nat) : Int)) _
  rw [atI_nat (v := .list (rwd (nG row rooms) (G i))) (by rw [List.getElem?_map, List.getElem?_range hi]; rfl)]
  show atQ (L2.atI (rwd (nG row rooms) (G i)) ((j : Nat) : Int)) _
  rw [atI_nat (v := oI (G i j)) (by unfold rwd; rw [List.getElem?_map, List.getElem?_range hj]; rfl)]
  exact q
theorem shal_oI {k : Nat} {a : Option Int} : shal k (oI a) = true := by
  cases a <;> cases k <;> rfl
end
abbrev en (Q : PyData → Prop) : DEnds := { nx := fun _ => Q .none, rt := Q, rl := fun ds => Q (.list ds) }
end Ke
namespace Ke
open PySem PySem.Spec PyProof.Rows L2 Xg Dv Kd
section
variable {row : Bool} {rooms h0 : List Int} {ws : List (Option Int)} {Q : PyData → Prop}
theorem gb9 (F : Fg8 row rooms h0 ws) : 0 < nG row rooms ∧ nG row rooms ≤ 25 := by
  have n0 := F.n0
  have nz := F.nz
  show 0 < gts row rooms.length ∧ gts row rooms.length ≤ 25
  unfold gts
  split <;> omega
theorem atI_w {i : Nat} (hi : i < ws.length) : L2.atI (ws.map oI) ((i : Nat) : Int) = some (oI (ws.getD i none)) := atI_nat (by
  rw [List.getElem?_map, List.getElem?_eq_getElem hi, List.getD_eq_getElem?_getD, List.getElem?_eq_getElem hi]
  rfl)
theorem ne_nilL {l : List Int} {Q : PyData → Prop} (q : Q (.bool (!l.isEmpty))) : gNe (.list (l.map PyData.int)) (.list []) Q := by
  refine ⟨shp_iq (k := false) (l := l), by decide +kernel, ?_⟩
  cases l with
  | nil =>
    rw [show PyData.eqv (.list (List.map PyData.int [])) (.list []) = true by simp [PyData.eqv, PyData.eqvAll]]
    exact q
  | cons a r =>
    rw [show PyData.eqv (.list (List.map PyData.int (a :: r))) (.list []) = false by simp [PyData.eqv, PyData.eqvAll]]
    exact q
abbrev stS (row : Bool) (rooms h0 : List Int) (ws : List (Option Int)) (i j : Nat) (l : List Int) : List Sl := [.dt (ln true row rooms), .dt (sqd true (ws.map oI)), .dt (iq true h0), .dt (.int (i : Nat)), .dt (.int (j : Nat)), .dt (.int ((nG row rooms : Nat) : Int)), .own (l.map PyData.int)]
theorem step0_of {i j : Nat} {l : List Int} (q : Q (oI (mnO l))) : f__law_step_0 (stS row rooms h0 ws i j l) (en Q) := by
  unfold f__law_step_0
  refine ne_nilL ?_
  show if (!l.isEmpty) = true then _ else _
  cases l with
  | nil => exact q
  | cons a r => exact min_of (l := a :: r) (by simp) q
theorem step1_of (F : Fg8 row rooms h0 ws) {i j : Nat} (hi : i < nG row rooms) (hj : j < nG row rooms) {l : List Int} (hl : l.length ≤ 10) (q : Q (oI (mnO (l ++ if (i : Int) = gbI row rooms.length j then [rooms.getD i 0 - h0.getD i 0] else [])))) : f__law_step_1 (stS row rooms h0 ws i j l) (en Q) := by
  have gb := gb9 F
  have lh := F.lh
  have n0 := F.n0
  have gi := gb_iff (row := row) (n := rooms.length) (i := j) (j := i) F.n0 hj hi
  have main : i < rooms.length → (0 : Int) < ((nG row rooms : Nat) : Int) ∧ (if decide (((j : Nat) : Int) = (((i : Nat) : Int) + 1) % ((nG row rooms : Nat) : Int)) = true then (sApp 6 (eBin (gI fun i j => i - j) (eBin gIx (eBin gIx (eVar 0) (eC (.int 1))) (eVar 3)) (eBin gIx (eVar 2) (eVar 3)))) (stS row rooms h0 ws i j l) { nx := fun ρ' => f__law_step_0 ρ' (en Q), rt := (en Q).rt, rl := (en Q).rl } else f__law_step_0 (stS row rooms h0 ws i j l) (en Q)) := fun hn => by
    refine ⟨by omega, ?_⟩
    rw [show (((i : Nat) : Int) + 1) % ((nG row rooms : Nat) : Int) = (((i + 1) % nG row rooms : Nat) : Int) by simp]
    by_cases c : (i + 1) % nG row rooms = j
    · rw [if_pos (decide_eq_true (by omega))]
      rw [if_pos (gi.mpr ⟨hn, c⟩)] at q
      show atQ (L2.atI (rooms.map PyData.int) ((i : Nat) : Int)) _
      rw [atI_i hn]
      show atQ (L2.atI (h0.map PyData.int) ((i : Nat) : Int)) _
      rw [atI_i (by omega)]
      refine (show (l.map PyData.int).length < 1000000 ∧ _ from ⟨by rw [len_i]; omega, ?_⟩)
      have z := step0_of (row := row) (rooms := rooms) (h0 := h0) (ws := ws) (i := i) (j := j) (l := l ++ [rooms.getD i 0 - h0.getD i 0]) (Q := Q) q
      rw [show stS row rooms h0 ws i j (l ++ [rooms.getD i 0 - h0.getD i 0]) = [.dt (ln true row rooms), .dt (sqd true (ws.map oI)), .dt (iq true h0), .dt (.int (i : Nat)), .dt (.int (j : Nat)), .dt (.int ((nG row rooms : Nat) : Int)), .own (l.map PyData.int ++ [.int (rooms.getD i 0 - h0.getD i 0)])] by unfold stS; rw [List.map_append]; rfl] at z
      exact z
    · rw [if_neg (by rw [decide_eq_true_eq]; omega)]
      rw [if_neg (fun z => c (gi.mp z).2), List.append_nil] at q
      exact step0_of q
  unfold f__law_step_1
  cases row with
  | false => exact main hi
  | true =>
    show if decide (((i : Nat) : Int) < (((rooms.map PyData.int).length : Nat) : Int)) = true then _ else _
    rw [len_i]
    by_cases c : i < rooms.length
    · rw [if_pos (decide_eq_true (by omega))]
      exact main c
    · rw [if_neg (by rw [decide_eq_true_eq]; omega)]
      rw [if_neg (fun z => c (gi.mp z).1), List.append_nil] at q
      exact step0_of q
theorem prev_gb (F : Fg8 row rooms h0 ws) {i j : Nat} (hi : i < nG row rooms) (hj : j < nG row rooms) (h : (j : Int) = gbI row rooms.length i) : prev h0 i = h0.getD j 0 := by
  obtain ⟨h1, h2⟩ := (gb_iff F.n0 hi hj).mp h
  have lh := F.lh
  unfold prev
  rw [lh]
  cases row with
  | true =>
    have h2 : (j + 1) % (rooms.length + 1) = i := h2
    rw [Nat.mod_eq_of_lt (by omega)] at h2
    rw [if_neg (by omega), show i - 1 = j by omega]
  | false =>
    have h2 : (j + 1) % rooms.length = i := h2
    by_cases z : j + 1 = rooms.length
    · rw [z, Nat.mod_self] at h2
      rw [if_pos h2.symm, show rooms.length - 1 = j by omega]
    · rw [Nat.mod_eq_of_lt (by omega)] at h2
      rw [if_neg (by omega), show i - 1 = j by omega]
theorem step2_of (F : Fg8 row rooms h0 ws) {i j : Nat} (hi : i < nG row rooms) (hj : j < nG row rooms) {l : List Int} (hl : l.length ≤ 9) (q : Q (oI (mnO (l ++ (if (j : Int) = gbI row rooms.length i then [h0.getD j 0] else []) ++ if (i : Int) = gbI row rooms.length j then [rooms.getD i 0 - h0.getD i 0] else [])))) : f__law_step_2 (stS row rooms h0 ws i j l) (en Q) := by
  have gb := gb9 F
  have lh := F.lh
  have n0 := F.n0
  have il : i ≤ rooms.length := by
    have : i < gts row rooms.length := hi
    unfold gts at this
    split at this <;> omega
  have main : (((j : Nat) : Int) = (((i : Nat) : Int) - 1) % ((nG row rooms : Nat) : Int) ↔ (j : Int) = gbI row rooms.length i) → (0 : Int) < ((nG row rooms : Nat) : Int) ∧ (if decide (((j : Nat) : Int) = (((i : Nat) : Int) - 1) % ((nG row rooms : Nat) : Int)) = true then (sApp 6 (eBin gIx (eVar 2) (eBin (gI fun i j => i - j) (eVar 3) (eC (.int 1))))) (stS row rooms h0 ws i j l) { nx := fun ρ' => f__law_step_1 ρ' (en Q), rt := (en Q).rt, rl := (en Q).rl } else f__law_step_1 (stS row rooms h0 ws i j l) (en Q)) := fun gi => by
    refine ⟨by omega, ?_⟩
    by_cases c : ((j : Nat) : Int) = (((i : Nat) : Int) - 1) % ((nG row rooms : Nat) : Int)
    · rw [if_pos (decide_eq_true c)]
      rw [if_pos (gi.mp c), ← prev_gb F hi hj (gi.mp c)] at q
      show atQ (L2.atI (h0.map PyData.int) (((i : Nat) : Int) - 1)) _
      rw [atI_prev (by omega) (by omega)]
      refine (show (l.map PyData.int).length < 1000000 ∧ _ from ⟨by rw [len_i]; omega, ?_⟩)
      have z := step1_of F hi hj (l := l ++ [prev h0 i]) (Q := Q) (by rw [List.length_append, List.length_singleton]; omega) q
      rw [show stS row rooms h0 ws i j (l ++ [prev h0 i]) = [.dt (ln true row rooms), .dt (sqd true (ws.map oI)), .dt (iq true h0), .dt (.int (i : Nat)), .dt (.int (j : Nat)), .dt (.int ((nG row rooms : Nat) : Int)), .own (l.map PyData.int ++ [.int (prev h0 i)])] by unfold stS; rw [List.map_append]; rfl] at z
      exact z
    · rw [if_neg (by rw [decide_eq_true_eq]; exact c)]
      rw [if_neg (fun z => c (gi.mpr z)), List.append_nil] at q
      exact step1_of F hi hj (by omega) q
  unfold f__law_step_2
  cases row with
  | false => exact main Iff.rfl
  | true =>
    show if decide ((0 : Int) < ((i : Nat) : Int)) = true then _ else _
    by_cases c : 0 < i
    · rw [if_pos (decide_eq_true (by omega))]
      refine main ?_
      show ((j : Nat) : Int) = (((i : Nat) : Int) - 1) % ((rooms.length + 1 : Nat) : Int) ↔ (j : Int) = (i : Int) - 1
      rw [Int.emod_eq_of_lt (by omega) (by omega)]
    · rw [if_neg (by rw [decide_eq_true_eq]; omega)]
      have no : ¬ (j : Int) = gbI true rooms.length i := fun z => by
        have z : (j : Int) = (i : Int) - 1 := z
        omega
      rw [if_neg no, List.append_nil] at q
      exact step1_of F hi hj (by omega) q
theorem step_of (F : Fg8 row rooms h0 ws) {i j : Nat} (hi : i < nG row rooms) (hj : j < nG row rooms) (q : Q (oI (c1 row rooms h0 ws i j))) : F__law_step [.dt (ln true row rooms), .dt (sqd true (ws.map oI)), .dt (iq true h0), .dt (.int (i : Nat)), .dt (.int (j : Nat))] Q := by
  have lw := F.lw
  unfold c1 cl1 at q
  unfold F__law_step
  refine ⟨rfl, gatesB_of ?_⟩
  show f__law_step_3 (stS row rooms h0 ws i j []) (en Q)
  unfold f__law_step_3
  show if decide (((i : Nat) : Int) = ((j : Nat) : Int)) = true then _ else _
  by_cases c : i = j
  · rw [if_pos (decide_eq_true (by omega))]
    rw [if_pos c] at q
    show atQ (L2.atI (ws.map oI) ((i : Nat) : Int)) _
    rw [atI_w (by omega)]
    cases e : ws.getD i none with
    | none =>
      rw [e] at q
      exact step2_of F hi hj (l := []) (by simp) q
    | some w =>
      rw [e] at q
      show atQ (L2.atI (ws.map oI) ((i : Nat) : Int)) _
      rw [atI_w (by omega), e]
      exact ⟨by show 0 < 1000000; decide, step2_of F hi hj (l := [w]) (by simp) q⟩
  · rw [if_neg (by rw [decide_eq_true_eq]; omega)]
    rw [if_neg c] at q
    exact step2_of F hi hj (l := []) (by simp) q
end
end Ke
namespace Ke
open PySem PySem.Spec PyProof.Rows L2 Xg Dv Kd
theorem compN_at {g : FG} {fe : FD} {ρ : List Sl} {R : List (List PyData) → Prop} (f : Nat → List PyData) : ∀ (ds : List PyData) (acc : List (List PyData)) (a : Nat),
    (∀ i d, ds[i]? = some d → ∀ P : List PyData → Prop, P (f (a + i)) → g d ρ fun ρ' => fe ρ' P) → R (acc ++ (List.range' a ds.length).map f) → compN g fe ρ ds acc R
  | [], acc, a, _, q => by
    rw [List.length_nil, List.range'_zero, List.map_nil, List.append_nil] at q
    exact q
  | d :: ds, acc, a, hs, q => by
    refine hs 0 d rfl _ ?_
    refine compN_at f ds _ (a + 1) (fun i d hd P hp => hs (i + 1) d hd P (by rw [show a + (i + 1) = a + 1 + i by omega]; exact hp)) ?_
    rw [Nat.add_zero, List.append_assoc]
    rw [List.length_cons, List.range'_succ, List.map_cons] at q
    exact q
theorem compN_row {g : FG} {fe : FD} {ρ : List Sl} {R : List (List PyData) → Prop} {ds : List PyData} {n : Nat} (f : Nat → List PyData) (hn : ds.length = n) (hs : ∀ i d, i < n → ds[i]? = some d → ∀ P : List PyData → Prop, P (f i) → g d ρ fun ρ' => fe ρ' P) (q : R ((List.range n).map f)) : compN g fe ρ ds [] R := by
  refine compN_at f ds [] 0 (fun i d hd P hp => hs i d (by rw [← hn]; exact (List.getElem?_eq_some_iff.mp hd).1) hd P (by rw [Nat.zero_add] at hp; exact hp)) ?_
  rw [hn, List.nil_append, ← List.range_eq_range']
  exact q
section
variable {row k kw ks : Bool} {rooms h0 : List Int} {ws : List (Option Int)} {Q : List (List PyData) → Prop} {G H : Gr} {n m : Nat}
def gRw (n : Nat) (G : Gr) : List (List PyData) := (List.range n).map fun i => rwd n (G i)
theorem gRw_gd : .list ((gRw n G).map PyData.list) = gd n G := by
  unfold gRw gd
  rw [List.map_map]
  rfl
theorem gRw_flat : ∀ ds ∈ gRw n G, ds.all Dv.flat = true := fun ds h => by
  unfold gRw at h
  obtain ⟨i, _, rfl⟩ := List.mem_map.mp h
  unfold rwd
  rw [List.all_map, List.all_eq_true]
  intro j _
  show Dv.flat (oI (G i j)) = true
  cases G i j <;> rfl
theorem nNone_of (hn : n ≤ 1000) (q : Q (gRw n G0)) : N_grid_of_none [.dt (.int (n : Nat))] Q := by
  unfold N_grid_of_none
  refine ⟨rfl, ⟨⟨by omega, by omega⟩, ?_⟩⟩
  rw [Int.toNat_natCast]
  refine ⟨by rw [range_len]; omega, compN_row (fun i => rwd n (G0 i)) range_len (fun i d hi hd P hp => ?_) q⟩
  obtain ⟨_, rfl⟩ := rng_at hd
  refine ⟨⟨by omega, by omega⟩, ?_⟩
  rw [Int.toNat_natCast]
  refine ⟨by rw [range_len]; omega, comp_row (fun j => oI (G0 i j)) range_len (fun j d hj hd P hp => ?_) hp⟩
  obtain ⟨_, rfl⟩ := rng_at hd
  show if decide (((i : Nat) : Int) = ((j : Nat) : Int)) = true then P (.int 0) else P .none
  unfold G0 at hp
  by_cases z : i = j
  · rw [if_pos (decide_eq_true (by omega))]
    rw [if_pos z] at hp
    exact hp
  · rw [if_neg (by rw [decide_eq_true_eq]; omega)]
    rw [if_neg z] at hp
    exact hp
theorem nChained_of (n0 : 0 < n) (n9 : n ≤ 25) (q : Q (gRw n (chG n G H))) : N_chained [.dt (gd n G), .dt (gd n H)] Q := by
  have lg : ((List.range n).map fun i => PyData.list (rwd n (G i))).length = n := by rw [List.length_map, List.length_range]
  have lh : ((List.range n).map fun j => PyData.list (rwd n fun i => H i j)).length = n := by rw [List.length_map, List.length_range]
  unfold N_chained
  refine ⟨rfl, columns_fo n0 n9 ?_⟩
  refine show _ ∧ _ from ⟨by rw [lg]; omega, compN_row (fun i => rwd n (chG n G H i)) lg (fun i d hi hd P hp => ?_) q⟩
  obtain ⟨_, rfl⟩ := gd_at hd
  refine show _ ∧ _ from ⟨by rw [lh]; omega, comp_row (fun m => oI (chG n G H i m)) lh (fun m d hm hd P hp => ?_) hp⟩
  obtain ⟨_, rfl⟩ := gd_at (G := fun j i => H i j) hd
  exact least_fo (k2 := true) (by omega) hp
theorem nl_loop (F : Fg8 row rooms h0 ws) {many : Nat} {d0 d1 d2 d3 d4 : Sl} : ∀ (m t : Nat) (G : Gr) (s6 : Sl), Gk row rooms h0 ws (many % 2 ^ t) G →
    (∀ G, Gk row rooms h0 ws (many % 2 ^ (t + m)) G → Q (gRw (nG row rooms) G)) →
    forNL (gN 6) (lCallN N_chained (aCons (eVar 5) (aCons (eVar 6) aNil))) 5 ((List.range' t m).filterMap fun t => if bit many t = true then some (gd (nG row rooms) (pw row rooms h0 ws t)) else none) (gRw (nG row rooms) G) [d0, d1, d2, d3, d4, .dt (gd (nG row rooms) G), s6] Q
  | 0, t, G, s6, g, q => q G g
  | m + 1, t, G, s6, g, q => by
    have gb := gb9 F
    have ms : many % 2 ^ (t + 1) = many % 2 ^ t + 2 ^ t * (many / 2 ^ t % 2) := Nat.mod_pow_succ
    have q' : ∀ G, Gk row rooms h0 ws (many % 2 ^ (t + 1 + m)) G → Q (gRw (nG row rooms) G) := fun G g => by
      rw [show t + 1 + m = t + (m + 1) by omega] at g
      exact q G g
    rw [List.range'_succ]
    by_cases z : bit many t = true
    · rw [List.filterMap_cons_some (by rw [if_pos z])]
      have e1 : many / 2 ^ t % 2 = 1 := of_decide_eq_true z
      rw [e1, Nat.mul_one] at ms
      have gk := pw_gk F.n0 F.lh F.lw t
      refine nChained_of gb.1 gb.2 ?_
      have gc := Gk.ch g gk
      rw [Nat.add_comm, ← ms] at gc
      rw [gRw_gd]
      exact nl_loop F m (t + 1) _ _ gc q'
    · rw [List.filterMap_cons_none (by rw [if_neg z])]
      have e1 : many / 2 ^ t % 2 = 0 := by
        have : many / 2 ^ t % 2 < 2 := Nat.mod_lt _ (by omega)
        have : ¬ many / 2 ^ t % 2 = 1 := fun h => z (decide_eq_true h)
        omega
      have ms2 : many % 2 ^ (t + 1) = many % 2 ^ t := by rw [ms, e1, Nat.mul_zero]; rfl
      rw [← ms2] at g
      exact nl_loop F m (t + 1) G s6 g q'
theorem nGridOf_of {many : Nat} (F : Fg8 row rooms h0 ws) (hm : many < 2 ^ 1000) (q : ∀ G, Gk row rooms h0 ws many G → Q (gRw (nG row rooms) G)) : N_grid_of [.dt (ln k row rooms), .dt (sqd kw (ws.map oI)), .dt (iq ks h0), .dt (.int (many : Nat))] Q := by
  have gb := gb9 F
  have bb : Builtin.Int.intBits (many : Int) ≤ 1000 := PySem.intBits_le_iff.mpr (by rw [Int.natAbs_natCast]; exact hm)
  have bm : bl1 many ≤ 1000 := Nat.max_le.mpr ⟨by omega, bb⟩
  unfold N_grid_of
  refine ⟨rfl, doubled_of hm F.n0 F.nz F.lh F.lw ?_⟩
  refine ⟨by show 5 < 7; decide, ?_⟩
  refine gates_of ?_
  refine nNone_of (n := gts row rooms.length) (by have : gts row rooms.length ≤ 25 := gb.2; omega) ?_
  refine gridsIn_of (by omega) ?_
  have lg : (gin row rooms h0 ws many (bl1 many)).length ≤ 1000 := by
    unfold gin
    refine Nat.le_trans (List.length_filterMap_le _ _) ?_
    rw [List.length_range]
    exact bm
  refine (show (gin row rooms h0 ws many (bl1 many)).length ≤ 1000000 ∧ _ from ⟨by omega, ?_⟩)
  unfold gin
  rw [List.range_eq_range', gRw_gd]
  refine nl_loop F (bl1 many) 0 G0 _ (by rw [Nat.pow_zero, Nat.mod_one]; exact gk0) fun G g => ?_
  rw [Nat.zero_add, Nat.mod_eq_of_lt (bl1_lt (Nat.le_refl _))] at g
  exact q G g
theorem nolL_os : ∀ {ws : List (Option Int)}, nolL (ws.map oI) = true
  | [] => rfl
  | w :: r => by
    rw [List.map_cons]
    show (nol (oI w) && nolL (r.map oI)) = true
    rw [nolL_os]
    cases w <;> rfl
theorem tableN_of {P : PyData → Int → List (List PyData) → Prop} {many : Nat} (F : Fg8 row rooms h0 ws) (hm : many < 2 ^ 1000) (q : ∀ G, Gk row rooms h0 ws many G → P (moD row rooms h0 ws) (many : Nat) (gRw (nG row rooms) G)) : FI_Table [.dt (ln false row rooms), .dt (sqd false (ws.map oI)), .dt (iq false h0), .dt (.int (many : Nat))] P := by
  have nm : nol (moD row rooms h0 ws) = true := by
    show nol (.tuple [.tuple [.str (fm row), .tuple (rooms.map PyData.int)], .tuple (ws.map oI), .tuple (h0.map PyData.int)]) = true
    simp only [nol, nolL, nolL_ints, nolL_os, Bool.and_true]
  unfold FI_Table
  exact ⟨nm, nGridOf_of (k := false) (kw := false) (ks := false) F hm fun G g => ⟨gRw_flat, q G g⟩⟩
end
end Ke
namespace Ke
open PySem PySem.Spec PyProof.Rows L2 Xg Dv Kd
section
variable {n : Nat} {r : Nat → Option Int} {G C : Gr} {E : DEnds}
theorem rg_nat : rangeD 0 ((n : Nat) : Int).toNat = (List.range' 0 n).map fun i => PyData.int ((i : Nat) : Int) := by
  unfold rangeD
  rw [Int.toNat_natCast, List.range_eq_range']
  exact List.map_congr_left fun i _ => by rw [Int.zero_add]
theorem enum_rwd : enumD 0 (rwd n r) = (List.range n).map fun j => .tuple [.int (j : Nat), oI (r j)] := by
  unfold rwd
  rw [List.range_eq_range']
  exact enum_range n 0
def hS (C : Gr) (m : Nat) : PyData → Option PyData
  | .tuple [.int j, .int a] => (C j.toNat m).map fun c => .int (a + c)
  | _ => none
theorem hS_eq {m : Nat} : (enumD 0 (rwd n r)).filterMap (hS C m) = (sums n r fun j => C j m).map PyData.int := by
  rw [enum_rwd, List.filterMap_map]
  unfold sums
  rw [List.map_filterMap]
  refine congrArg (fun f => List.filterMap f (List.range n)) (funext fun j => ?_)
  show hS C m (.tuple [.int (j : Nat), oI (r j)]) = (opl (r j) (C j m)).map PyData.int
  cases r j with
  | none => rfl
  | some a =>
    show (C ((j : Nat) : Int).toNat m).map (fun c => PyData.int (a + c)) = _
    rw [Int.toNat_natCast]
    cases C j m <;> rfl
theorem ix2_of {i j : Nat} {P : PyData → Prop} (hi : i < n) (hj : j < n) (p : P (oI (C i j))) : gIx (gd n C) (.int ((i : Nat) : Int)) fun d => gIx d (.int ((j : Nat) : Int)) P := by
  show atQ (L2.atI ((List.range n).map fun i => PyData.list (rwd n (C i))) ((i : Nat) : Int)) _
  rw [atI_nat (v := .list (rwd n (C i))) (by rw [List.getElem?_map, List.getElem?_range hi]; rfl)]
  show atQ (L2.atI (rwd n (C i)) ((j : Nat) : Int)) _
  rw [atI_nat (v := oI (C i j)) (by unfold rwd; rw [List.getElem?_map, List.getElem?_range hj]; rfl)]
  exact p
variable {p0 p1 p2 p3 s6 s7 s8 s9 s10 s11 s12 s13 s14 s15 : Sl}
theorem some_of {m : Nat} (hm : m < n) {R : List PyData → Prop} (q : R ((sums n r fun j => C j m).map PyData.int)) :
    compD (gT (gsCons (gN 14) (gsCons (gN 15) gsNil))) (fAnd (fTest (eBin gIsNot (eVar 15) (eC .none))) (fTest (eBin gIsNot (eBin gIx (eBin gIx (eVar 5) (eVar 14)) (eVar 11)) (eC .none)))) (eBin gAdd (eVar 15) (eBin gIx (eBin gIx (eVar 5) (eVar 14)) (eVar 11)))
      [p0, p1, p2, p3, .dt (.int ((n : Nat) : Int)), .dt (gd n C), s6, s7, s8, s9, s10, .dt (.int ((m : Nat) : Int)), s12, s13, .no, .no] (enumD 0 (rwd n r)) [] R := by
  refine comp_fm (hS C m) _ _ (fun d hd A B ya no => ?_) (by rw [List.nil_append, hS_eq]; exact q)
  rw [enum_rwd] at hd
  obtain ⟨j, hj, rfl⟩ := List.mem_map.mp hd
  have hj := List.mem_range.mp hj
  cases e : r j with
  | none =>
    rw [e] at no
    exact no rfl
  | some a =>
    rw [e] at ya no
    have h1 : hS C m (.tuple [.int (j : Nat), oI (some a)]) = (C j m).map fun c => .int (a + c) := by
      show (C ((j : Nat) : Int).toNat m).map (fun c => PyData.int (a + c)) = _
      rw [Int.toNat_natCast]
    rw [h1] at ya no
    refine ix2_of (C := C) hj hm ?_
    cases e2 : C j m with
    | none =>
      rw [e2] at no
      exact no rfl
    | some c =>
      rw [e2] at ya
      refine ix2_of (C := C) hj hm ?_
      rw [e2]
      exact ya _ rfl
abbrev mtB : FS := (sSeq (sAsg (eL (fComp 1000000 (fEnum (eVar 9)) [14, 15] (gT (gsCons (gN 14) (gsCons (gN 15) gsNil))) (fAnd (fTest (eBin gIsNot (eVar 15) (eC .none))) (fTest (eBin gIsNot (eBin gIx (eBin gIx (eVar 5) (eVar 14)) (eVar 11)) (eC .none)))) (eBin gAdd (eVar 15) (eBin gIx (eBin gIx (eVar 5) (eVar 14)) (eVar 11))))) (gN 12)) f__law_prices_0)
theorem prices0_of {l : List Int} {acc : List PyData} (ha : acc.length < 1000000) (q : E.nx [p0, p1, p2, p3, .dt (.int ((n : Nat) : Int)), .dt (gd n C), s6, s7, s8, s9, .own (acc ++ [oI (mnO l)]), s11, .dt (.list (l.map PyData.int)), s13, s14, s15]) :
    f__law_prices_0 [p0, p1, p2, p3, .dt (.int ((n : Nat) : Int)), .dt (gd n C), s6, s7, s8, s9, .own acc, s11, .dt (.list (l.map PyData.int)), s13, s14, s15] E := by
  unfold f__law_prices_0
  refine ne_nilL ?_
  show if (!l.isEmpty) = true then _ else _
  cases l with
  | nil => exact ⟨ha, q⟩
  | cons a r => exact (minX_of (k := false) (l := a :: r) (Q := fun d => acc.length < 1000000 ∧ E.nx [p0, p1, p2, p3, .dt (.int ((n : Nat) : Int)), .dt (gd n C), s6, s7, s8, s9, .own (acc ++ [d]), s11, .dt (.list ((a :: r).map PyData.int)), s13, s14, s15]) (by simp) ⟨ha, q⟩)
theorem mate_loop (n9 : n ≤ 1000) : ∀ (m t : Nat) (s11 s12 : Sl), t + m = n →
    (∀ s11 s12, E.nx [p0, p1, p2, p3, .dt (.int ((n : Nat) : Int)), .dt (gd n C), s6, s7, s8, .dt (.list (rwd n r)), .own ((List.range n).map fun m => oI (lsm n r fun j => C j m)), s11, s12, s13, s14, s15]) →
    forD (gN 11) mtB ((List.range' t m).map fun i => PyData.int ((i : Nat) : Int)) [p0, p1, p2, p3, .dt (.int ((n : Nat) : Int)), .dt (gd n C), s6, s7, s8, .dt (.list (rwd n r)), .own ((List.range t).map fun m => oI (lsm n r fun j => C j m)), s11, s12, s13, s14, s15] E
  | 0, t, s11, s12, e, q => by
    rw [show t = n by omega]
    exact q s11 s12
  | m + 1, t, s11, s12, e, q => by
    rw [List.range'_succ, List.map_cons]
    have le : (enumD 0 (rwd n r)).length ≤ 1000000 := by rw [enum_rwd, List.length_map, List.length_range]; omega
    refine (show (enumD 0 (rwd n r)).length ≤ 1000000 ∧ _ from ⟨le, some_of (m := t) (by omega) ?_⟩)
    refine prices0_of (by rw [List.length_map, List.length_range]; omega) ?_
    have z := mate_loop n9 m (t + 1) (.dt (.int ((t : Nat) : Int))) (.dt (.list ((sums n r fun j => C j t).map PyData.int))) (by omega) q
    rw [show ((List.range (t + 1)).map fun m => oI (lsm n r fun j => C j m)) = ((List.range t).map fun m => oI (lsm n r fun j => C j m)) ++ [oI (lsm n r fun j => C j t)] by rw [List.range_succ, List.map_append]; rfl] at z
    exact z
abbrev rwB : FS := (sSeq (sOwn dNil 10) f__law_prices_2)
theorem row_loop (n9 : n ≤ 1000) : ∀ (m t : Nat) (s9 s10 s11 s12 : Sl), t + m = n →
    (∀ s9 s10 s11 s12, E.nx [p0, p1, p2, p3, .dt (.int ((n : Nat) : Int)), .dt (gd n C), s6, s7, .own ((List.range n).map fun i => .list (rwd n (chG n G C i))), s9, s10, s11, s12, s13, s14, s15]) →
    forD (gN 9) rwB ((List.range' t m).map fun i => PyData.list (rwd n (G i))) [p0, p1, p2, p3, .dt (.int ((n : Nat) : Int)), .dt (gd n C), s6, s7, .own ((List.range t).map fun i => .list (rwd n (chG n G C i))), s9, s10, s11, s12, s13, s14, s15] E
  | 0, t, s9, s10, s11, s12, e, q => by
    rw [show t = n by omega]
    exact q s9 s10 s11 s12
  | m + 1, t, s9, s10, s11, s12, e, q => by
    rw [List.range'_succ, List.map_cons]
    show f__law_prices_2 [p0, p1, p2, p3, .dt (.int ((n : Nat) : Int)), .dt (gd n C), s6, s7, .own ((List.range t).map fun i => .list (rwd n (chG n G C i))), .dt (.list (rwd n (G t))), .own [], s11, s12, s13, s14, s15] _
    unfold f__law_prices_2
    refine (show (-(2 ^ 62) ≤ ((n : Nat) : Int) ∧ ((n : Nat) : Int) < 2 ^ 62) ∧ (rangeD 0 ((n : Nat) : Int).toNat).length ≤ 1000000 ∧ _ from ⟨⟨by omega, by omega⟩, by rw [range_len]; omega, ?_⟩)
    rw [rg_nat]
    refine mate_loop (r := G t) n9 n 0 s11 s12 (by omega) fun s11 s12 => ?_
    show f__law_prices_1 [p0, p1, p2, p3, .dt (.int ((n : Nat) : Int)), .dt (gd n C), s6, s7, .own ((List.range t).map fun i => .list (rwd n (chG n G C i))), .dt (.list (rwd n (G t))), .own ((List.range n).map fun m => oI (lsm n (G t) fun j => C j m)), s11, s12, s13, s14, s15] _
    unfold f__law_prices_1
    refine ⟨by rw [List.length_map, List.length_range]; omega, ?_⟩
    have z := row_loop n9 m (t + 1) (.dt (.list (rwd n (G t)))) (.dt (.list (rwd n (chG n G C t)))) s11 s12 (by omega) q
    rw [show ((List.range (t + 1)).map fun i => PyData.list (rwd n (chG n G C i))) = ((List.range t).map fun i => .list (rwd n (chG n G C i))) ++ [.list (rwd n (chG n G C t))] by rw [List.range_succ, List.map_append]; rfl] at z
    exact z
end
section
variable {row : Bool} {rooms h0 : List Int} {ws : List (Option Int)} {Q : PyData → Prop} {G : Gr} {E : DEnds} {p0 p1 p2 p3 s13 s14 s15 : Sl}
abbrev tnB : FS := (sSeq (sOwn dNil 8) f__law_prices_4)
theorem turn_loop (F : Fg8 row rooms h0 ws) : ∀ (ds : List PyData) (t : Nat) (G : Gr) (s7 s8 s9 s10 s11 s12 : Sl), Gk row rooms h0 ws t G →
    (∀ G s7 s8 s9 s10 s11 s12, Gk row rooms h0 ws (t + ds.length) G → E.nx [p0, p1, p2, p3, .dt (.int ((nG row rooms : Nat) : Int)), .dt (gd (nG row rooms) (c1 row rooms h0 ws)), .dt (gd (nG row rooms) G), s7, s8, s9, s10, s11, s12, s13, s14, s15]) →
    forD (gN 7) tnB ds [p0, p1, p2, p3, .dt (.int ((nG row rooms : Nat) : Int)), .dt (gd (nG row rooms) (c1 row rooms h0 ws)), .dt (gd (nG row rooms) G), s7, s8, s9, s10, s11, s12, s13, s14, s15] E
  | [], t, G, s7, s8, s9, s10, s11, s12, g, q => q _ _ _ _ _ _ _ g
  | d :: ds, t, G, s7, s8, s9, s10, s11, s12, g, q => by
    have gb := gb9 F
    show f__law_prices_4 [p0, p1, p2, p3, .dt (.int ((nG row rooms : Nat) : Int)), .dt (gd (nG row rooms) (c1 row rooms h0 ws)), .dt (gd (nG row rooms) G), .dt d, .own [], s9, s10, s11, s12, s13, s14, s15] _
    unfold f__law_prices_4
    refine (show ((List.range (nG row rooms)).map fun i => PyData.list (rwd (nG row rooms) (G i))).length ≤ 1000000 ∧ _ from ⟨by rw [List.length_map, List.length_range]; omega, ?_⟩)
    rw [List.range_eq_range']
    refine row_loop (G := G) (C := c1 row rooms h0 ws) (by omega) (nG row rooms) 0 s9 s10 s11 s12 (by omega) fun s9 s10 s11 s12 => ?_
    show f__law_prices_3 [p0, p1, p2, p3, .dt (.int ((nG row rooms : Nat) : Int)), .dt (gd (nG row rooms) (c1 row rooms h0 ws)), .dt (gd (nG row rooms) G), .dt d, .own ((List.range (nG row rooms)).map fun i => .list (rwd (nG row rooms) (chG (nG row rooms) G (c1 row rooms h0 ws) i))), s9, s10, s11, s12, s13, s14, s15] _
    unfold f__law_prices_3
    have g2 := Gk.ch g (one_gk F.n0 F.lh F.lw)
    refine turn_loop F ds (1 + t) _ (.dt d) (.dt (gd (nG row rooms) (chG (nG row rooms) G (c1 row rooms h0 ws)))) s9 s10 s11 s12 g2 fun G' s7 s8 s9 s10 s11 s12 g3 => q _ _ _ _ _ _ _ ?_
    rw [List.length_cons, show t + (ds.length + 1) = 1 + t + ds.length by omega]
    exact g3
theorem prices_of {many : Nat} (F : Fg8 row rooms h0 ws) (hm : many ≤ 1000) (q : ∀ G, Gk row rooms h0 ws many G → Q (gd (nG row rooms) G)) : F__law_prices [.dt (ln true row rooms), .dt (sqd true (ws.map oI)), .dt (iq true h0), .dt (.int ((many : Nat) : Int))] Q := by
  have gb := gb9 F
  unfold F__law_prices
  refine ⟨rfl, gatesB_of ?_⟩
  show f__law_prices_8 [.dt (ln true row rooms), .dt (sqd true (ws.map oI)), .dt (iq true h0), .dt (.int ((many : Nat) : Int)), .dt (.int ((nG row rooms : Nat) : Int)), .no, .no, .no, .no, .no, .no, .no, .no, .no, .no, .no] (en Q)
  unfold f__law_prices_8
  refine (show (-(2 ^ 62) ≤ ((nG row rooms : Nat) : Int) ∧ ((nG row rooms : Nat) : Int) < 2 ^ 62) ∧ (rangeD 0 ((nG row rooms : Nat) : Int).toNat).length ≤ 1000000 ∧ _ from ⟨⟨by omega, by omega⟩, by rw [range_len]; omega, ?_⟩)
  rw [Int.toNat_natCast]
  refine comp_row (fun i => .list (rwd (nG row rooms) (c1 row rooms h0 ws i))) range_len (fun i d hi hd P hp => ?_) ?_
  · obtain ⟨_, rfl⟩ := rng_at hd
    refine (show (-(2 ^ 62) ≤ ((nG row rooms : Nat) : Int) ∧ ((nG row rooms : Nat) : Int) < 2 ^ 62) ∧ (rangeD 0 ((nG row rooms : Nat) : Int).toNat).length ≤ 1000000 ∧ _ from ⟨⟨by omega, by omega⟩, by rw [range_len]; omega, ?_⟩)
    rw [Int.toNat_natCast]
    refine comp_row (fun j => oI (c1 row rooms h0 ws i j)) range_len (fun j d hj hd P hp => ?_) hp
    obtain ⟨_, rfl⟩ := rng_at hd
    exact step_of F hi hj hp
  show f__law_prices_7 [.dt (ln true row rooms), .dt (sqd true (ws.map oI)), .dt (iq true h0), .dt (.int ((many : Nat) : Int)), .dt (.int ((nG row rooms : Nat) : Int)), .dt (gd (nG row rooms) (c1 row rooms h0 ws)), .no, .no, .no, .no, .no, .no, .no, .no, .no, .no] (en Q)
  unfold f__law_prices_7
  refine (show (-(2 ^ 62) ≤ ((nG row rooms : Nat) : Int) ∧ ((nG row rooms : Nat) : Int) < 2 ^ 62) ∧ (rangeD 0 ((nG row rooms : Nat) : Int).toNat).length ≤ 1000000 ∧ _ from ⟨⟨by omega, by omega⟩, by rw [range_len]; omega, ?_⟩)
  rw [Int.toNat_natCast]
  refine comp_row (fun i => .list (rwd (nG row rooms) (G0 i))) range_len (fun i d hi hd P hp => ?_) ?_
  · obtain ⟨_, rfl⟩ := rng_at hd
    refine (show (-(2 ^ 62) ≤ ((nG row rooms : Nat) : Int) ∧ ((nG row rooms : Nat) : Int) < 2 ^ 62) ∧ (rangeD 0 ((nG row rooms : Nat) : Int).toNat).length ≤ 1000000 ∧ _ from ⟨⟨by omega, by omega⟩, by rw [range_len]; omega, ?_⟩)
    rw [Int.toNat_natCast]
    refine comp_row (fun j => oI (G0 i j)) range_len (fun j d hj hd P hp => ?_) hp
    obtain ⟨_, rfl⟩ := rng_at hd
    show if decide (((i : Nat) : Int) = ((j : Nat) : Int)) = true then P (.int 0) else P .none
    unfold G0 at hp
    by_cases z : i = j
    · rw [if_pos (decide_eq_true (by omega))]
      rw [if_pos z] at hp
      exact hp
    · rw [if_neg (by rw [decide_eq_true_eq]; omega)]
      rw [if_neg z] at hp
      exact hp
  show f__law_prices_6 [.dt (ln true row rooms), .dt (sqd true (ws.map oI)), .dt (iq true h0), .dt (.int ((many : Nat) : Int)), .dt (.int ((nG row rooms : Nat) : Int)), .dt (gd (nG row rooms) (c1 row rooms h0 ws)), .dt (gd (nG row rooms) G0), .no, .no, .no, .no, .no, .no, .no, .no, .no] (en Q)
  unfold f__law_prices_6
  refine (show (-(2 ^ 62) ≤ ((many : Nat) : Int) ∧ ((many : Nat) : Int) < 2 ^ 62) ∧ (rangeD 0 ((many : Nat) : Int).toNat).length ≤ 1000000 ∧ _ from ⟨⟨by omega, by omega⟩, by rw [range_len]; omega, ?_⟩)
  refine turn_loop F _ 0 G0 .no .no .no .no .no .no gk0 fun G s7 s8 s9 s10 s11 s12 g => ?_
  rw [range_len, Int.toNat_natCast, Nat.zero_add] at g
  show f__law_prices_5 _ (en Q)
  unfold f__law_prices_5
  exact q G g
end
end Ke
namespace Ke
open PySem PySem.Spec PyProof.Rows L2 Xg Dv Kd
section
variable {n : Nat} {r : Nat → Option Int} {x : List Int} {Q : PyData → Prop}
theorem leastL_of {z : Int} (hz : n ≤ 1000) (lx : x.length = n) (e : lsm n r (nmb x) = some z) (q : Q (.int z)) : F__law_least [.dt (.list (rwd n r)), .dt (iq false x)] Q := by
  have ef : (zipD (rwd n r) (rwd n (nmb x))).filterMap plD = (sums n r (nmb x)).map PyData.int := by
    rw [zip_rwd, List.filterMap_map]
    unfold sums
    rw [List.map_filterMap]
    exact congrArg (fun f => List.filterMap f (List.range n)) (funext fun j => pl_oI)
  have lz : (zipD (rwd n r) (rwd n (nmb x))).length = n := zip_len rwd_len rwd_len
  obtain ⟨h1, h2⟩ := mnO_iff.mp e
  rw [show iq false x = .list (rwd n (nmb x)) from congrArg PyData.list (rwd_nmb lx)]
  unfold F__law_least
  refine ⟨rfl, ?_⟩
  refine show (zipD (rwd n r) (rwd n (nmb x))).length ≤ 1000000 ∧ _ from ⟨by omega, comp_fm plD _ _ (fun d hd A B ya no => ?_) ?_⟩
  · rw [zip_rwd] at hd
    obtain ⟨j, _, rfl⟩ := List.mem_map.mp hd
    cases ea : r j with
    | none =>
      rw [ea] at no
      exact no rfl
    | some a =>
      rw [ea] at ya
      exact ya _ rfl
  · rw [List.nil_append, ef]
    refine min_of (fun e => by rw [e] at h1; cases h1) ?_
    rw [← mn_is h1 h2]
    exact q
def mtD : PyData → Option PyData
  | .tuple [.int a, .int b] => some (.int (b - a))
  | _ => none
theorem mostL_of {z : Int} (hz : n ≤ 1000) (lx : x.length = n) (e : lsm n r (ngb x) = some z) (q : Q (.int (-z))) : F__law_most [.dt (.list (rwd n r)), .dt (iq false x)] Q := by
  have ef : (zipD (rwd n r) (rwd n (nmb x))).filterMap mtD = ((sums n r (ngb x)).map fun v => -v).map PyData.int := by
    rw [zip_rwd, List.filterMap_map, List.map_map]
    unfold sums
    rw [List.map_filterMap]
    refine congrArg (fun f => List.filterMap f (List.range n)) (funext fun j => ?_)
    show mtD (.tuple [oI (r j), .int (x.getD j 0)]) = (opl (r j) (some (-x.getD j 0))).map (PyData.int ∘ fun v => -v)
    cases r j with
    | none => rfl
    | some a =>
      show some (PyData.int (x.getD j 0 - a)) = some (PyData.int (-(a + -x.getD j 0)))
      rw [show -(a + -x.getD j 0) = x.getD j 0 - a by omega]
  have lz : (zipD (rwd n r) (rwd n (nmb x))).length = n := zip_len rwd_len rwd_len
  obtain ⟨h1, h2⟩ := mnO_iff.mp e
  rw [show iq false x = .list (rwd n (nmb x)) from congrArg PyData.list (rwd_nmb lx)]
  unfold F__law_most
  refine ⟨rfl, ?_⟩
  refine show (zipD (rwd n r) (rwd n (nmb x))).length ≤ 1000000 ∧ _ from ⟨by omega, comp_fm mtD _ _ (fun d hd A B ya no => ?_) ?_⟩
  · rw [zip_rwd] at hd
    obtain ⟨j, _, rfl⟩ := List.mem_map.mp hd
    cases ea : r j with
    | none =>
      rw [ea] at no
      exact no rfl
    | some a =>
      rw [ea] at ya
      exact ya _ rfl
  · rw [List.nil_append, ef]
    have m1 : -z ∈ (sums n r (ngb x)).map fun v => -v := List.mem_map.mpr ⟨z, h1, rfl⟩
    refine ⟨_, rfl, List.length_pos_of_mem m1, fun m hm hle => ?_⟩
    obtain ⟨v, hv, rfl⟩ := List.mem_map.mp hm
    have := h2 v hv
    have := hle _ m1
    rw [show v = z by omega]
    exact q
theorem shal_many {k : Nat} {ds : List PyData} (h : ds.length ≤ 1000) (hs : ∀ d ∈ ds, shal k d = true) : shal (k + 1) (.list ds) = true := by
  show (decide (ds.length ≤ 1000) && ds.all (shal k)) = true
  rw [decide_eq_true h, List.all_eq_true.mpr hs]
  rfl
theorem shal_rw {k : Nat} {G : Gr} {i : Nat} (hn : n ≤ 1000) : shal (k + 1) (.list (rwd n (G i))) = true := shal_many (by rw [rwd_len]; exact hn) fun d hd => by
  unfold rwd at hd
  obtain ⟨j, _, rfl⟩ := List.mem_map.mp hd
  exact shal_oI
end
section
variable {row k kw ks : Bool} {rooms h0 : List Int} {ws : List (Option Int)} {Q : PyData → Prop} {G T : Gr} {m many : Nat} {x : List Int} {E : DEnds}
theorem ledBackT_of (g : Gk row rooms h0 ws m G) (n0 : 0 < rooms.length) (nz : rooms.length ≤ 24) (lx : x.length = nG row rooms) (q : Q (iq false (ledB (nG row rooms) G x))) : F_led_back_by [.dt (gd (nG row rooms) G), .dt (iq true x)] Q := by
  have gb : 0 < nG row rooms ∧ nG row rooms ≤ 25 := by show 0 < gts row rooms.length ∧ gts row rooms.length ≤ 25; unfold gts; split <;> omega
  have lg : ((List.range (nG row rooms)).map fun j => PyData.list (rwd (nG row rooms) fun i => G i j)).length = nG row rooms := by rw [List.length_map, List.length_range]
  unfold F_led_back_by
  refine ⟨rfl, show (x.map PyData.int).length ≤ 1000000 ∧ _ from ⟨by rw [len_i]; omega, comp_vec (fun i => -x.getD i 0) (n := nG row rooms) (by rw [len_i, lx]) (fun i d hd P hp => ?_) ?_⟩⟩
  · obtain ⟨_, rfl⟩ := map_at hd
    exact hp
  · refine columns_fo gb.1 gb.2 ?_
    refine show _ ∧ _ from ⟨by rw [lg]; omega, comp_vec _ lg (fun j d hd P hp => ?_) q⟩
    obtain ⟨hj, rfl⟩ := gd_at (G := fun j i => G i j) hd
    show F_least_sum [.dt (.list (rwd (nG row rooms) fun i => G i j)), .dt (.list ((vec (nG row rooms) fun i => -x.getD i 0).map PyData.int))] fun d => negD d P
    rw [neg_vec lx]
    refine least_fo (k2 := true) (by omega) ?_
    obtain ⟨z, e⟩ := g.exB (x := x) hj
    rw [e] at hp ⊢
    exact hp
theorem backT_of (F : Fg8 row rooms h0 ws) (g : Gk row rooms h0 ws many G) (lx : x.length = nG row rooms) (q : Q (iq true (runX row rooms h0 (bws false ws many) x))) : F_Table_led_back [.op (tbD row rooms h0 ws many G), .dt (iq true x)] Q := by
  unfold F_Table_led_back
  refine ⟨rfl, ledBackT_of g F.n0 F.nz lx ?_⟩
  rw [g.back F.n0 F.lh F.lw lx]
  exact q
abbrev s23 (s1 : Sl) (row : Bool) (rooms h0 : List Int) (ws : List (Option Int)) (many : Nat) (G T : Gr) (x : List Int) (s12 s13 s14 s15 s16 s17 s18 : Sl) : List Sl :=
  [.box, s1, .dt (ln true row rooms), .dt (sqd true (ws.map oI)), .dt (iq true h0), .dt (.int ((many : Nat) : Int)), .dt (.int ((nG row rooms : Nat) : Int)), .dt (gd (nG row rooms) G), .no, .dt (iq false x), .no, .op (tbD row rooms h0 ws many T), s12, s13, s14, s15, s16, s17, s18]
variable {s1 s12 s13 s14 s15 s16 s17 s18 : Sl}
abbrev endD (row : Bool) (rooms h0 : List Int) (ws : List (Option Int)) (many : Nat) (x : List Int) : List PyData :=
  [iq true (runX row rooms h0 (bws true ws many) (zr (nG row rooms))), iq true (runX row rooms h0 (bws true ws many) x), iq true (runX row rooms h0 (bws false ws many) x)]
theorem r0_of (F : Fg8 row rooms h0 ws) (t : Gk row rooms h0 ws many T) (lx : x.length = nG row rooms) (q : E.nx (s23 s1 row rooms h0 ws many G T x s12 (.own (endD row rooms h0 ws many x)) s14 s15 s16 s17 s18)) :
    f__law_right_0 (s23 s1 row rooms h0 ws many G T x s12 (.own (endD row rooms h0 ws many x)) s14 s15 s16 s17 s18) E := by
  have nz := F.nz
  have gb := gb9 F
  have l1 : ∀ (b : Bool) (y : List Int), y.length = nG row rooms → (runX row rooms h0 (bws b ws many) y).length ≤ 1000 := fun b y ly => by rw [runX_len, ly]; omega
  unfold f__law_right_0
  refine counts_of t (by omega) (ledL_of t (by omega) lx ?_)
  refine (show _ = 1 ∧ F_Table_led_back [.op (tbD row rooms h0 ws many T), .dt (iq true x)] _ from ⟨rfl, ?_⟩)
  refine backT_of F t lx ?_
  refine same_of rfl (shal_many (by show 3 ≤ 1000; decide) fun d hd => ?_) ⟨rfl, q⟩
  simp only [List.mem_cons, List.not_mem_nil, or_false] at hd
  rcases hd with rfl | rfl | rfl
  · exact shal_iq (l1 true _ vec_len)
  · exact shal_iq (l1 true _ lx)
  · exact shal_iq (l1 false _ lx)
theorem rg_i {m : Nat} {d : PyData} {n : Nat} (hm : m < n) (hd : (rangeD 0 ((n : Nat) : Int).toNat)[m]? = some d) : d = .int (m : Nat) := by
  unfold rangeD at hd
  rw [List.getElem?_map, Int.toNat_natCast, List.getElem?_range hm] at hd
  obtain rfl : PyData.int (0 + ((m : Nat) : Int)) = d := Option.some.inj hd
  rw [Int.zero_add]
theorem r1_of (F : Fg8 row rooms h0 ws) (g : Gk row rooms h0 ws many G) (t : Gk row rooms h0 ws many T) (lx : x.length = nG row rooms) (q : ∀ s13, E.nx (s23 s1 row rooms h0 ws many G T x s12 s13 s14 s15 s16 s17 s18)) :
    f__law_right_1 (s23 s1 row rooms h0 ws many G T x s12 (.own [iq true (runX row rooms h0 (bws true ws many) (zr (nG row rooms))), iq true (runX row rooms h0 (bws true ws many) x)]) s14 s15 s16 s17 s18) E := by
  have gb := gb9 F
  unfold f__law_right_1
  refine (show (-(2 ^ 62) ≤ ((nG row rooms : Nat) : Int) ∧ ((nG row rooms : Nat) : Int) < 2 ^ 62) ∧ (rangeD 0 ((nG row rooms : Nat) : Int).toNat).length ≤ 1000000 ∧ _ from ⟨⟨by omega, by omega⟩, by rw [range_len]; omega, ?_⟩)
  refine comp_vec (n := nG row rooms) (fun j => -(lsm (nG row rooms) (fun i => G i j) (ngb x)).getD 0) (by rw [range_len]; omega) (fun j d hd P hp => ?_) ?_
  · have hj : j < nG row rooms := by
      have := (List.getElem?_eq_some_iff.mp hd).1
      rw [range_len] at this
      omega
    rw [rg_i hj hd]
    refine (show ((List.range (nG row rooms)).map fun i => PyData.list (rwd (nG row rooms) (G i))).length ≤ 1000000 ∧ _ from ⟨by rw [List.length_map, List.length_range]; omega, ?_⟩)
    refine comp_row (n := nG row rooms) (fun i => oI (G i j)) (by rw [List.length_map, List.length_range]) (fun i d hi hd P hp => ?_) ?_
    · obtain ⟨_, rfl⟩ := gd_at hd
      show atQ (L2.atI (rwd (nG row rooms) (G i)) ((j : Nat) : Int)) _
      rw [atI_nat (v := oI (G i j)) (by unfold rwd; rw [List.getElem?_map, List.getElem?_range hj]; rfl)]
      exact hp
    · obtain ⟨z, e⟩ := g.exB (x := x) hj
      refine mostL_of (r := fun i => G i j) (by omega) lx e ?_
      rw [e] at hp
      exact hp
  · show 2 < 1000000 ∧ _
    refine ⟨by decide, ?_⟩
    have e : (vec (nG row rooms) fun j => -(lsm (nG row rooms) (fun i => G i j) (ngb x)).getD 0) = runX row rooms h0 (bws false ws many) x := g.back F.n0 F.lh F.lw lx
    rw [e]
    exact r0_of F t lx (q _)
theorem r2_of (F : Fg8 row rooms h0 ws) (g : Gk row rooms h0 ws many G) (t : Gk row rooms h0 ws many T) (lx : x.length = nG row rooms) (q : ∀ s13, E.nx (s23 s1 row rooms h0 ws many G T x s12 s13 s14 s15 s16 s17 s18)) :
    f__law_right_2 (s23 s1 row rooms h0 ws many G T x s12 s13 s14 s15 s16 s17 s18) E := by
  have gb := gb9 F
  have lz : (zr (nG row rooms)).length = nG row rooms := vec_len
  have one : ∀ (y : List Int) (P : PyData → Prop) (ρ : List Sl), y.length = nG row rooms → P (iq true (runX row rooms h0 (bws true ws many) y)) →
      eUn tupD (eL (fComp 1000000 (fIt (eVar 7)) [18] (gN 18) fYes (eCall F__law_least (aCons (eVar 18) (aCons (eVar 16) aNil))))) (s23 s1 row rooms h0 ws many G T x s12 s13 s14 s15 (.dt (iq false y)) s17 s18) P := fun y P ρ ly p => by
    refine (show ((List.range (nG row rooms)).map fun i => PyData.list (rwd (nG row rooms) (G i))).length ≤ 1000000 ∧ _ from ⟨by rw [List.length_map, List.length_range]; omega, ?_⟩)
    refine comp_vec (n := nG row rooms) (fun i => (lsm (nG row rooms) (G i) (nmb y)).getD 0) (by rw [List.length_map, List.length_range]) (fun i d hd P hp => ?_) ?_
    · obtain ⟨hi, rfl⟩ := gd_at hd
      obtain ⟨z, e⟩ := g.ex (x := y) hi
      refine leastL_of (by omega) ly e ?_
      rw [e] at hp
      exact hp
    · have e : (vec (nG row rooms) fun i => (lsm (nG row rooms) (G i) (nmb y)).getD 0) = runX row rooms h0 (bws true ws many) y := g.led ly
      rw [e]
      exact p
  unfold f__law_right_2
  refine (show (-(2 ^ 63) ≤ ((nG row rooms : Nat) : Int) ∧ ((nG row rooms : Nat) : Int) < 2 ^ 63 ∧ [PyData.int 0].length * ((nG row rooms : Nat) : Int).toNat ≤ 1000000) ∧ _ from ⟨⟨by omega, by omega, by rw [Int.toNat_natCast]; show 1 * _ ≤ _; omega⟩, ?_⟩)
  rw [rep_zr]
  refine (show 2 ≤ 1000000 ∧ _ from ⟨by decide, ?_⟩)
  refine one (zr (nG row rooms)) _ [] lz ?_
  refine one x _ [] lx ?_
  exact r1_of F g t lx q
end
end Ke
namespace Ke
open PySem PySem.Spec PyProof.Rows L2 Xg Dv Kd
theorem all2_len {α β : Type} {R : α → β → Prop} : ∀ {as : List α} {bs : List β}, All2 R as bs → as.length = bs.length
  | _, _, .nil => rfl
  | _, _, .cons _ h => by rw [List.length_cons, List.length_cons, all2_len h]
section
variable {row k kw ks : Bool} {rooms h0 : List Int} {ws : List (Option Int)} {Q : PyData → Prop} {G T : Gr} {m many : Nat} {x : List Int} {E : DEnds}
variable {s1 s7 s8 s9 s10 s11 s12 s13 s14 s15 s16 s17 s18 : Sl}
abbrev fdD (n many : Nat) (G : Gr) : PyData := .list (((List.range n).map fun i => PyData.list (rwd n (G i))) ++ [.int ((many : Nat) : Int), oI (G (n - 1) 0)])
theorem fd_eq (F : Fg8 row rooms h0 ws) (g : Gk row rooms h0 ws m G) (t : Gk row rooms h0 ws m T) : fdD (nG row rooms) many G = fdD (nG row rooms) many T := by
  have gb := gb9 F
  have e1 : ((List.range (nG row rooms)).map fun i => PyData.list (rwd (nG row rooms) (G i))) = (List.range (nG row rooms)).map fun i => PyData.list (rwd (nG row rooms) (T i)) := PyData.list.inj (gd_eq g t)
  unfold fdD
  rw [e1, gk_eq g t (i := nG row rooms - 1) (j := 0) (by omega) gb.1]
theorem shal_fd {k n : Nat} (hn : n ≤ 900) : shal (k + 3) (fdD n many G) = true := shal_many (by rw [List.length_append, List.length_map, List.length_range]; show n + 2 ≤ 1000; omega) fun d hd => by
  rcases List.mem_append.mp hd with hd | hd
  · obtain ⟨i, _, rfl⟩ := List.mem_map.mp hd
    exact shal_rw (by omega)
  · simp only [List.mem_cons, List.not_mem_nil, or_false] at hd
    rcases hd with rfl | rfl
    · rfl
    · exact shal_oI
theorem r3_of (F : Fg8 row rooms h0 ws) (g : Gk row rooms h0 ws many G) (t : Gk row rooms h0 ws many T) (lx : x.length = nG row rooms) (q : ∀ s13, E.nx (s23 s1 row rooms h0 ws many G T x (.dt (fdD (nG row rooms) many T)) s13 s14 s15 s16 s17 s18)) :
    f__law_right_3 (s23 s1 row rooms h0 ws many G T x (.dt (fdD (nG row rooms) many T)) s13 s14 s15 s16 s17 s18) E := by
  have gb := gb9 F
  unfold f__law_right_3
  show gIx (gd (nG row rooms) G) (.int (((nG row rooms : Nat) : Int) - 1)) _
  rw [show ((nG row rooms : Nat) : Int) - 1 = ((nG row rooms - 1 : Nat) : Int) by omega]
  refine ix2_of (C := G) (j := 0) (by omega) gb.1 ?_
  refine (show ((List.range (nG row rooms)).map fun i => PyData.list (rwd (nG row rooms) (G i))).length + 2 ≤ 1000000 ∧ F_same [.dt (fdD (nG row rooms) many T), .dt (fdD (nG row rooms) many G)] _ from ⟨by rw [List.length_map, List.length_range]; omega, ?_⟩)
  refine same_of (fd_eq F t g) (shal_fd (by omega)) ?_
  exact r2_of F g t lx q
theorem r4_of (F : Fg8 row rooms h0 ws) (g : Gk row rooms h0 ws many G) (t : Gk row rooms h0 ws many T) (lx : x.length = nG row rooms) (q : ∀ s12 s13, E.nx (s23 s1 row rooms h0 ws many G T x s12 s13 s14 s15 s16 s17 s18)) :
    f__law_right_4 (s23 s1 row rooms h0 ws many G T x (.dt (gd (nG row rooms) T)) s13 s14 s15 s16 s17 s18) E := by
  have gb := gb9 F
  unfold f__law_right_4
  refine steps_of ?_
  refine (show _ = 2 ∧ F_Table_price [.op (tbD row rooms h0 ws many T), .dt (.int (((nG row rooms : Nat) : Int) - 1)), .dt (.int ((0 : Nat) : Int))] _ from ⟨rfl, ?_⟩)
  rw [show ((nG row rooms : Nat) : Int) - 1 = ((nG row rooms - 1 : Nat) : Int) by omega]
  refine price_of (by omega) gb.1 ?_
  refine (show ((List.range (nG row rooms)).map fun i => PyData.list (rwd (nG row rooms) (T i))).length + 2 ≤ 1000000 ∧ f__law_right_3 (s23 s1 row rooms h0 ws many G T x (.dt (fdD (nG row rooms) many T)) s13 s14 s15 s16 s17 s18) _ from ⟨by rw [List.length_map, List.length_range]; omega, ?_⟩)
  exact r3_of F g t lx (q _)
abbrev tabB : FS := (sSeq (sAsg (eL (fComp 1000000 (fRange1 (eVar 6)) [15] (gN 15) fYes (eL (fComp 1000000 (fRange1 (eVar 6)) [17] (gN 17) fYes (eMeth 11 F_Table_price (aCons (eVar 15) (aCons (eVar 17) aNil))))))) (gN 12)) f__law_right_4)
theorem tab_of (F : Fg8 row rooms h0 ws) (g : Gk row rooms h0 ws many G) (t : Gk row rooms h0 ws many T) (lx : x.length = nG row rooms) (q : ∀ s12 s13, E.nx (s23 s1 row rooms h0 ws many G T x s12 s13 s14 s15 s16 s17 s18)) :
    tabB (s23 s1 row rooms h0 ws many G T x s12 s13 s14 s15 s16 s17 s18) E := by
  have gb := gb9 F
  refine (show (-(2 ^ 62) ≤ ((nG row rooms : Nat) : Int) ∧ ((nG row rooms : Nat) : Int) < 2 ^ 62) ∧ (rangeD 0 ((nG row rooms : Nat) : Int).toNat).length ≤ 1000000 ∧ _ from ⟨⟨by omega, by omega⟩, by rw [range_len]; omega, ?_⟩)
  refine comp_row (n := nG row rooms) (fun i => .list (rwd (nG row rooms) (T i))) (by rw [range_len]; omega) (fun i d hi hd P hp => ?_) ?_
  · rw [rg_i hi hd]
    refine (show (-(2 ^ 62) ≤ ((nG row rooms : Nat) : Int) ∧ ((nG row rooms : Nat) : Int) < 2 ^ 62) ∧ (rangeD 0 ((nG row rooms : Nat) : Int).toNat).length ≤ 1000000 ∧ _ from ⟨⟨by omega, by omega⟩, by rw [range_len]; omega, ?_⟩)
    refine comp_row (n := nG row rooms) (fun j => oI (T i j)) (by rw [range_len]; omega) (fun j d hj hd P hp => ?_) hp
    rw [rg_i hj hd]
    exact price_of hi hj hp
  · exact r4_of F g t lx q
theorem both_of (F : Fg8 row rooms h0 ws) (hm : many ≤ 1000) (g : Gk row rooms h0 ws many G)
    (q : ∀ s8 s9 s10 s11 s12 s13, E.nx [.box, s1, .dt (ln true row rooms), .dt (sqd true (ws.map oI)), .dt (iq true h0), .dt (.int ((many : Nat) : Int)), .dt (.int ((nG row rooms : Nat) : Int)), .dt (gd (nG row rooms) G), s8, s9, s10, s11, s12, s13, s14, s15, s16, s17, s18]) :
    f__law_right_5 [.box, s1, .dt (ln true row rooms), .dt (sqd true (ws.map oI)), .dt (iq true h0), .dt (.int ((many : Nat) : Int)), .dt (.int ((nG row rooms : Nat) : Int)), .dt (gd (nG row rooms) G), s8, s9, s10, s11, s12, s13, s14, s15, s16, s17, s18] E := by
  have gb := gb9 F
  have nz := F.nz
  have big : many < 2 ^ 1000 := lt_big (by omega)
  unfold f__law_right_5
  refine ⟨⟨by show 8 < 19; decide, by show 9 < 19; decide, by show 10 < 19; decide⟩, ?_⟩
  refine (show ((rooms.map PyData.int).length ≤ 1000000 ∧ (ws.map oI).length ≤ 1000000 ∧ (h0.map PyData.int).length ≤ 1000000) ∧ _ from ⟨⟨by rw [len_i]; omega, by rw [List.length_map, F.lw]; omega, by rw [len_i, F.lh]; omega⟩, ?_⟩)
  refine (show (-(2 ^ 62) ≤ ((nG row rooms : Nat) : Int) ∧ ((nG row rooms : Nat) : Int) < 2 ^ 62) ∧ (rangeD 0 ((nG row rooms : Nat) : Int).toNat).length ≤ 100 ∧ _ from ⟨⟨by omega, by omega⟩, by rw [range_len]; omega, ?_⟩)
  refine comp_each (fun k : Nat => PyData.int (0 + (k : Int))) (fun _ _ => True) (List.range _) [] (fun d hd P hp => ?_) (fun x hx => ?_)
  · exact take_of (by decide) (by decide) fun u u0 u1 => hp _ trivial
  have lx : x.length = nG row rooms := by
    have z := all2_len hx
    rw [List.length_range, Int.toNat_natCast] at z
    exact z.symm
  refine (show _ = 4 ∧ FI_Table [.dt (ln false row rooms), .dt (sqd false (ws.map oI)), .dt (iq false h0), .dt (.int ((many : Nat) : Int))] _ from ⟨rfl, ?_⟩)
  refine tableN_of F big fun T1 t1 => ?_
  refine (show _ = 4 ∧ _ = 4 ∧ F_Table [.dt (ln true row rooms), .dt (sqd true (ws.map oI)), .dt (iq true h0), .dt (.int ((many : Nat) : Int))] _ from ⟨rfl, rfl, ?_⟩)
  refine table_of F big fun T2 t2 => ?_
  rw [gRw_gd]
  show tabB (s23 s1 row rooms h0 ws many G T1 x s12 s13 s14 s15 s16 s17 s18) _
  refine tab_of F g t1 lx fun s12 s13 => ?_
  show tabB (s23 s1 row rooms h0 ws many G T2 x s12 s13 s14 s15 s16 s17 s18) _
  refine tab_of F g t2 lx fun s12 s13 => ?_
  exact q _ _ _ _ _ _
end
abbrev rtB : FS := (sSeq (sAsg (eCall F__law_line (aBox 0 (aCons (eC (.int 5)) (aCons (eBin gIx (eLst (dCons (eC (.int 4)) (dCons (eBin (gIc CPow fun i j => i ^ j.toNat) (eC (.int 10)) (eC (.int 9))) dNil))) (eCall F_take (aBox 0 (aCons (eC (.int 2)) aNil)))) aNil)))) (gN 2)) f__law_right_8)
theorem body_of {E : DEnds} {s1 s2 s3 s4 s5 s6 s7 s8 s9 s10 s11 s12 s13 s14 s15 s16 s17 s18 : Sl} (q : ∀ s2 s3 s4 s5 s6 s7 s8 s9 s10 s11 s12 s13 s14 s15 s16 s17 s18, E.nx [.box, s1, s2, s3, s4, s5, s6, s7, s8, s9, s10, s11, s12, s13, s14, s15, s16, s17, s18]) :
    rtB [.box, s1, s2, s3, s4, s5, s6, s7, s8, s9, s10, s11, s12, s13, s14, s15, s16, s17, s18] E := by
  refine (show CPow 10 9 ∧ _ from ⟨⟨by decide, by decide, by decide⟩, ?_⟩)
  refine ⟨⟨by decide, by decide⟩, fun r r0 r1 => ?_⟩
  have r1 : r < 2 := r1
  have line : ∀ high : Int, 1 ≤ high ∧ high ≤ 1000000000 → F__law_line [.box, .dt (.int ((5 : Nat) : Int)), .dt (.int high)] fun d => f__law_right_8 [.box, s1, .dt d, s3, s4, s5, s6, s7, s8, s9, s10, s11, s12, s13, s14, s15, s16, s17, s18] E := fun high hh => by
    refine lineB_of (most := 5) (by decide) (by decide) hh fun row rooms L => ?_
    have n0 := L.n0
    have nz := L.nz
    unfold f__law_right_8
    refine widthsB_of (by omega) n0 ⟨by decide, by decide⟩ fun ws lw D => ?_
    refine lotB_of (by omega) L.rm fun hs V => ?_
    have F : Fg8 row rooms hs ws := ⟨n0, by omega, V.len, lw⟩
    refine ⟨⟨by decide, by decide⟩, fun u u0 u1 => ?_⟩
    have u1 : u < 21 := u1
    obtain ⟨many, rfl⟩ : ∃ m : Nat, u = (m : Nat) := ⟨u.toNat, by omega⟩
    show f__law_right_7 [.box, s1, .dt (ln true row rooms), .dt (sqd true (ws.map oI)), .dt (iq true hs), .dt (.int ((many : Nat) : Int)), s6, s7, s8, s9, s10, s11, s12, s13, s14, s15, s16, s17, s18] E
    unfold f__law_right_7
    refine gatesB_of ?_
    show f__law_right_6 [.box, s1, .dt (ln true row rooms), .dt (sqd true (ws.map oI)), .dt (iq true hs), .dt (.int ((many : Nat) : Int)), .dt (.int ((nG row rooms : Nat) : Int)), s7, s8, s9, s10, s11, s12, s13, s14, s15, s16, s17, s18] E
    unfold f__law_right_6
    refine prices_of F (by omega) fun G g => ?_
    exact both_of F (by omega) g fun _ _ _ _ _ _ => q _ _ _ _ _ _ _ _ _ _ _ _ _ _ _ _ _
  rcases (show r = 0 ∨ r = 1 by omega) with rfl | rfl
  · exact line 4 ⟨by decide, by decide⟩
  · exact line 1000000000 ⟨by decide, by decide⟩
theorem right_of (Q : PyData → Prop) (q : Q (.bool true)) : F__law_right [.box] Q := by
  unfold F__law_right
  refine ⟨rfl, ?_⟩
  refine ⟨⟨by decide, by decide⟩, by rw [range_len]; decide, ?_⟩
  refine for_inv (fun ρ => ∃ s1 s2 s3 s4 s5 s6 s7 s8 s9 s10 s11 s12 s13 s14 s15 s16 s17 s18, ρ = [.box, s1, s2, s3, s4, s5, s6, s7, s8, s9, s10, s11, s12, s13, s14, s15, s16, s17, s18]) _ _ (fun ρ d N i hd k => ?_) ⟨_, _, _, _, _, _, _, _, _, _, _, _, _, _, _, _, _, _, rfl⟩ fun ρ i => ?_
  · obtain ⟨s1, s2, s3, s4, s5, s6, s7, s8, s9, s10, s11, s12, s13, s14, s15, s16, s17, s18, rfl⟩ := i
    exact body_of fun _ _ _ _ _ _ _ _ _ _ _ _ _ _ _ _ _ => k _ ⟨_, _, _, _, _, _, _, _, _, _, _, _, _, _, _, _, _, _, rfl⟩
  · obtain ⟨s1, s2, s3, s4, s5, s6, s7, s8, s9, s10, s11, s12, s13, s14, s15, s16, s17, s18, rfl⟩ := i
    show f__law_right_9 _ _
    unfold f__law_right_9
    exact q
theorem law_true (ns : List Int) : F_law [.scr ns] (fun d => d = .bool true) := by
  unfold F_law
  exact ⟨rfl, lawB (by decide) right_of rfl⟩
end Ke
namespace Ke
open PySem PySem.Spec PyProof.Rows L2 Xg Dv Kd
theorem all_mk {l : PySem.W.OpenLaw} {w : World} {K : PySem.W.Frag} {h : Heap} {mg : Str → Option Value} {fa : Addr} (X : K.In h) (G : h.Ns mainGlobals mg) (hfa : mg "law" = some (.ref fa))
    {t_RING_ t_ROW_ : Tok}
    {u_is_number : Addr} {od_is_number an_is_number : Option Addr} {sl_is_number : Array (Option Value)} {oc_is_number kV_is_number dc_is_number pm_is_number cd_is_number ct_is_number : Value}
    {u_gates : Addr} {od_gates an_gates : Option Addr} {sl_gates : Array (Option Value)} {oc_gates kV_gates dc_gates pm_gates cd_gates ct_gates : Value}
    {u_cost : Addr} {od_cost an_cost : Option Addr} {sl_cost : Array (Option Value)} {oc_cost kV_cost dc_cost pm_cost cd_cost ct_cost : Value}
    {u_is_gate : Addr} {od_is_gate an_is_gate : Option Addr} {sl_is_gate : Array (Option Value)} {oc_is_gate kV_is_gate dc_is_gate pm_is_gate cd_is_gate ct_is_gate : Value}
    {u_costs : Addr} {od_costs an_costs : Option Addr} {sl_costs : Array (Option Value)} {oc_costs kV_costs dc_costs pm_costs cd_costs ct_costs : Value}
    {u_gate_behind : Addr} {od_gate_behind an_gate_behind : Option Addr} {sl_gate_behind : Array (Option Value)} {oc_gate_behind kV_gate_behind dc_gate_behind pm_gate_behind cd_gate_behind ct_gate_behind : Value}
    {u_Table : Addr} {od_Table an_Table : Option Addr} {sl_Table : Array (Option Value)} {oc_Table kV_Table dc_Table pm_Table cd_Table ct_Table : Value}
    {u_Table_steps : Addr} {od_Table_steps an_Table_steps : Option Addr} {sl_Table_steps : Array (Option Value)} {oc_Table_steps kV_Table_steps dc_Table_steps pm_Table_steps cd_Table_steps ct_Table_steps : Value}
    {u_Table_price : Addr} {od_Table_price an_Table_price : Option Addr} {sl_Table_price : Array (Option Value)} {oc_Table_price kV_Table_price dc_Table_price pm_Table_price cd_Table_price ct_Table_price : Value}
    {u_Table_counts : Addr} {od_Table_counts an_Table_counts : Option Addr} {sl_Table_counts : Array (Option Value)} {oc_Table_counts kV_Table_counts dc_Table_counts pm_Table_counts cd_Table_counts ct_Table_counts : Value}
    {u_Table_led : Addr} {od_Table_led an_Table_led : Option Addr} {sl_Table_led : Array (Option Value)} {oc_Table_led kV_Table_led dc_Table_led pm_Table_led cd_Table_led ct_Table_led : Value}
    {u_Table_led_back : Addr} {od_Table_led_back an_Table_led_back : Option Addr} {sl_Table_led_back : Array (Option Value)} {oc_Table_led_back kV_Table_led_back dc_Table_led_back pm_Table_led_back cd_Table_led_back ct_Table_led_back : Value}
    {u_grid_of : Addr} {od_grid_of an_grid_of : Option Addr} {sl_grid_of : Array (Option Value)} {oc_grid_of kV_grid_of dc_grid_of pm_grid_of cd_grid_of ct_grid_of : Value}
    {u_grid_of_none : Addr} {od_grid_of_none an_grid_of_none : Option Addr} {sl_grid_of_none : Array (Option Value)} {oc_grid_of_none kV_grid_of_none dc_grid_of_none pm_grid_of_none cd_grid_of_none ct_grid_of_none : Value}
    {u_grid_of_one : Addr} {od_grid_of_one an_grid_of_one : Option Addr} {sl_grid_of_one : Array (Option Value)} {oc_grid_of_one kV_grid_of_one dc_grid_of_one pm_grid_of_one cd_grid_of_one ct_grid_of_one : Value}
    {u_doubled_grids : Addr} {od_doubled_grids an_doubled_grids : Option Addr} {sl_doubled_grids : Array (Option Value)} {oc_doubled_grids kV_doubled_grids dc_doubled_grids pm_doubled_grids cd_doubled_grids ct_doubled_grids : Value}
    {u_grids_in : Addr} {od_grids_in an_grids_in : Option Addr} {sl_grids_in : Array (Option Value)} {oc_grids_in kV_grids_in dc_grids_in pm_grids_in cd_grids_in ct_grids_in : Value}
    {u_chained : Addr} {od_chained an_chained : Option Addr} {sl_chained : Array (Option Value)} {oc_chained kV_chained dc_chained pm_chained cd_chained ct_chained : Value}
    {u_columns_of : Addr} {od_columns_of an_columns_of : Option Addr} {sl_columns_of : Array (Option Value)} {oc_columns_of kV_columns_of dc_columns_of pm_columns_of cd_columns_of ct_columns_of : Value}
    {u_least_sum : Addr} {od_least_sum an_least_sum : Option Addr} {sl_least_sum : Array (Option Value)} {oc_least_sum kV_least_sum dc_least_sum pm_least_sum cd_least_sum ct_least_sum : Value}
    {u_led_by : Addr} {od_led_by an_led_by : Option Addr} {sl_led_by : Array (Option Value)} {oc_led_by kV_led_by dc_led_by pm_led_by cd_led_by ct_led_by : Value}
    {u_led_back_by : Addr} {od_led_back_by an_led_back_by : Option Addr} {sl_led_back_by : Array (Option Value)} {oc_led_back_by kV_led_back_by dc_led_back_by pm_led_back_by cd_led_back_by ct_led_back_by : Value}
    {u__law_box : Addr} {od__law_box an__law_box : Option Addr} {sl__law_box : Array (Option Value)} {oc__law_box kV__law_box dc__law_box pm__law_box cd__law_box ct__law_box : Value}
    {u__law_take : Addr} {od__law_take an__law_take : Option Addr} {sl__law_take : Array (Option Value)} {oc__law_take kV__law_take dc__law_take pm__law_take cd__law_take ct__law_take : Value}
    {u__law_pick : Addr} {od__law_pick an__law_pick : Option Addr} {sl__law_pick : Array (Option Value)} {oc__law_pick kV__law_pick dc__law_pick pm__law_pick cd__law_pick ct__law_pick : Value}
    {u__law_same : Addr} {od__law_same an__law_same : Option Addr} {sl__law_same : Array (Option Value)} {oc__law_same kV__law_same dc__law_same pm__law_same cd__law_same ct__law_same : Value}
    {u__law_line : Addr} {od__law_line an__law_line : Option Addr} {sl__law_line : Array (Option Value)} {oc__law_line kV__law_line dc__law_line pm__law_line cd__law_line ct__law_line : Value}
    {u__law_gates : Addr} {od__law_gates an__law_gates : Option Addr} {sl__law_gates : Array (Option Value)} {oc__law_gates kV__law_gates dc__law_gates pm__law_gates cd__law_gates ct__law_gates : Value}
    {u__law_widths : Addr} {od__law_widths an__law_widths : Option Addr} {sl__law_widths : Array (Option Value)} {oc__law_widths kV__law_widths dc__law_widths pm__law_widths cd__law_widths ct__law_widths : Value}
    {u__law_lot : Addr} {od__law_lot an__law_lot : Option Addr} {sl__law_lot : Array (Option Value)} {oc__law_lot kV__law_lot dc__law_lot pm__law_lot cd__law_lot ct__law_lot : Value}
    {u__law_step : Addr} {od__law_step an__law_step : Option Addr} {sl__law_step : Array (Option Value)} {oc__law_step kV__law_step dc__law_step pm__law_step cd__law_step ct__law_step : Value}
    {u__law_prices : Addr} {od__law_prices an__law_prices : Option Addr} {sl__law_prices : Array (Option Value)} {oc__law_prices kV__law_prices dc__law_prices pm__law_prices cd__law_prices ct__law_prices : Value}
    {u__law_least : Addr} {od__law_least an__law_least : Option Addr} {sl__law_least : Array (Option Value)} {oc__law_least kV__law_least dc__law_least pm__law_least cd__law_least ct__law_least : Value}
    {u__law_most : Addr} {od__law_most an__law_most : Option Addr} {sl__law_most : Array (Option Value)} {oc__law_most kV__law_most dc__law_most pm__law_most cd__law_most ct__law_most : Value}
    {u__law_right : Addr} {od__law_right an__law_right : Option Addr} {sl__law_right : Array (Option Value)} {oc__law_right kV__law_right dc__law_right pm__law_right cd__law_right ct__law_right : Value}
    {u_law : Addr} {od_law an_law : Option Addr} {sl_law : Array (Option Value)} {oc_law kV_law dc_law pm_law cd_law ct_law : Value}
    {C_T : Addr} (aC_T : PySem.W.nsIn K mainGlobals "Table" = some (some (.ref C_T))) (pg_T : PySem.W.plainGet K C_T Str.empty = true) (hd_T : PySem.W.hasDictIn K C_T = true) (po_T : PySem.W.plainOver K C_T = true) (sa_T : PySem.W.findIn K (.ref C_T) "__setattr__" = some (some (.builtin "object.__setattr__"))) (mk_T : PySem.W.makesIn K C_T = true) (kc_T : PySem.W.keepIn K (.ref C_T) = true) (n1_T : PySem.W.findIn K (.ref C_T) "made_of" = some none) (n2_T : PySem.W.findIn K (.ref C_T) "many" = some none) (n3_T : PySem.W.findIn K (.ref C_T) "grid" = some none)
    (a_is_number : PySem.W.nsIn K mainGlobals "is_number" = some (some (.ref u_is_number))) (l_is_number : K.lookup u_is_number = some ⟨oc_is_number, od_is_number, .func (PySem.W.fnOf "is_number" "is_number" (defArgs (topS 1)) (defBody (topS 1)) (defScope (topS 1)) .none kV_is_number dc_is_number pm_is_number an_is_number cd_is_number ct_is_number), sl_is_number⟩) (e_is_number : PySem.W.codeIn K cd_is_number "is_number" = true) (k_is_number : PySem.W.keepIn K (.ref u_is_number) = true)
    (a_gates : PySem.W.nsIn K mainGlobals "gates" = some (some (.ref u_gates))) (l_gates : K.lookup u_gates = some ⟨oc_gates, od_gates, .func (PySem.W.fnOf "gates" "gates" (defArgs (topS 5)) (defBody (topS 5)) (defScope (topS 5)) .none kV_gates dc_gates pm_gates an_gates cd_gates ct_gates), sl_gates⟩) (e_gates : PySem.W.codeIn K cd_gates "gates" = true) (k_gates : PySem.W.keepIn K (.ref u_gates) = true)
    (a_cost : PySem.W.nsIn K mainGlobals "cost" = some (some (.ref u_cost))) (l_cost : K.lookup u_cost = some ⟨oc_cost, od_cost, .func (PySem.W.fnOf "cost" "cost" (defArgs (topS 9)) (defBody (topS 9)) (defScope (topS 9)) .none kV_cost dc_cost pm_cost an_cost cd_cost ct_cost), sl_cost⟩) (e_cost : PySem.W.codeIn K cd_cost "cost" = true) (k_cost : PySem.W.keepIn K (.ref u_cost) = true)
    (a_is_gate : PySem.W.nsIn K mainGlobals "is_gate" = some (some (.ref u_is_gate))) (l_is_gate : K.lookup u_is_gate = some ⟨oc_is_gate, od_is_gate, .func (PySem.W.fnOf "is_gate" "is_gate" (defArgs (topS 10)) (defBody (topS 10)) (defScope (topS 10)) .none kV_is_gate dc_is_gate pm_is_gate an_is_gate cd_is_gate ct_is_gate), sl_is_gate⟩) (e_is_gate : PySem.W.codeIn K cd_is_gate "is_gate" = true) (k_is_gate : PySem.W.keepIn K (.ref u_is_gate) = true)
    (a_costs : PySem.W.nsIn K mainGlobals "costs" = some (some (.ref u_costs))) (l_costs : K.lookup u_costs = some ⟨oc_costs, od_costs, .func (PySem.W.fnOf "costs" "costs" (defArgs (topS 11)) (defBody (topS 11)) (defScope (topS 11)) .none kV_costs dc_costs pm_costs an_costs cd_costs ct_costs), sl_costs⟩) (e_costs : PySem.W.codeIn K cd_costs "costs" = true) (k_costs : PySem.W.keepIn K (.ref u_costs) = true)
    (a_gate_behind : PySem.W.nsIn K mainGlobals "gate_behind" = some (some (.ref u_gate_behind))) (l_gate_behind : K.lookup u_gate_behind = some ⟨oc_gate_behind, od_gate_behind, .func (PySem.W.fnOf "gate_behind" "gate_behind" (defArgs (topS 12)) (defBody (topS 12)) (defScope (topS 12)) .none kV_gate_behind dc_gate_behind pm_gate_behind an_gate_behind cd_gate_behind ct_gate_behind), sl_gate_behind⟩) (e_gate_behind : PySem.W.codeIn K cd_gate_behind "gate_behind" = true) (k_gate_behind : PySem.W.keepIn K (.ref u_gate_behind) = true)
    (a_Table : PySem.W.findIn K (.ref C_T) "__init__" = some (some (.ref u_Table))) (i_Table : PySem.W.isFn K (.ref u_Table) = true) (l_Table : K.lookup u_Table = some ⟨oc_Table, od_Table, .func (PySem.W.fnOf "__init__" "Table.__init__" (defArgs (inClass (topS 14) 0)) (defBody (inClass (topS 14) 0)) (defScope (inClass (topS 14) 0)) .none kV_Table dc_Table pm_Table an_Table cd_Table ct_Table), sl_Table⟩) (e_Table : PySem.W.codeIn K cd_Table "Table.__init__" = true) (k_Table : PySem.W.keepIn K (.ref u_Table) = true)
    (a_Table_steps : PySem.W.findIn K (.ref C_T) "steps" = some (some (.ref u_Table_steps))) (i_Table_steps : PySem.W.isFn K (.ref u_Table_steps) = true) (l_Table_steps : K.lookup u_Table_steps = some ⟨oc_Table_steps, od_Table_steps, .func (PySem.W.fnOf "steps" "Table.steps" (defArgs (inClass (topS 14) 1)) (defBody (inClass (topS 14) 1)) (defScope (inClass (topS 14) 1)) .none kV_Table_steps dc_Table_steps pm_Table_steps an_Table_steps cd_Table_steps ct_Table_steps), sl_Table_steps⟩) (e_Table_steps : PySem.W.codeIn K cd_Table_steps "Table.steps" = true) (k_Table_steps : PySem.W.keepIn K (.ref u_Table_steps) = true)
    (a_Table_price : PySem.W.findIn K (.ref C_T) "price" = some (some (.ref u_Table_price))) (i_Table_price : PySem.W.isFn K (.ref u_Table_price) = true) (l_Table_price : K.lookup u_Table_price = some ⟨oc_Table_price, od_Table_price, .func (PySem.W.fnOf "price" "Table.price" (defArgs (inClass (topS 14) 2)) (defBody (inClass (topS 14) 2)) (defScope (inClass (topS 14) 2)) .none kV_Table_price dc_Table_price pm_Table_price an_Table_price cd_Table_price ct_Table_price), sl_Table_price⟩) (e_Table_price : PySem.W.codeIn K cd_Table_price "Table.price" = true) (k_Table_price : PySem.W.keepIn K (.ref u_Table_price) = true)
    (a_Table_counts : PySem.W.findIn K (.ref C_T) "counts" = some (some (.ref u_Table_counts))) (i_Table_counts : PySem.W.isFn K (.ref u_Table_counts) = true) (l_Table_counts : K.lookup u_Table_counts = some ⟨oc_Table_counts, od_Table_counts, .func (PySem.W.fnOf "counts" "Table.counts" (defArgs (inClass (topS 14) 3)) (defBody (inClass (topS 14) 3)) (defScope (inClass (topS 14) 3)) .none kV_Table_counts dc_Table_counts pm_Table_counts an_Table_counts cd_Table_counts ct_Table_counts), sl_Table_counts⟩) (e_Table_counts : PySem.W.codeIn K cd_Table_counts "Table.counts" = true) (k_Table_counts : PySem.W.keepIn K (.ref u_Table_counts) = true)
    (a_Table_led : PySem.W.findIn K (.ref C_T) "led" = some (some (.ref u_Table_led))) (i_Table_led : PySem.W.isFn K (.ref u_Table_led) = true) (l_Table_led : K.lookup u_Table_led = some ⟨oc_Table_led, od_Table_led, .func (PySem.W.fnOf "led" "Table.led" (defArgs (inClass (topS 14) 5)) (defBody (inClass (topS 14) 5)) (defScope (inClass (topS 14) 5)) .none kV_Table_led dc_Table_led pm_Table_led an_Table_led cd_Table_led ct_Table_led), sl_Table_led⟩) (e_Table_led : PySem.W.codeIn K cd_Table_led "Table.led" = true) (k_Table_led : PySem.W.keepIn K (.ref u_Table_led) = true)
    (a_Table_led_back : PySem.W.findIn K (.ref C_T) "led_back" = some (some (.ref u_Table_led_back))) (i_Table_led_back : PySem.W.isFn K (.ref u_Table_led_back) = true) (l_Table_led_back : K.lookup u_Table_led_back = some ⟨oc_Table_led_back, od_Table_led_back, .func (PySem.W.fnOf "led_back" "Table.led_back" (defArgs (inClass (topS 14) 6)) (defBody (inClass (topS 14) 6)) (defScope (inClass (topS 14) 6)) .none kV_Table_led_back dc_Table_led_back pm_Table_led_back an_Table_led_back cd_Table_led_back ct_Table_led_back), sl_Table_led_back⟩) (e_Table_led_back : PySem.W.codeIn K cd_Table_led_back "Table.led_back" = true) (k_Table_led_back : PySem.W.keepIn K (.ref u_Table_led_back) = true)
    (a_grid_of : PySem.W.nsIn K mainGlobals "grid_of" = some (some (.ref u_grid_of))) (l_grid_of : K.lookup u_grid_of = some ⟨oc_grid_of, od_grid_of, .func (PySem.W.fnOf "grid_of" "grid_of" (defArgs (topS 15)) (defBody (topS 15)) (defScope (topS 15)) .none kV_grid_of dc_grid_of pm_grid_of an_grid_of cd_grid_of ct_grid_of), sl_grid_of⟩) (e_grid_of : PySem.W.codeIn K cd_grid_of "grid_of" = true) (k_grid_of : PySem.W.keepIn K (.ref u_grid_of) = true)
    (a_grid_of_none : PySem.W.nsIn K mainGlobals "grid_of_none" = some (some (.ref u_grid_of_none))) (l_grid_of_none : K.lookup u_grid_of_none = some ⟨oc_grid_of_none, od_grid_of_none, .func (PySem.W.fnOf "grid_of_none" "grid_of_none" (defArgs (topS 16)) (defBody (topS 16)) (defScope (topS 16)) .none kV_grid_of_none dc_grid_of_none pm_grid_of_none an_grid_of_none cd_grid_of_none ct_grid_of_none), sl_grid_of_none⟩) (e_grid_of_none : PySem.W.codeIn K cd_grid_of_none "grid_of_none" = true) (k_grid_of_none : PySem.W.keepIn K (.ref u_grid_of_none) = true)
    (a_grid_of_one : PySem.W.nsIn K mainGlobals "grid_of_one" = some (some (.ref u_grid_of_one))) (l_grid_of_one : K.lookup u_grid_of_one = some ⟨oc_grid_of_one, od_grid_of_one, .func (PySem.W.fnOf "grid_of_one" "grid_of_one" (defArgs (topS 17)) (defBody (topS 17)) (defScope (topS 17)) .none kV_grid_of_one dc_grid_of_one pm_grid_of_one an_grid_of_one cd_grid_of_one ct_grid_of_one), sl_grid_of_one⟩) (e_grid_of_one : PySem.W.codeIn K cd_grid_of_one "grid_of_one" = true) (k_grid_of_one : PySem.W.keepIn K (.ref u_grid_of_one) = true)
    (a_doubled_grids : PySem.W.nsIn K mainGlobals "doubled_grids" = some (some (.ref u_doubled_grids))) (l_doubled_grids : K.lookup u_doubled_grids = some ⟨oc_doubled_grids, od_doubled_grids, .func (PySem.W.fnOf "doubled_grids" "doubled_grids" (defArgs (topS 18)) (defBody (topS 18)) (defScope (topS 18)) .none kV_doubled_grids dc_doubled_grids pm_doubled_grids an_doubled_grids cd_doubled_grids ct_doubled_grids), sl_doubled_grids⟩) (e_doubled_grids : PySem.W.codeIn K cd_doubled_grids "doubled_grids" = true) (k_doubled_grids : PySem.W.keepIn K (.ref u_doubled_grids) = true)
    (a_grids_in : PySem.W.nsIn K mainGlobals "grids_in" = some (some (.ref u_grids_in))) (l_grids_in : K.lookup u_grids_in = some ⟨oc_grids_in, od_grids_in, .func (PySem.W.fnOf "grids_in" "grids_in" (defArgs (topS 19)) (defBody (topS 19)) (defScope (topS 19)) .none kV_grids_in dc_grids_in pm_grids_in an_grids_in cd_grids_in ct_grids_in), sl_grids_in⟩) (e_grids_in : PySem.W.codeIn K cd_grids_in "grids_in" = true) (k_grids_in : PySem.W.keepIn K (.ref u_grids_in) = true)
    (a_chained : PySem.W.nsIn K mainGlobals "chained" = some (some (.ref u_chained))) (l_chained : K.lookup u_chained = some ⟨oc_chained, od_chained, .func (PySem.W.fnOf "chained" "chained" (defArgs (topS 20)) (defBody (topS 20)) (defScope (topS 20)) .none kV_chained dc_chained pm_chained an_chained cd_chained ct_chained), sl_chained⟩) (e_chained : PySem.W.codeIn K cd_chained "chained" = true) (k_chained : PySem.W.keepIn K (.ref u_chained) = true)
    (a_columns_of : PySem.W.nsIn K mainGlobals "columns_of" = some (some (.ref u_columns_of))) (l_columns_of : K.lookup u_columns_of = some ⟨oc_columns_of, od_columns_of, .func (PySem.W.fnOf "columns_of" "columns_of" (defArgs (topS 21)) (defBody (topS 21)) (defScope (topS 21)) .none kV_columns_of dc_columns_of pm_columns_of an_columns_of cd_columns_of ct_columns_of), sl_columns_of⟩) (e_columns_of : PySem.W.codeIn K cd_columns_of "columns_of" = true) (k_columns_of : PySem.W.keepIn K (.ref u_columns_of) = true)
    (a_least_sum : PySem.W.nsIn K mainGlobals "least_sum" = some (some (.ref u_least_sum))) (l_least_sum : K.lookup u_least_sum = some ⟨oc_least_sum, od_least_sum, .func (PySem.W.fnOf "least_sum" "least_sum" (defArgs (topS 22)) (defBody (topS 22)) (defScope (topS 22)) .none kV_least_sum dc_least_sum pm_least_sum an_least_sum cd_least_sum ct_least_sum), sl_least_sum⟩) (e_least_sum : PySem.W.codeIn K cd_least_sum "least_sum" = true) (k_least_sum : PySem.W.keepIn K (.ref u_least_sum) = true)
    (a_led_by : PySem.W.nsIn K mainGlobals "led_by" = some (some (.ref u_led_by))) (l_led_by : K.lookup u_led_by = some ⟨oc_led_by, od_led_by, .func (PySem.W.fnOf "led_by" "led_by" (defArgs (topS 23)) (defBody (topS 23)) (defScope (topS 23)) .none kV_led_by dc_led_by pm_led_by an_led_by cd_led_by ct_led_by), sl_led_by⟩) (e_led_by : PySem.W.codeIn K cd_led_by "led_by" = true) (k_led_by : PySem.W.keepIn K (.ref u_led_by) = true)
    (a_led_back_by : PySem.W.nsIn K mainGlobals "led_back_by" = some (some (.ref u_led_back_by))) (l_led_back_by : K.lookup u_led_back_by = some ⟨oc_led_back_by, od_led_back_by, .func (PySem.W.fnOf "led_back_by" "led_back_by" (defArgs (topS 24)) (defBody (topS 24)) (defScope (topS 24)) .none kV_led_back_by dc_led_back_by pm_led_back_by an_led_back_by cd_led_back_by ct_led_back_by), sl_led_back_by⟩) (e_led_back_by : PySem.W.codeIn K cd_led_back_by "led_back_by" = true) (k_led_back_by : PySem.W.keepIn K (.ref u_led_back_by) = true)
    (a__law_box : PySem.W.nsIn K mainGlobals "_law_box" = some (some (.ref u__law_box))) (l__law_box : K.lookup u__law_box = some ⟨oc__law_box, od__law_box, .func (PySem.W.fnOf "_law_box" "_law_box" (defArgs (topS 26)) (defBody (topS 26)) (defScope (topS 26)) .none kV__law_box dc__law_box pm__law_box an__law_box cd__law_box ct__law_box), sl__law_box⟩) (e__law_box : PySem.W.codeIn K cd__law_box "_law_box" = true) (k__law_box : PySem.W.keepIn K (.ref u__law_box) = true)
    (a__law_take : PySem.W.nsIn K mainGlobals "_law_take" = some (some (.ref u__law_take))) (l__law_take : K.lookup u__law_take = some ⟨oc__law_take, od__law_take, .func (PySem.W.fnOf "_law_take" "_law_take" (defArgs (topS 27)) (defBody (topS 27)) (defScope (topS 27)) .none kV__law_take dc__law_take pm__law_take an__law_take cd__law_take ct__law_take), sl__law_take⟩) (e__law_take : PySem.W.codeIn K cd__law_take "_law_take" = true) (k__law_take : PySem.W.keepIn K (.ref u__law_take) = true)
    (a__law_pick : PySem.W.nsIn K mainGlobals "_law_pick" = some (some (.ref u__law_pick))) (l__law_pick : K.lookup u__law_pick = some ⟨oc__law_pick, od__law_pick, .func (PySem.W.fnOf "_law_pick" "_law_pick" (defArgs (topS 28)) (defBody (topS 28)) (defScope (topS 28)) .none kV__law_pick dc__law_pick pm__law_pick an__law_pick cd__law_pick ct__law_pick), sl__law_pick⟩) (e__law_pick : PySem.W.codeIn K cd__law_pick "_law_pick" = true) (k__law_pick : PySem.W.keepIn K (.ref u__law_pick) = true)
    (a__law_same : PySem.W.nsIn K mainGlobals "_law_same" = some (some (.ref u__law_same))) (l__law_same : K.lookup u__law_same = some ⟨oc__law_same, od__law_same, .func (PySem.W.fnOf "_law_same" "_law_same" (defArgs (topS 29)) (defBody (topS 29)) (defScope (topS 29)) .none kV__law_same dc__law_same pm__law_same an__law_same cd__law_same ct__law_same), sl__law_same⟩) (e__law_same : PySem.W.codeIn K cd__law_same "_law_same" = true) (k__law_same : PySem.W.keepIn K (.ref u__law_same) = true)
    (a__law_line : PySem.W.nsIn K mainGlobals "_law_line" = some (some (.ref u__law_line))) (l__law_line : K.lookup u__law_line = some ⟨oc__law_line, od__law_line, .func (PySem.W.fnOf "_law_line" "_law_line" (defArgs (topS 30)) (defBody (topS 30)) (defScope (topS 30)) .none kV__law_line dc__law_line pm__law_line an__law_line cd__law_line ct__law_line), sl__law_line⟩) (e__law_line : PySem.W.codeIn K cd__law_line "_law_line" = true) (k__law_line : PySem.W.keepIn K (.ref u__law_line) = true)
    (a__law_gates : PySem.W.nsIn K mainGlobals "_law_gates" = some (some (.ref u__law_gates))) (l__law_gates : K.lookup u__law_gates = some ⟨oc__law_gates, od__law_gates, .func (PySem.W.fnOf "_law_gates" "_law_gates" (defArgs (topS 31)) (defBody (topS 31)) (defScope (topS 31)) .none kV__law_gates dc__law_gates pm__law_gates an__law_gates cd__law_gates ct__law_gates), sl__law_gates⟩) (e__law_gates : PySem.W.codeIn K cd__law_gates "_law_gates" = true) (k__law_gates : PySem.W.keepIn K (.ref u__law_gates) = true)
    (a__law_widths : PySem.W.nsIn K mainGlobals "_law_widths" = some (some (.ref u__law_widths))) (l__law_widths : K.lookup u__law_widths = some ⟨oc__law_widths, od__law_widths, .func (PySem.W.fnOf "_law_widths" "_law_widths" (defArgs (topS 32)) (defBody (topS 32)) (defScope (topS 32)) .none kV__law_widths dc__law_widths pm__law_widths an__law_widths cd__law_widths ct__law_widths), sl__law_widths⟩) (e__law_widths : PySem.W.codeIn K cd__law_widths "_law_widths" = true) (k__law_widths : PySem.W.keepIn K (.ref u__law_widths) = true)
    (a__law_lot : PySem.W.nsIn K mainGlobals "_law_lot" = some (some (.ref u__law_lot))) (l__law_lot : K.lookup u__law_lot = some ⟨oc__law_lot, od__law_lot, .func (PySem.W.fnOf "_law_lot" "_law_lot" (defArgs (topS 33)) (defBody (topS 33)) (defScope (topS 33)) .none kV__law_lot dc__law_lot pm__law_lot an__law_lot cd__law_lot ct__law_lot), sl__law_lot⟩) (e__law_lot : PySem.W.codeIn K cd__law_lot "_law_lot" = true) (k__law_lot : PySem.W.keepIn K (.ref u__law_lot) = true)
    (a__law_step : PySem.W.nsIn K mainGlobals "_law_step" = some (some (.ref u__law_step))) (l__law_step : K.lookup u__law_step = some ⟨oc__law_step, od__law_step, .func (PySem.W.fnOf "_law_step" "_law_step" (defArgs (topS 34)) (defBody (topS 34)) (defScope (topS 34)) .none kV__law_step dc__law_step pm__law_step an__law_step cd__law_step ct__law_step), sl__law_step⟩) (e__law_step : PySem.W.codeIn K cd__law_step "_law_step" = true) (k__law_step : PySem.W.keepIn K (.ref u__law_step) = true)
    (a__law_prices : PySem.W.nsIn K mainGlobals "_law_prices" = some (some (.ref u__law_prices))) (l__law_prices : K.lookup u__law_prices = some ⟨oc__law_prices, od__law_prices, .func (PySem.W.fnOf "_law_prices" "_law_prices" (defArgs (topS 35)) (defBody (topS 35)) (defScope (topS 35)) .none kV__law_prices dc__law_prices pm__law_prices an__law_prices cd__law_prices ct__law_prices), sl__law_prices⟩) (e__law_prices : PySem.W.codeIn K cd__law_prices "_law_prices" = true) (k__law_prices : PySem.W.keepIn K (.ref u__law_prices) = true)
    (a__law_least : PySem.W.nsIn K mainGlobals "_law_least" = some (some (.ref u__law_least))) (l__law_least : K.lookup u__law_least = some ⟨oc__law_least, od__law_least, .func (PySem.W.fnOf "_law_least" "_law_least" (defArgs (topS 36)) (defBody (topS 36)) (defScope (topS 36)) .none kV__law_least dc__law_least pm__law_least an__law_least cd__law_least ct__law_least), sl__law_least⟩) (e__law_least : PySem.W.codeIn K cd__law_least "_law_least" = true) (k__law_least : PySem.W.keepIn K (.ref u__law_least) = true)
    (a__law_most : PySem.W.nsIn K mainGlobals "_law_most" = some (some (.ref u__law_most))) (l__law_most : K.lookup u__law_most = some ⟨oc__law_most, od__law_most, .func (PySem.W.fnOf "_law_most" "_law_most" (defArgs (topS 37)) (defBody (topS 37)) (defScope (topS 37)) .none kV__law_most dc__law_most pm__law_most an__law_most cd__law_most ct__law_most), sl__law_most⟩) (e__law_most : PySem.W.codeIn K cd__law_most "_law_most" = true) (k__law_most : PySem.W.keepIn K (.ref u__law_most) = true)
    (a__law_right : PySem.W.nsIn K mainGlobals "_law_right" = some (some (.ref u__law_right))) (l__law_right : K.lookup u__law_right = some ⟨oc__law_right, od__law_right, .func (PySem.W.fnOf "_law_right" "_law_right" (defArgs (topS 38)) (defBody (topS 38)) (defScope (topS 38)) .none kV__law_right dc__law_right pm__law_right an__law_right cd__law_right ct__law_right), sl__law_right⟩) (e__law_right : PySem.W.codeIn K cd__law_right "_law_right" = true) (k__law_right : PySem.W.keepIn K (.ref u__law_right) = true)
    (a_law : PySem.W.nsIn K mainGlobals "law" = some (some (.ref u_law))) (l_law : K.lookup u_law = some ⟨oc_law, od_law, .func (PySem.W.fnOf "law" "law" (defArgs (topS 39)) (defBody (topS 39)) (defScope (topS 39)) .none kV_law dc_law pm_law an_law cd_law ct_law), sl_law⟩) (e_law : PySem.W.codeIn K cd_law "law" = true) (k_law : PySem.W.keepIn K (.ref u_law) = true)
    (ab_when : PySem.W.nsIn K mainGlobals "when" = some none)
    (ab_rests_when : PySem.W.nsIn K mainGlobals "rests_when" = some none)
    (ab_slowest : PySem.W.nsIn K mainGlobals "slowest" = some none)
    (y_RING : PySem.W.nsIn K mainGlobals "RING" = some (some (.str "ring" t_RING_)))
    (y_ROW : PySem.W.nsIn K mainGlobals "ROW" = some (some (.str "row" t_ROW_)))
    (z_abs : PySem.W.nsIn K mainGlobals "abs" = some none)
    (z_all : PySem.W.nsIn K mainGlobals "all" = some none)
    (z_bool : PySem.W.nsIn K mainGlobals "bool" = some none)
    (z_enumerate : PySem.W.nsIn K mainGlobals "enumerate" = some none)
    (z_int : PySem.W.nsIn K mainGlobals "int" = some none)
    (z_isinstance : PySem.W.nsIn K mainGlobals "isinstance" = some none)
    (z_len : PySem.W.nsIn K mainGlobals "len" = some none)
    (z_list : PySem.W.nsIn K mainGlobals "list" = some none)
    (z_max : PySem.W.nsIn K mainGlobals "max" = some none)
    (z_min : PySem.W.nsIn K mainGlobals "min" = some none)
    (z_range : PySem.W.nsIn K mainGlobals "range" = some none)
    (z_str : PySem.W.nsIn K mainGlobals "str" = some none)
    (z_tuple : PySem.W.nsIn K mainGlobals "tuple" = some none)
    (z_zip : PySem.W.nsIn K mainGlobals "zip" = some none)
    : (∀ p ∈ tabsOf K, h.get? p.2 = some { cls := .none, data := .fields #[] } ∧ K.lookup p.2 = none ∧ PySem.W.CodeHd h p.1 p.2) ∧ ∃ fd : FuncData, (∀ (s : Shared) (v : Value), BindsTo s fd ⟨[v], []⟩ [("_law_script", v)]) ∧ ∀ base : Heap, K.In base → base.Ns mainGlobals mg → (∀ p ∈ tabsOf K, LamX.TabB base mg p.1 p.2) → FnG l.prog w K mg base 10 fa fd ["_law_script"] (spD K 182400 F_law) := by
  have e := hfa.symm.trans (PySem.W.mg_of X G a_law)
  cases e
  have U_is_number := fun_mk (st := topS 1) l_is_number e_is_number k_is_number
  have b_is_number := U_is_number.binds (ps := ["thing"]) fun _ _ _ _ _ _ us hl => match us, hl with | [_], _ => rfl
  have g_is_number := PySem.W.mg_of X G a_is_number
  have U_gates := fun_mk (st := topS 5) l_gates e_gates k_gates
  have b_gates := U_gates.binds (ps := ["line"]) fun _ _ _ _ _ _ us hl => match us, hl with | [_], _ => rfl
  have g_gates := PySem.W.mg_of X G a_gates
  have U_cost := fun_mk (st := topS 9) l_cost e_cost k_cost
  have b_cost := U_cost.binds (ps := ["line", "widths", "standing", "gate", "other"]) fun _ _ _ _ _ _ us hl => match us, hl with | [_, _, _, _, _], _ => rfl
  have g_cost := PySem.W.mg_of X G a_cost
  have U_is_gate := fun_mk (st := topS 10) l_is_gate e_is_gate k_is_gate
  have b_is_gate := U_is_gate.binds (ps := ["line", "thing"]) fun _ _ _ _ _ _ us hl => match us, hl with | [_, _], _ => rfl
  have g_is_gate := PySem.W.mg_of X G a_is_gate
  have U_costs := fun_mk (st := topS 11) l_costs e_costs k_costs
  have b_costs := U_costs.binds (ps := ["line", "widths", "standing", "gate", "other"]) fun _ _ _ _ _ _ us hl => match us, hl with | [_, _, _, _, _], _ => rfl
  have g_costs := PySem.W.mg_of X G a_costs
  have U_gate_behind := fun_mk (st := topS 12) l_gate_behind e_gate_behind k_gate_behind
  have b_gate_behind := U_gate_behind.binds (ps := ["line", "gate"]) fun _ _ _ _ _ _ us hl => match us, hl with | [_, _], _ => rfl
  have g_gate_behind := PySem.W.mg_of X G a_gate_behind
  have U_Table := fun_mk (st := inClass (topS 14) 0) l_Table e_Table k_Table
  have b_Table := U_Table.binds (ps := ["self", "line", "widths", "standing", "many"]) fun _ _ _ _ _ _ us hl => match us, hl with | [_, _, _, _, _], _ => rfl
  have U_Table_steps := fun_mk (st := inClass (topS 14) 1) l_Table_steps e_Table_steps k_Table_steps
  have b_Table_steps := U_Table_steps.binds (ps := ["self"]) fun _ _ _ _ _ _ us hl => match us, hl with | [_], _ => rfl
  have U_Table_price := fun_mk (st := inClass (topS 14) 2) l_Table_price e_Table_price k_Table_price
  have b_Table_price := U_Table_price.binds (ps := ["self", "gate", "other"]) fun _ _ _ _ _ _ us hl => match us, hl with | [_, _, _], _ => rfl
  have U_Table_counts := fun_mk (st := inClass (topS 14) 3) l_Table_counts e_Table_counts k_Table_counts
  have b_Table_counts := U_Table_counts.binds (ps := ["self"]) fun _ _ _ _ _ _ us hl => match us, hl with | [_], _ => rfl
  have U_Table_led := fun_mk (st := inClass (topS 14) 5) l_Table_led e_Table_led k_Table_led
  have b_Table_led := U_Table_led.binds (ps := ["self", "counts"]) fun _ _ _ _ _ _ us hl => match us, hl with | [_, _], _ => rfl
  have U_Table_led_back := fun_mk (st := inClass (topS 14) 6) l_Table_led_back e_Table_led_back k_Table_led_back
  have b_Table_led_back := U_Table_led_back.binds (ps := ["self", "counts"]) fun _ _ _ _ _ _ us hl => match us, hl with | [_, _], _ => rfl
  have U_grid_of := fun_mk (st := topS 15) l_grid_of e_grid_of k_grid_of
  have b_grid_of := U_grid_of.binds (ps := ["line", "widths", "standing", "many"]) fun _ _ _ _ _ _ us hl => match us, hl with | [_, _, _, _], _ => rfl
  have g_grid_of := PySem.W.mg_of X G a_grid_of
  have U_grid_of_none := fun_mk (st := topS 16) l_grid_of_none e_grid_of_none k_grid_of_none
  have b_grid_of_none := U_grid_of_none.binds (ps := ["many"]) fun _ _ _ _ _ _ us hl => match us, hl with | [_], _ => rfl
  have g_grid_of_none := PySem.W.mg_of X G a_grid_of_none
  have U_grid_of_one := fun_mk (st := topS 17) l_grid_of_one e_grid_of_one k_grid_of_one
  have b_grid_of_one := U_grid_of_one.binds (ps := ["line", "widths", "standing"]) fun _ _ _ _ _ _ us hl => match us, hl with | [_, _, _], _ => rfl
  have g_grid_of_one := PySem.W.mg_of X G a_grid_of_one
  have U_doubled_grids := fun_mk (st := topS 18) l_doubled_grids e_doubled_grids k_doubled_grids
  have b_doubled_grids := U_doubled_grids.binds (ps := ["line", "widths", "standing", "many"]) fun _ _ _ _ _ _ us hl => match us, hl with | [_, _, _, _], _ => rfl
  have g_doubled_grids := PySem.W.mg_of X G a_doubled_grids
  have U_grids_in := fun_mk (st := topS 19) l_grids_in e_grids_in k_grids_in
  have b_grids_in := U_grids_in.binds (ps := ["grids", "many"]) fun _ _ _ _ _ _ us hl => match us, hl with | [_, _], _ => rfl
  have g_grids_in := PySem.W.mg_of X G a_grids_in
  have U_chained := fun_mk (st := topS 20) l_chained e_chained k_chained
  have b_chained := U_chained.binds (ps := ["grid", "other"]) fun _ _ _ _ _ _ us hl => match us, hl with | [_, _], _ => rfl
  have g_chained := PySem.W.mg_of X G a_chained
  have U_columns_of := fun_mk (st := topS 21) l_columns_of e_columns_of k_columns_of
  have b_columns_of := U_columns_of.binds (ps := ["grid"]) fun _ _ _ _ _ _ us hl => match us, hl with | [_], _ => rfl
  have g_columns_of := PySem.W.mg_of X G a_columns_of
  have U_least_sum := fun_mk (st := topS 22) l_least_sum e_least_sum k_least_sum
  have b_least_sum := U_least_sum.binds (ps := ["row", "column"]) fun _ _ _ _ _ _ us hl => match us, hl with | [_, _], _ => rfl
  have g_least_sum := PySem.W.mg_of X G a_least_sum
  have U_led_by := fun_mk (st := topS 23) l_led_by e_led_by k_led_by
  have b_led_by := U_led_by.binds (ps := ["grid", "numbers"]) fun _ _ _ _ _ _ us hl => match us, hl with | [_, _], _ => rfl
  have g_led_by := PySem.W.mg_of X G a_led_by
  have U_led_back_by := fun_mk (st := topS 24) l_led_back_by e_led_back_by k_led_back_by
  have b_led_back_by := U_led_back_by.binds (ps := ["grid", "numbers"]) fun _ _ _ _ _ _ us hl => match us, hl with | [_, _], _ => rfl
  have g_led_back_by := PySem.W.mg_of X G a_led_back_by
  have U__law_box := fun_mk (st := topS 26) l__law_box e__law_box k__law_box
  have b__law_box := U__law_box.binds (ps := ["_law_script", "_law_k"]) fun _ _ _ _ _ _ us hl => match us, hl with | [_, _], _ => rfl
  have g__law_box := PySem.W.mg_of X G a__law_box
  have U__law_take := fun_mk (st := topS 27) l__law_take e__law_take k__law_take
  have b__law_take := U__law_take.binds (ps := ["_law_box_here", "_law_below"]) fun _ _ _ _ _ _ us hl => match us, hl with | [_, _], _ => rfl
  have g__law_take := PySem.W.mg_of X G a__law_take
  have U__law_pick := fun_mk (st := topS 28) l__law_pick e__law_pick k__law_pick
  have b__law_pick := U__law_pick.binds (ps := ["_law_box_here", "_law_some"]) fun _ _ _ _ _ _ us hl => match us, hl with | [_, _], _ => rfl
  have g__law_pick := PySem.W.mg_of X G a__law_pick
  have U__law_same := fun_mk (st := topS 29) l__law_same e__law_same k__law_same
  have b__law_same := U__law_same.binds (ps := ["_law_found", "_law_due"]) fun _ _ _ _ _ _ us hl => match us, hl with | [_, _], _ => rfl
  have g__law_same := PySem.W.mg_of X G a__law_same
  have U__law_line := fun_mk (st := topS 30) l__law_line e__law_line k__law_line
  have b__law_line := U__law_line.binds (ps := ["_law_box_here", "_law_most_here", "_law_high"]) fun _ _ _ _ _ _ us hl => match us, hl with | [_, _, _], _ => rfl
  have g__law_line := PySem.W.mg_of X G a__law_line
  have U__law_gates := fun_mk (st := topS 31) l__law_gates e__law_gates k__law_gates
  have b__law_gates := U__law_gates.binds (ps := ["_law_plan"]) fun _ _ _ _ _ _ us hl => match us, hl with | [_], _ => rfl
  have g__law_gates := PySem.W.mg_of X G a__law_gates
  have U__law_widths := fun_mk (st := topS 32) l__law_widths e__law_widths k__law_widths
  have b__law_widths := U__law_widths.binds (ps := ["_law_box_here", "_law_plan", "_law_high"]) fun _ _ _ _ _ _ us hl => match us, hl with | [_, _, _], _ => rfl
  have g__law_widths := PySem.W.mg_of X G a__law_widths
  have U__law_lot := fun_mk (st := topS 33) l__law_lot e__law_lot k__law_lot
  have b__law_lot := U__law_lot.binds (ps := ["_law_box_here", "_law_plan"]) fun _ _ _ _ _ _ us hl => match us, hl with | [_, _], _ => rfl
  have g__law_lot := PySem.W.mg_of X G a__law_lot
  have U__law_step := fun_mk (st := topS 34) l__law_step e__law_step k__law_step
  have b__law_step := U__law_step.binds (ps := ["_law_plan", "_law_wides", "_law_lot_here", "_law_one", "_law_mate"]) fun _ _ _ _ _ _ us hl => match us, hl with | [_, _, _, _, _], _ => rfl
  have g__law_step := PySem.W.mg_of X G a__law_step
  have U__law_prices := fun_mk (st := topS 35) l__law_prices e__law_prices k__law_prices
  have b__law_prices := U__law_prices.binds (ps := ["_law_plan", "_law_wides", "_law_lot_here", "_law_often"]) fun _ _ _ _ _ _ us hl => match us, hl with | [_, _, _, _], _ => rfl
  have g__law_prices := PySem.W.mg_of X G a__law_prices
  have U__law_least := fun_mk (st := topS 36) l__law_least e__law_least k__law_least
  have b__law_least := U__law_least.binds (ps := ["_law_row", "_law_numbers"]) fun _ _ _ _ _ _ us hl => match us, hl with | [_, _], _ => rfl
  have g__law_least := PySem.W.mg_of X G a__law_least
  have U__law_most := fun_mk (st := topS 37) l__law_most e__law_most k__law_most
  have b__law_most := U__law_most.binds (ps := ["_law_column", "_law_numbers"]) fun _ _ _ _ _ _ us hl => match us, hl with | [_, _], _ => rfl
  have g__law_most := PySem.W.mg_of X G a__law_most
  have U__law_right := fun_mk (st := topS 38) l__law_right e__law_right k__law_right
  have b__law_right := U__law_right.binds (ps := ["_law_box_here"]) fun _ _ _ _ _ _ us hl => match us, hl with | [_], _ => rfl
  have g__law_right := PySem.W.mg_of X G a__law_right
  have U_law := fun_mk (st := topS 39) l_law e_law k_law
  have b_law := U_law.binds (ps := ["_law_script"]) fun _ _ _ _ _ _ us hl => match us, hl with | [_], _ => rfl
  have g_law := PySem.W.mg_of X G a_law
  have ti_when : PySem.W.tabIn K "when" = none := tabIn_none ab_when
  have ti_rests_when : PySem.W.tabIn K "rests_when" = none := tabIn_none ab_rests_when
  have ti_slowest : PySem.W.tabIn K "slowest" = none := tabIn_none ab_slowest
  have tabs_eq : tabsOf K = [] := by
    unfold tabsOf lamDefs
    simp only [List.filterMap_cons, List.filterMap_nil, ti_when, ti_rests_when, ti_slowest]
  have tof_eq : Tof K = [] := by
    unfold Tof lamDefs
    simp only [List.filterMap_cons, List.filterMap_nil, Option.map_some, Option.map_none, ti_when, ti_rests_when, ti_slowest]
  refine ⟨fun p hp => (by rw [tabs_eq] at hp; cases hp), ?_⟩
  refine ⟨PySem.W.fnOf "law" "law" (defArgs (topS 39)) (defBody (topS 39)) (defScope (topS 39)) .none kV_law dc_law pm_law an_law cd_law ct_law, fun s v => .of_eq rfl, fun base _ _ tb => ?_⟩
  have N : Nm mg := ⟨PySem.W.mg_none_of X G z_abs, PySem.W.mg_none_of X G z_all, PySem.W.mg_none_of X G z_bool, PySem.W.mg_none_of X G z_enumerate, PySem.W.mg_none_of X G z_int, PySem.W.mg_none_of X G z_isinstance, PySem.W.mg_none_of X G z_len, PySem.W.mg_none_of X G z_list, PySem.W.mg_none_of X G z_max, PySem.W.mg_none_of X G z_min, PySem.W.mg_none_of X G z_range, PySem.W.mg_none_of X G z_str, PySem.W.mg_none_of X G z_tuple, PySem.W.mg_none_of X G z_zip⟩
  have c_RING : ∃ u, mg "RING" = some u ∧ L2.RelV (.str "ring") u := ⟨_, PySem.W.mg_of X G y_RING, _, rfl⟩
  have c_ROW : ∃ u, mg "ROW" = some u ∧ L2.RelV (.str "row") u := ⟨_, PySem.W.mg_of X G y_ROW, _, rfl⟩
  have TF : TbF K C_T := ⟨aC_T, ⟨pg_T, hd_T, po_T, sa_T⟩, n1_T, n2_T, n3_T⟩
  have D_is_number : Df l.prog w K mg base "is_number" ["thing"] 1 (spD K 0 F_is_number) := ⟨_, _, ok_is_number U_is_number N, g_is_number, U_is_number.kp, b_is_number⟩
  have D_gates : Df l.prog w K mg base "gates" ["line"] 1 (spD K 0 F_gates) := ⟨_, _, ok_gates U_gates N c_ROW, g_gates, U_gates.kp, b_gates⟩
  have D_gate_behind : Df l.prog w K mg base "gate_behind" ["line", "gate"] 1 (spD K 0 F_gate_behind) := ⟨_, _, ok_gate_behind U_gate_behind N c_RING, g_gate_behind, U_gate_behind.kp, b_gate_behind⟩
  have D_costs : Df l.prog w K mg base "costs" ["line", "widths", "standing", "gate", "other"] 2 (spD K 0 F_costs) := ⟨_, _, ok_costs U_costs N D_gate_behind, g_costs, U_costs.kp, b_costs⟩
  have DL_costs : Df l.prog w K mg base "costs" ["line", "widths", "standing", "gate", "other"] 2 (spL K 0 L_costs) := ⟨_, _, okL_costs U_costs N D_gate_behind, g_costs, U_costs.kp, b_costs⟩
  have D_is_gate : Df l.prog w K mg base "is_gate" ["line", "thing"] 2 (spD K 0 F_is_gate) := ⟨_, _, ok_is_gate U_is_gate N D_gates D_is_number, g_is_gate, U_is_gate.kp, b_is_gate⟩
  have D_cost : Df l.prog w K mg base "cost" ["line", "widths", "standing", "gate", "other"] 3 (spD K 0 F_cost) := ⟨_, _, ok_cost U_cost N D_costs DL_costs D_is_gate, g_cost, U_cost.kp, b_cost⟩
  have D_grid_of_one : Df l.prog w K mg base "grid_of_one" ["line", "widths", "standing"] 4 (spD K 0 F_grid_of_one) := ⟨_, _, ok_grid_of_one U_grid_of_one N D_cost D_gates, g_grid_of_one, U_grid_of_one.kp, b_grid_of_one⟩
  have DL_grid_of_one : Df l.prog w K mg base "grid_of_one" ["line", "widths", "standing"] 4 (spL K 0 L_grid_of_one) := ⟨_, _, okL_grid_of_one U_grid_of_one N D_cost D_gates, g_grid_of_one, U_grid_of_one.kp, b_grid_of_one⟩
  have D_columns_of : Df l.prog w K mg base "columns_of" ["grid"] 1 (spD K 0 F_columns_of) := ⟨_, _, ok_columns_of U_columns_of N, g_columns_of, U_columns_of.kp, b_columns_of⟩
  have DL_columns_of : Df l.prog w K mg base "columns_of" ["grid"] 1 (spL K 0 L_columns_of) := ⟨_, _, okL_columns_of U_columns_of N, g_columns_of, U_columns_of.kp, b_columns_of⟩
  have D_least_sum : Df l.prog w K mg base "least_sum" ["row", "column"] 1 (spD K 0 F_least_sum) := ⟨_, _, ok_least_sum U_least_sum N, g_least_sum, U_least_sum.kp, b_least_sum⟩
  have D_chained : Df l.prog w K mg base "chained" ["grid", "other"] 2 (spD K 0 F_chained) := ⟨_, _, ok_chained U_chained N D_columns_of DL_columns_of D_least_sum, g_chained, U_chained.kp, b_chained⟩
  have DL_chained : Df l.prog w K mg base "chained" ["grid", "other"] 2 (spL K 0 L_chained) := ⟨_, _, okL_chained U_chained N D_columns_of DL_columns_of D_least_sum, g_chained, U_chained.kp, b_chained⟩
  have DN_chained : Df l.prog w K mg base "chained" ["grid", "other"] 2 (spN K 0 N_chained) := ⟨_, _, okN_chained U_chained N D_columns_of DL_columns_of D_least_sum, g_chained, U_chained.kp, b_chained⟩
  have D_doubled_grids : Df l.prog w K mg base "doubled_grids" ["line", "widths", "standing", "many"] 5 (spD K 0 F_doubled_grids) := ⟨_, _, ok_doubled_grids U_doubled_grids N D_chained DL_chained DN_chained D_grid_of_one DL_grid_of_one, g_doubled_grids, U_doubled_grids.kp, b_doubled_grids⟩
  have DL_doubled_grids : Df l.prog w K mg base "doubled_grids" ["line", "widths", "standing", "many"] 5 (spL K 0 L_doubled_grids) := ⟨_, _, okL_doubled_grids U_doubled_grids N D_chained DL_chained DN_chained D_grid_of_one DL_grid_of_one, g_doubled_grids, U_doubled_grids.kp, b_doubled_grids⟩
  have D_grid_of_none : Df l.prog w K mg base "grid_of_none" ["many"] 1 (spD K 0 F_grid_of_none) := ⟨_, _, ok_grid_of_none U_grid_of_none N, g_grid_of_none, U_grid_of_none.kp, b_grid_of_none⟩
  have DL_grid_of_none : Df l.prog w K mg base "grid_of_none" ["many"] 1 (spL K 0 L_grid_of_none) := ⟨_, _, okL_grid_of_none U_grid_of_none N, g_grid_of_none, U_grid_of_none.kp, b_grid_of_none⟩
  have DN_grid_of_none : Df l.prog w K mg base "grid_of_none" ["many"] 1 (spN K 0 N_grid_of_none) := ⟨_, _, okN_grid_of_none U_grid_of_none N, g_grid_of_none, U_grid_of_none.kp, b_grid_of_none⟩
  have D_grids_in : Df l.prog w K mg base "grids_in" ["grids", "many"] 1 (spD K 0 F_grids_in) := ⟨_, _, ok_grids_in U_grids_in N, g_grids_in, U_grids_in.kp, b_grids_in⟩
  have DL_grids_in : Df l.prog w K mg base "grids_in" ["grids", "many"] 1 (spL K 0 L_grids_in) := ⟨_, _, okL_grids_in U_grids_in N, g_grids_in, U_grids_in.kp, b_grids_in⟩
  have D_grid_of : Df l.prog w K mg base "grid_of" ["line", "widths", "standing", "many"] 6 (spD K 0 F_grid_of) := ⟨_, _, ok_grid_of U_grid_of N D_chained DL_chained DN_chained D_doubled_grids DL_doubled_grids D_gates D_grid_of_none DL_grid_of_none DN_grid_of_none D_grids_in DL_grids_in, g_grid_of, U_grid_of.kp, b_grid_of⟩
  have DN_grid_of : Df l.prog w K mg base "grid_of" ["line", "widths", "standing", "many"] 6 (spN K 0 N_grid_of) := ⟨_, _, okN_grid_of U_grid_of N D_chained DL_chained DN_chained D_doubled_grids DL_doubled_grids D_gates D_grid_of_none DL_grid_of_none DN_grid_of_none D_grids_in DL_grids_in, g_grid_of, U_grid_of.kp, b_grid_of⟩
  have D_led_by : Df l.prog w K mg base "led_by" ["grid", "numbers"] 2 (spD K 0 F_led_by) := ⟨_, _, ok_led_by U_led_by N D_least_sum, g_led_by, U_led_by.kp, b_led_by⟩
  have DL_led_by : Df l.prog w K mg base "led_by" ["grid", "numbers"] 2 (spL K 0 L_led_by) := ⟨_, _, okL_led_by U_led_by N D_least_sum, g_led_by, U_led_by.kp, b_led_by⟩
  have D_led_back_by : Df l.prog w K mg base "led_back_by" ["grid", "numbers"] 2 (spD K 0 F_led_back_by) := ⟨_, _, ok_led_back_by U_led_back_by N D_columns_of DL_columns_of D_least_sum, g_led_back_by, U_led_back_by.kp, b_led_back_by⟩
  have DL_led_back_by : Df l.prog w K mg base "led_back_by" ["grid", "numbers"] 2 (spL K 0 L_led_back_by) := ⟨_, _, okL_led_back_by U_led_back_by N D_columns_of DL_columns_of D_least_sum, g_led_back_by, U_led_back_by.kp, b_led_back_by⟩
  have D__law_box : Df l.prog w K mg base "_law_box" ["_law_script", "_law_k"] 1 (spBx K) := ⟨_, _, g_box U__law_box N.len N.abs N.int, g__law_box, U__law_box.kp, b__law_box⟩
  have D__law_take : Df l.prog w K mg base "_law_take" ["_law_box_here", "_law_below"] 1 (spD K 1 F_take) := ⟨_, _, g_take U__law_take, g__law_take, U__law_take.kp, b__law_take⟩
  have D__law_pick : Df l.prog w K mg base "_law_pick" ["_law_box_here", "_law_some"] 2 (spD K 1 F__law_pick) := ⟨_, _, ok__law_pick U__law_pick N D__law_take, g__law_pick, U__law_pick.kp, b__law_pick⟩
  have D__law_same : Df l.prog w K mg base "_law_same" ["_law_found", "_law_due"] 6 (spD K 0 F_same) := ⟨_, _, g_same U__law_same b__law_same g__law_same ⟨N.isinstance, N.list, N.tuple, N.len, N.all, N.zip, N.str, N.int, N.bool⟩, g__law_same, U__law_same.kp, b__law_same⟩
  have D__law_line : Df l.prog w K mg base "_law_line" ["_law_box_here", "_law_most_here", "_law_high"] 3 (spD K 103 F__law_line) := ⟨_, _, ok__law_line U__law_line N D__law_pick D__law_take, g__law_line, U__law_line.kp, b__law_line⟩
  have D__law_gates : Df l.prog w K mg base "_law_gates" ["_law_plan"] 1 (spD K 0 F__law_gates) := ⟨_, _, ok__law_gates U__law_gates N, g__law_gates, U__law_gates.kp, b__law_gates⟩
  have D__law_widths : Df l.prog w K mg base "_law_widths" ["_law_box_here", "_law_plan", "_law_high"] 3 (spD K 202 F__law_widths) := ⟨_, _, ok__law_widths U__law_widths N D__law_gates D__law_pick D__law_take, g__law_widths, U__law_widths.kp, b__law_widths⟩
  have D__law_lot : Df l.prog w K mg base "_law_lot" ["_law_box_here", "_law_plan"] 2 (spD K 201 F__law_lot) := ⟨_, _, ok__law_lot U__law_lot N D__law_take, g__law_lot, U__law_lot.kp, b__law_lot⟩
  have D__law_step : Df l.prog w K mg base "_law_step" ["_law_plan", "_law_wides", "_law_lot_here", "_law_one", "_law_mate"] 2 (spD K 0 F__law_step) := ⟨_, _, ok__law_step U__law_step N D__law_gates, g__law_step, U__law_step.kp, b__law_step⟩
  have D__law_prices : Df l.prog w K mg base "_law_prices" ["_law_plan", "_law_wides", "_law_lot_here", "_law_often"] 3 (spD K 0 F__law_prices) := ⟨_, _, ok__law_prices U__law_prices N D__law_gates D__law_step, g__law_prices, U__law_prices.kp, b__law_prices⟩
  have D__law_least : Df l.prog w K mg base "_law_least" ["_law_row", "_law_numbers"] 1 (spD K 0 F__law_least) := ⟨_, _, ok__law_least U__law_least N, g__law_least, U__law_least.kp, b__law_least⟩
  have D__law_most : Df l.prog w K mg base "_law_most" ["_law_column", "_law_numbers"] 1 (spD K 0 F__law_most) := ⟨_, _, ok__law_most U__law_most N, g__law_most, U__law_most.kp, b__law_most⟩
  have MI_Table : Mi l.prog w K mg base ["self", "line", "widths", "standing", "many"] 7 (spI K 0 F_Table) := ⟨_, _, _, TF, ⟨mk_T, a_Table, i_Table, kc_T⟩, PySem.W.mg_of X G aC_T, ok_Table U_Table N D_grid_of DN_grid_of, b_Table⟩
  have MIN_Table : Mi l.prog w K mg base ["self", "line", "widths", "standing", "many"] 7 (spIN K 0 FI_Table) := ⟨_, _, _, TF, ⟨mk_T, a_Table, i_Table, kc_T⟩, PySem.W.mg_of X G aC_T, okN_Table U_Table N D_grid_of DN_grid_of, b_Table⟩
  have MIK_Table : MiK l.prog w K mg base ["self", "line", "widths", "standing", "many"] ["many", "standing", "widths", "line"] 7 (spI K 0 F_Table) := ⟨_, _, _, TF, ⟨mk_T, a_Table, i_Table, kc_T⟩, PySem.W.mg_of X G aC_T, ok_Table U_Table N D_grid_of DN_grid_of, fun s self ws _ hl => match ws, hl with | [_, _, _, _], _ => .of_eq rfl⟩
  have M_Table_price : Mf l.prog w K mg base "price" ["self", "gate", "other"] 1 (spD K 0 F_Table_price) := ⟨_, _, _, TF, ⟨a_Table_price, i_Table_price, k_Table_price⟩, ok_Table_price U_Table_price N, b_Table_price⟩
  have MV_Table_price : MfR l.prog w K mg base "price" ["self", "gate", "other"] ["other", "gate"] 1 (spD K 0 F_Table_price) := ⟨_, _, _, TF, ⟨a_Table_price, i_Table_price, k_Table_price⟩, ok_Table_price U_Table_price N, fun s self ws _ hl => match ws, hl with | [_, _], _ => .of_eq rfl⟩
  have M_Table_steps : Mf l.prog w K mg base "steps" ["self"] 1 (spD K 0 F_Table_steps) := ⟨_, _, _, TF, ⟨a_Table_steps, i_Table_steps, k_Table_steps⟩, ok_Table_steps U_Table_steps N, b_Table_steps⟩
  have M_Table_led : Mf l.prog w K mg base "led" ["self", "counts"] 3 (spD K 0 F_Table_led) := ⟨_, _, _, TF, ⟨a_Table_led, i_Table_led, k_Table_led⟩, ok_Table_led U_Table_led N D_led_by DL_led_by, b_Table_led⟩
  have M_Table_counts : Mf l.prog w K mg base "counts" ["self"] 4 (spD K 0 F_Table_counts) := ⟨_, _, _, TF, ⟨a_Table_counts, i_Table_counts, k_Table_counts⟩, ok_Table_counts U_Table_counts N M_Table_led, b_Table_counts⟩
  have M_Table_led_back : Mf l.prog w K mg base "led_back" ["self", "counts"] 3 (spD K 0 F_Table_led_back) := ⟨_, _, _, TF, ⟨a_Table_led_back, i_Table_led_back, k_Table_led_back⟩, ok_Table_led_back U_Table_led_back N D_led_back_by DL_led_back_by, b_Table_led_back⟩
  have MV_Table_led_back : MfR l.prog w K mg base "led_back" ["self", "counts"] ["counts"] 3 (spD K 0 F_Table_led_back) := ⟨_, _, _, TF, ⟨a_Table_led_back, i_Table_led_back, k_Table_led_back⟩, ok_Table_led_back U_Table_led_back N D_led_back_by DL_led_back_by, fun s self ws _ hl => match ws, hl with | [_], _ => .of_eq rfl⟩
  have D__law_right : Df l.prog w K mg base "_law_right" ["_law_box_here"] 9 (spD K 1824 F__law_right) := ⟨_, _, ok__law_right U__law_right N MI_Table M_Table_counts M_Table_led M_Table_led_back M_Table_price M_Table_steps D__law_gates D__law_least D__law_line D__law_lot D__law_most D__law_prices D__law_same D__law_take D__law_widths MIN_Table MIK_Table MV_Table_led_back MV_Table_price, g__law_right, U__law_right.kp, b__law_right⟩
  exact ok_law U_law N D__law_box D__law_right
end Ke
open PySem PySem.W PyProof.Rows
set_option maxHeartbeats 0 in
theorem PySem.Challenge.cw_forthback_k23_tables_by_own_least_sums_holds : PySem.Challenge.rw_forthback_k23_tables_by_own_least_sums.Holds := by
  w_on; o_law; k_head; (case hw => w_witness2)
  k_fill
  refine Dv.walkGT (l := PySem.Challenge.rw_forthback_k23_tables_by_own_least_sums) (n := 63) (k := 10) (x := "_law_script") (sp := fun w => Dv.spD _ 182400 Ke.F_law) rfl (by decide) rfl ⟨rfl, by decide, by decide⟩ (fun w h Y => PySem.W.kIn_of Y) ?F (fun w _ a ns hl hT hS => Dv.law_sp (Ke.m_law []) (by decide) hS hT (Ke.law_true ns))
  case F =>
    intro w mg fa h Y KX G hmg
    refine' Ke.all_mk KX G hmg ?aC_T ?pg_T ?hd_T ?po_T ?sa_T ?mk_T ?kc_T ?n1_T ?n2_T ?n3_T ?a_is_number ?l_is_number ?e_is_number ?k_is_number ?a_gates ?l_gates ?e_gates ?k_gates ?a_cost ?l_cost ?e_cost ?k_cost ?a_is_gate ?l_is_gate ?e_is_gate ?k_is_gate ?a_costs ?l_costs ?e_costs ?k_costs ?a_gate_behind ?l_gate_behind ?e_gate_behind ?k_gate_behind ?a_Table ?i_Table ?l_Table ?e_Table ?k_Table ?a_Table_steps ?i_Table_steps ?l_Table_steps ?e_Table_steps ?k_Table_steps ?a_Table_price ?i_Table_price ?l_Table_price ?e_Table_price ?k_Table_price ?a_Table_counts ?i_Table_counts ?l_Table_counts ?e_Table_counts ?k_Table_counts ?a_Table_led ?i_Table_led ?l_Table_led ?e_Table_led ?k_Table_led ?a_Table_led_back ?i_Table_led_back ?l_Table_led_back ?e_Table_led_back ?k_Table_led_back ?a_grid_of ?l_grid_of ?e_grid_of ?k_grid_of ?a_grid_of_none ?l_grid_of_none ?e_grid_of_none ?k_grid_of_none ?a_grid_of_one ?l_grid_of_one ?e_grid_of_one ?k_grid_of_one ?a_doubled_grids ?l_doubled_grids ?e_doubled_grids ?k_doubled_grids ?a_grids_in ?l_grids_in ?e_grids_in ?k_grids_in ?a_chained ?l_chained ?e_chained ?k_chained ?a_columns_of ?l_columns_of ?e_columns_of ?k_columns_of ?a_least_sum ?l_least_sum ?e_least_sum ?k_least_sum ?a_led_by ?l_led_by ?e_led_by ?k_led_by ?a_led_back_by ?l_led_back_by ?e_led_back_by ?k_led_back_by ?a__law_box ?l__law_box ?e__law_box ?k__law_box ?a__law_take ?l__law_take ?e__law_take ?k__law_take ?a__law_pick ?l__law_pick ?e__law_pick ?k__law_pick ?a__law_same ?l__law_same ?e__law_same ?k__law_same ?a__law_line ?l__law_line ?e__law_line ?k__law_line ?a__law_gates ?l__law_gates ?e__law_gates ?k__law_gates ?a__law_widths ?l__law_widths ?e__law_widths ?k__law_widths ?a__law_lot ?l__law_lot ?e__law_lot ?k__law_lot ?a__law_step ?l__law_step ?e__law_step ?k__law_step ?a__law_prices ?l__law_prices ?e__law_prices ?k__law_prices ?a__law_least ?l__law_least ?e__law_least ?k__law_least ?a__law_most ?l__law_most ?e__law_most ?k__law_most ?a__law_right ?l__law_right ?e__law_right ?k__law_right ?a_law ?l_law ?e_law ?k_law ?ab_when ?ab_rests_when ?ab_slowest ?y_RING ?y_ROW ?z_abs ?z_all ?z_bool ?z_enumerate ?z_int ?z_isinstance ?z_len ?z_list ?z_max ?z_min ?z_range ?z_str ?z_tuple ?z_zip
    (case aC_T => k_is)
    (case pg_T => k_is)
    (case hd_T => k_is)
    (case po_T => k_is)
    (case sa_T => k_is)
    (case mk_T => k_is)
    (case kc_T => k_is)
    (case n1_T => k_is)
    (case n2_T => k_is)
    (case n3_T => k_is)
    (case a_is_number => k_is)
    (case l_is_number => k_is)
    (case e_is_number => k_is)
    (case k_is_number => k_is)
    (case a_gates => k_is)
    (case l_gates => k_is)
    (case e_gates => k_is)
    (case k_gates => k_is)
    (case a_cost => k_is)
    (case l_cost => k_is)
    (case e_cost => k_is)
    (case k_cost => k_is)
    (case a_is_gate => k_is)
    (case l_is_gate => k_is)
    (case e_is_gate => k_is)
    (case k_is_gate => k_is)
    (case a_costs => k_is)
    (case l_costs => k_is)
    (case e_costs => k_is)
    (case k_costs => k_is)
    (case a_gate_behind => k_is)
    (case l_gate_behind => k_is)
    (case e_gate_behind => k_is)
    (case k_gate_behind => k_is)
    (case a_Table => k_is)
    (case i_Table => k_is)
    (case l_Table => k_is)
    (case e_Table => k_is)
    (case k_Table => k_is)
    (case a_Table_steps => k_is)
    (case i_Table_steps => k_is)
    (case l_Table_steps => k_is)
    (case e_Table_steps => k_is)
    (case k_Table_steps => k_is)
    (case a_Table_price => k_is)
    (case i_Table_price => k_is)
    (case l_Table_price => k_is)
    (case e_Table_price => k_is)
    (case k_Table_price => k_is)
    (case a_Table_counts => k_is)
    (case i_Table_counts => k_is)
    (case l_Table_counts => k_is)
    (case e_Table_counts => k_is)
    (case k_Table_counts => k_is)
    (case a_Table_led => k_is)
    (case i_Table_led => k_is)
    (case l_Table_led => k_is)
    (case e_Table_led => k_is)
    (case k_Table_led => k_is)
    (case a_Table_led_back => k_is)
    (case i_Table_led_back => k_is)
    (case l_Table_led_back => k_is)
    (case e_Table_led_back => k_is)
    (case k_Table_led_back => k_is)
    (case a_grid_of => k_is)
    (case l_grid_of => k_is)
    (case e_grid_of => k_is)
    (case k_grid_of => k_is)
    (case a_grid_of_none => k_is)
    (case l_grid_of_none => k_is)
    (case e_grid_of_none => k_is)
    (case k_grid_of_none => k_is)
    (case a_grid_of_one => k_is)
    (case l_grid_of_one => k_is)
    (case e_grid_of_one => k_is)
    (case k_grid_of_one => k_is)
    (case a_doubled_grids => k_is)
    (case l_doubled_grids => k_is)
    (case e_doubled_grids => k_is)
    (case k_doubled_grids => k_is)
    (case a_grids_in => k_is)
    (case l_grids_in => k_is)
    (case e_grids_in => k_is)
    (case k_grids_in => k_is)
    (case a_chained => k_is)
    (case l_chained => k_is)
    (case e_chained => k_is)
    (case k_chained => k_is)
    (case a_columns_of => k_is)
    (case l_columns_of => k_is)
    (case e_columns_of => k_is)
    (case k_columns_of => k_is)
    (case a_least_sum => k_is)
    (case l_least_sum => k_is)
    (case e_least_sum => k_is)
    (case k_least_sum => k_is)
    (case a_led_by => k_is)
    (case l_led_by => k_is)
    (case e_led_by => k_is)
    (case k_led_by => k_is)
    (case a_led_back_by => k_is)
    (case l_led_back_by => k_is)
    (case e_led_back_by => k_is)
    (case k_led_back_by => k_is)
    (case a__law_box => k_is)
    (case l__law_box => k_is)
    (case e__law_box => k_is)
    (case k__law_box => k_is)
    (case a__law_take => k_is)
    (case l__law_take => k_is)
    (case e__law_take => k_is)
    (case k__law_take => k_is)
    (case a__law_pick => k_is)
    (case l__law_pick => k_is)
    (case e__law_pick => k_is)
    (case k__law_pick => k_is)
    (case a__law_same => k_is)
    (case l__law_same => k_is)
    (case e__law_same => k_is)
    (case k__law_same => k_is)
    (case a__law_line => k_is)
    (case l__law_line => k_is)
    (case e__law_line => k_is)
    (case k__law_line => k_is)
    (case a__law_gates => k_is)
    (case l__law_gates => k_is)
    (case e__law_gates => k_is)
    (case k__law_gates => k_is)
    (case a__law_widths => k_is)
    (case l__law_widths => k_is)
    (case e__law_widths => k_is)
    (case k__law_widths => k_is)
    (case a__law_lot => k_is)
    (case l__law_lot => k_is)
    (case e__law_lot => k_is)
    (case k__law_lot => k_is)
    (case a__law_step => k_is)
    (case l__law_step => k_is)
    (case e__law_step => k_is)
    (case k__law_step => k_is)
    (case a__law_prices => k_is)
    (case l__law_prices => k_is)
    (case e__law_prices => k_is)
    (case k__law_prices => k_is)
    (case a__law_least => k_is)
    (case l__law_least => k_is)
    (case e__law_least => k_is)
    (case k__law_least => k_is)
    (case a__law_most => k_is)
    (case l__law_most => k_is)
    (case e__law_most => k_is)
    (case k__law_most => k_is)
    (case a__law_right => k_is)
    (case l__law_right => k_is)
    (case e__law_right => k_is)
    (case k__law_right => k_is)
    (case a_law => k_is)
    (case l_law => k_is)
    (case e_law => k_is)
    (case k_law => k_is)
    (case ab_when => k_is)
    (case ab_rests_when => k_is)
    (case ab_slowest => k_is)
    (case y_RING => k_is)
    (case y_ROW => k_is)
    (case z_abs => k_is)
    (case z_all => k_is)
    (case z_bool => k_is)
    (case z_enumerate => k_is)
    (case z_int => k_is)
    (case z_isinstance => k_is)
    (case z_len => k_is)
    (case z_list => k_is)
    (case z_max => k_is)
    (case z_min => k_is)
    (case z_range => k_is)
    (case z_str => k_is)
    (case z_tuple => k_is)
    (case z_zip => k_is)
